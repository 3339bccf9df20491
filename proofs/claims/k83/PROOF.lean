import PyProof.Rows.All
import Wide.All
import OpenK.AllK
import Wide.FinOn
import Lean
import PyProof.EqAt
import PyProof.EqKinds
import PyProof.TupleCall
import PyProof.NeKinds
import PyProof.ListRange
import OpenK.KOwn
import KE.KTryMore
import KE.KSorted
import KE.KSort
import PyProof.Rows.SortWalk
import PyProof.SeqI3
import PyProof.Rows.SumAny
import PyProof.Rows.SeqMore2
import KE.KListMore
import PyProof.Rows.Range3
import PyProof.Cells
import KE.KTabLook
import PyProof.SliceStr2
import PyProof.StrBlockI
import PyProof.Rows.FStr
import PyProof.Rows.StrNews2
import PyProof.ListStr
import PyProof.Rows.StrStep
import PyProof.Rows.StrJoinStr
import PyProof.StrLawsTight
import PyProof.StrLawsChain
import PyProof.StrLawsFirst
import PyProof.StrLawsIn
import PyProof.StrLawsIdx
import PyProof.StrLawsNeg
import PyProof.Rows.RuleM_int
import PyProof.FactsAll.int_6
import OpenK.AllK
import PyProof.Rows.StrDigits
import PySem.Challenge.RW_braidcomb_k83_combed
open PySem.W (instObj methodObj lookIn plainGet hasDictIn findIn handedIn plainGet_of isFn plainOver takerIn Looks makesIn typeIn emptyDict looks_findIn keepIn specialIn takesIn mroIn kitOne kia_one kitx_none kitx_list kitx_tuple kitx_dict callWith_K methodCall_KW cellsFrom_some codeIn nsIn excIn exmOne exm_one clsIn subIn findObj KitX mg_of mg_none_of kIn_of)
open Nat (lt_of_lt_of_le ne_of_lt le_trans le_of_lt ne_of_gt le_refl zero_le le_of_eq succ_mul zero_add min_eq_left sub_self reduceAdd reduceSub reduceEqDiff ble)
open List (range mem_filter mem_range filterMap_cons mem_cons_self mem_cons_of_mem mem_cons mem_append mem_append_left getElem?_set_self getElem?_set_ne mem_append_right size_toArray length_cons map_cons length_map append_nil nodup_cons of_mem_zip replicate length length_take getElem?_append_right getElem?_replicate getElem?_append_left getElem?_map mem_of_getElem? length_append length_replicate map_nil length_drop length_set reverse_cons replicate_succ flatten_cons foldl foldl_cons length_singleton length_reverse nil_append Pairwise find?_cons any_cons cons_append length_nil getElem_of_mem getElem?_eq_getElem dropLast_eq_take drop_zero drop_length lookup_cons not_mem_nil getElem?_reverse all_cons range' length_range all_eq_true map_drop map_map map_append take_length take_of_length_le map_set map_reverse map mem_reverse reverse_perm range_succ flatten_append flatten_nil mem_map mem_of_mem_take take_succ map_id map_congr_left takeWhile drop reverse Nodup sum_cons Perm map_dropLast foldl_append mem_singleton)
open Array (length_toList toList)
open Option (isSome_iff_exists getD_none isSome_some map_some isSome_map bind_some getD)
open Int (toNat_natCast emod_nonneg emod_lt_of_pos)
open PySem.F (slot_dict_get entry_dict_get type_dict_get plainAttrs_list slot_list_pop type_list_pop plainAttrs_str slot_str_split entry_str_split args_str_split_2 slot_dict_len)
open Classical (propDecidable)
open Bool (and_eq_true false_eq_true or_eq_true not_eq_true')
noncomputable section
set_option Elab.async false
set_option linter.all false
set_option maxRecDepth 100000
namespace L2
open PySem PySem.Spec PyProof.Rows
abbrev Key:=Sum Int Str
def yU:Key->Value->Bool
 |.inl k,v=>Value.isInt k v
 |.inr x,v=>Value.isStrOf x v
def YH(w:World):Key->Int
 |.inl k=>hashInt k
 |.inr x=>hashStr w x
theorem cG:∀{k:Key}{v:Value},yU k v=true->(∃i t,k=Sum.inl i/\v=Value.int i t)\/(∃x t,k=Sum.inr x/\v=Value.str x t)
 |.inl i,v,h=>by
  obtain⟨t,e⟩:=Value.isInt_shape (k:=i) (v:=v) h
  exact .inl ⟨i,t,rfl,e⟩
 |.inr x,v,h=>by
  obtain⟨t,e⟩:=Value.isStrOf_shape (x:=x) (v:=v) h
  exact .inr ⟨x,t,rfl,e⟩
theorem FG(i:Int)(t:Tok):yU (.inl i) (.int i t)=true:=by simp[yU,Value.isInt]
theorem FH(x:Str)(t:Tok):yU (.inr x) (.str x t)=true:=by simp[yU,Value.isStrOf]
theorem Qo(a b:Int):decide ((Sum.inl a:Key)=Sum.inl b)=(a==b):=by
 by_cases e:a=b
 ·subst e;simp
 ·have h:¬(Sum.inl a:Key)=Sum.inl b:=fun q=>e (Sum.inl.inj q)
  rw[decide_eq_false h]
  exact(beq_eq_false_iff_ne.mpr e).symm
theorem Qp(a b:Str):decide ((Sum.inr a:Key)=Sum.inr b)=decide (a=b):=by
 by_cases e:a=b
 ·subst e;simp
 ·have h:¬(Sum.inr a:Key)=Sum.inr b:=fun q=>e (Sum.inr.inj q)
  rw[decide_eq_false h,decide_eq_false e]
theorem Qq(a:Int)(b:Str):decide ((Sum.inl a:Key)=Sum.inr b)=false:=decide_eq_false (fun q=>nomatch q)
theorem Qs(a:Str)(b:Int):decide ((Sum.inr a:Key)=Sum.inl b)=false:=decide_eq_false (fun q=>nomatch q)
def cY(prog:Program)(w:World):PySem.KeyKind prog w Key where
 is:=yU
 hash:=YH w
 inj:=fun v a b ha hb=>by
  rcases cG ha with⟨i,t,rfl,rfl⟩|⟨x,t,rfl,rfl⟩
  ·rcases cG hb with⟨j,u,rfl,e⟩|⟨y,u,rfl,e⟩
   ·injection e with e1 _;rw[e1]
   ·exact nomatch e
  ·rcases cG hb with⟨j,u,rfl,e⟩|⟨y,u,rfl,e⟩
   ·exact nomatch e
   ·injection e with e1 _;rw[e1]
 byValue:=fun k v h=>by
  rcases cG h with⟨i,t,rfl,rfl⟩|⟨x,t,rfl,rfl⟩<;>rfl
 pyHash:=fun hv h=>by
  rcases cG hv with⟨i,t,rfl,rfl⟩|⟨x,t,rfl,rfl⟩
  ·exact wpAny_pyHash_int h
  ·exact wpAny_pyHash_str h
 eqBool:=fun hu hv h=>by
  rcases cG hu with⟨i,t,rfl,rfl⟩|⟨x,t,rfl,rfl⟩
  ·rcases cG hv with⟨j,u,rfl,rfl⟩|⟨y,u,rfl,rfl⟩
   ·rw[Qo]at h;exact wpAny_eqBool_int h
   ·rw[Qq]at h;exact SeqAt.EqAt.int_str i t y u _ _ _ _ h
  ·rcases cG hv with⟨j,u,rfl,rfl⟩|⟨y,u,rfl,rfl⟩
   ·rw[Qs]at h;exact SeqAt.EqAt.str_int x t j u _ _ _ _ h
   ·rw[Qp]at h;exact wpAny_eqBool_str h
 «strs» :=fun k x t v h=>by
  rcases cG h with⟨i,u,rfl,e⟩|⟨y,u,rfl,e⟩
  ·exact nomatch e
  ·injection e with e1 _
   subst e1
   cases v<;>rfl
theorem AL(prog:Program)(w:World)(i:Int)(t:Tok):(cY prog w).is (.inl i) (.int i t)=true:=FG i t
theorem AM(prog:Program)(w:World)(x:Str)(t:Tok):(cY prog w).is (.inr x) (.str x t)=true:=FH x t
end L2
namespace L2
open PySem PySem.Spec PyProof.Rows
inductive V where
 |non|bl (b:Bool)|int (i:Int)|str (x:Str)|Hf (b:Array UInt8)|Qt (b:UInt64)|ref (a:Addr)|ty (n:String)
 deriving DecidableEq
def RelV:V->Value->Prop
 |.non,u=>u=Value.none
 |.bl b,u=>u=Value.bool b
 |.int i,u=>∃t,u=Value.int i t
 |.str x,u=>∃t,u=Value.str x t
 |.Hf b,u=>∃t,u=Value.bytes b t
 |.Qt b,u=>∃t,u=Value.float b t
 |.ref a,u=>u=Value.ref a
 |.ty n,u=>u=Value.type n
abbrev Vals:List V->List Value->Prop:=Paired RelV
theorem Vals.length {xs:List V}{us:List Value}(r:Vals xs us):xs.length=us.length:=Paired.length r
theorem Vals.get:∀{xs:List V}{us:List Value}{i:Nat}{x:V},Vals xs us->xs[i]?=some x->∃u,us[i]?=some u/\RelV x u
 |_,_,_,_,.nil,e=>by simp at e
 |_,_,0,_,.cons r _,e=>by simp at e;subst e;exact⟨_,rfl,r⟩
 |_,_,i+1,x,.cons _ t,e=>by
  obtain⟨u,h1,h2⟩:=Vals.get (i:=i) (x:=x) t (by simpa using e)
  exact⟨u,by simpa using h1,h2⟩
theorem Vals.set {x:V}{u:Value}(r:RelV x u):∀{xs:List V}{us:List Value}(i:Nat),Vals xs us->Vals (xs.set i x) (us.set i u)
 |_,_,_,.nil=>.nil
 |_,_,0,.cons _ t=>.cons r t
 |_,_,i+1,.cons q t=>.cons q (Vals.set r i t)
theorem Vals.append:∀{xs ys:List V}{us ws:List Value},Vals xs us->Vals ys ws->Vals (xs++ys) (us++ws)
 |_,_,_,_,.nil,s=>s
 |_,_,_,_,.cons r t,s=>.cons r (Vals.append t s)
theorem Vals.take:∀{xs:List V}{us:List Value}(n:Nat),Vals xs us->Vals (xs.take n) (us.take n)
 |_,_,0,_=>.nil
 |_,_,_+1,.nil=>.nil
 |_,_,n+1,.cons r t=>.cons r (Vals.take n t)
theorem Vals.drop:∀{xs:List V}{us:List Value}(n:Nat),Vals xs us->Vals (xs.drop n) (us.drop n)
 |_,_,0,r=>r
 |_,_,_+1,.nil=>.nil
 |_,_,n+1,.cons _ t=>Vals.drop n t
def oh:Option V->Option Value->Prop
 |some v,some u=>RelV v u
 |none,none=>True
 |_,_=>False
def KV{κ:Type}:List (κ×V)->List (κ×Value)->Prop:=Paired fun(p:κ×V)(q:κ×Value)=>p.1=q.1/\RelV p.2 q.2
def kV:Key->V
 |.inl i=>.int i
 |.inr x=>.str x
inductive HO where
 |lst (xs:List V)
 |tup (xs:List V)
 |dK (kvs:List (Key×V))|dT (kvs:List (List Key×V))
 |set (S:Int->Bool) (n:Nat)
 |ins (C dx:Addr) (fs:List (Str×V))
 |own (x:Addr)
 |xd (fs:List (Str×V))
 |met (f x:Addr)
 |XG (lo hi:Int)
 |ym (o:Obj) (u:HO)
 |N7 (ps:Array Value)
 |ext (φ:Heap->Prop)
abbrev Hp:=Addr->Option HO
def upd(H:Hp)(a:Addr)(o:HO):Hp:=fun b=>if b=a then some o else H b
theorem ak{H:Hp}{a:Addr}{o:HO}:upd H a o a=some o:=by unfold upd;rw[if_pos rfl]
theorem ae{H:Hp}{a b:Addr}{o:HO}(h:b≠a):upd H a o b=H b:=by unfold upd;rw[if_neg h]
theorem bD{H:Hp}{a b:Addr}{o u:HO}(h:H a=some o)(h':H b=some u)(d:o≠u):a≠b:=by
 intro e;subst e;rw[h]at h';exact d (Option.some.inj h')
theorem ao{H:Hp}{a b:Addr}{o:HO}(h:H a=some o)(h':H b=none):a≠b:=by
 intro e;subst e;rw[h]at h';cases h'
section
variable(P:Program)(w:World)
def bX(H:Hp)(h:Heap)(a:Addr):HO->Prop
 |.lst xs=>xs.length<=sizeLine/\∃(its:List Value)(n:Nat),Vals xs its/\h.get? a=some {cls:=.type "list",data:=.seq its.toArray n}
 |.tup xs=>xs.length<=sizeLine/\∃its:List Value,Vals xs its/\IsTup h a its.toArray
 |.dK kvs=>kvs.length<=sizeLine/\(a==sysModules)=false/\∃vs,KV kvs vs/\h.DictOf (cY P w) a vs
 |.dT kvs=>kvs.length<=sizeLine/\(a==sysModules)=false/\∃xs:List (List Key×Addr×Value),
   Paired (fun(p:List Key×V)(q:List Key×Addr×Value)=>p.1=q.1/\H q.2.1=some (.tup (p.1.map kV))/\RelV p.2 q.2.2) kvs xs/\
   ∃o es ep,h.get? a=some o/\o.ExactDict/\o.data=.dict es ep/\es.toList=xs.map (entryOfKey (tupleKind (cY P w)))/\(xs.map (·.1)).Nodup
 |.set S n=>h.SetOf (intKind P w) a S n
 |.ins C dx fs=>H dx=some (.own a)/\fs.length<=1000/\dx≠a/\h.get? a=some (instObj C dx)/\
   ∃mA,h.Ns1 dx mA/\(∀f,oh (fs.lookup f) (mA f))/\PySem.Within mA (fs.map (·.1))
 |.own _=>∃o,h.get? a=some o
 |.xd fs=>∃mA,h.Ns1 a mA/\∀f,oh (fs.lookup f) (mA f)
 |.XG lo hi=>∃t u v,h.get? a=some {cls:=.type "range",data:=.fields #[.int lo t,.int hi u,.int 1 v]}
 |.ym o u=>h.get? a=some o/\bX H h a u
 |.N7 ps=>h.get? a=some {cls:=.none,data:=.fields ps}
 |.met f x=>h.get? a=some (methodObj (.ref f) (.ref x))
 |.ext φ=>φ h/\(∃o,h.get? a=some o)/\∀h1 h2:Heap,φ h1->(∀o,h1.get? a=some o->h2.get? a=some o)->φ h2
def mw(H:Hp)(h:Heap):Prop:=∀a o,H a=some o->bX P w H h a o
end
section
variable{P:Program}{w:World}{H H':Hp}{h h':Heap}{a:Addr}{o:HO}
theorem bX.lt (x:bX P w H h a o):a<h.objs.size:=by
 cases o with
 |lst xs=>obtain⟨_,_,_,_,e⟩:=x;exact Heap.lt_size e
 |tup xs=>obtain⟨_,_,_,p⟩:=x;exact p.lt
 |dK kvs=>obtain⟨_,_,_,_,o,_,_,e,_⟩:=x;exact Heap.lt_size e
 |dT kvs=>obtain⟨_,_,_,_,o,_,_,e,_⟩:=x;exact Heap.lt_size e
 |set S n=>obtain⟨o,_,_,_,e,_⟩:=x;exact Heap.lt_size e
 |ins C dx fs=>obtain⟨_,_,_,e,_⟩:=x;exact Heap.lt_size e
 |own y=>obtain⟨_,e⟩:=x;exact Heap.lt_size e
 |xd fs=>obtain⟨_,⟨_,_,_,e,_⟩,_⟩:=x;exact Heap.lt_size e
 |XG lo hi=>obtain⟨_,_,_,e⟩:=x;exact Heap.lt_size e
 |ym ob u=>obtain⟨e,_⟩:=x;exact Heap.lt_size e
 |N7 ps=>exact Heap.lt_size (show h.get? a=some _ from x)
 |met f y=>exact Heap.lt_size (show h.get? a=some _ from x)
 |ext φ=>obtain⟨_,⟨_,e⟩,_⟩:=x;exact Heap.lt_size e
theorem Paired.Qu {α β:Type}{F G:α->β->Prop}:∀{l₁:List α}{l₂:List β},Paired F l₁ l₂->(∀a b,F a b->G a b)->Paired G l₁ l₂
 |_,_,.nil,_=>.nil
 |_,_,.cons r t,f=>.cons (f _ _ r) (Paired.Qu t f)
theorem bX.yt (x:bX P w H h a o)(k:∀b u,(b=a\/H b=some (.own a))->h.get? b=some u->h'.get? b=some u)
  (ho:∀b,H b=some (.own a)->H' b=some (.own a))(ht:∀b xs,H b=some (.tup xs)->H' b=some (.tup xs)):bX P w H' h' a o:=by
 induction o with
 |lst xs=>obtain⟨z,its,n,r,e⟩:=x;exact⟨z,its,n,r,k _ _ (.inl rfl) e⟩
 |tup xs=>obtain⟨z,its,r,ob,e,c⟩:=x;exact⟨z,its,r,ob,k _ _ (.inl rfl) e,c⟩
 |dK kvs=>obtain⟨z,y,vs,r,ob,es,ep,e,c⟩:=x;exact⟨z,y,vs,r,ob,es,ep,k _ _ (.inl rfl) e,c⟩
 |dT kvs=>
  obtain⟨z,y,xs,r,ob,es,ep,e,c⟩:=x
  exact⟨z,y,xs,Paired.Qu r fun p q z=>⟨z.1,ht _ _ z.2.1,z.2.2⟩,ob,es,ep,k _ _ (.inl rfl) e,c⟩
 |set S n=>obtain⟨ob,es,ep,t,e,c⟩:=x;exact⟨ob,es,ep,t,k _ _ (.inl rfl) e,c⟩
 |ins C dx fs=>
  obtain⟨d,z,ne,e,mA,⟨od,es,ep,e2,c⟩,r⟩:=x
  exact⟨ho _ d,z,ne,k _ _ (.inl rfl) e,mA,⟨od,es,ep,k _ _ (.inr d) e2,c⟩,r⟩
 |own y=>obtain⟨ob,e⟩:=x;exact⟨ob,k _ _ (.inl rfl) e⟩
 |xd fs=>obtain⟨mA,⟨od,es,ep,e,c⟩,r⟩:=x;exact⟨mA,⟨od,es,ep,k _ _ (.inl rfl) e,c⟩,r⟩
 |XG lo hi=>obtain⟨t,u,v,e⟩:=x;exact⟨t,u,v,k _ _ (.inl rfl) e⟩
 |ym ob u ih=>obtain⟨e,q⟩:=x;exact⟨k _ _ (.inl rfl) e,ih q⟩
 |N7 ps=>
  have e:h.get? a=some {cls:=.none,data:=.fields ps}:=x
  show h'.get? a=some {cls:=.none,data:=.fields ps}
  exact k a _ (.inl rfl) e
 |met f y=>
  have e:h.get? a=some (methodObj (.ref f) (.ref y)):=x
  show h'.get? a=some (methodObj (.ref f) (.ref y))
  exact k a _ (.inl rfl) e
 |ext φ=>obtain⟨p,⟨o,e⟩,st⟩:=x;exact⟨st _ _ p fun o q=>k _ _ (.inl rfl) q,⟨o,k _ _ (.inl rfl) e⟩,st⟩
theorem mw.lt (x:mw P w H h)(e:H a=some o):a<h.objs.size:=(x a o e).lt
theorem mw.fresh (x:mw P w H h)(e:h.objs.size<=a):H a=none:=by
 cases q:H a with
 |none=>rfl
 |some u=>exact absurd (lt_of_lt_of_le (x.lt q) e) (Nat.lt_irrefl _)
theorem mw.kept (x:mw P w H h)(k:∀b u,h.get? b=some u->h'.get? b=some u):mw P w H h':=fun a o e=>
 (x a o e).yt (fun b u _ q=>k b u q) (fun _ q=>q) fun _ _ q=>q
theorem mw.laid (x:mw P w H h)(k:∀b u,h.get? b=some u->h'.get? b=some u)(hp:h.objs.size<=a)(new:bX P w (upd H a o) h' a o):mw P w (upd H a o) h':=fun b u e=>by
 have hn:=x.fresh hp
 by_cases hb:b=a
 ·subst hb;rw[ak]at e;cases e;exact new
 ·rw[ae hb]at e
  exact(x b u e).yt (fun c v _ q=>k c v q) (fun c q=>by rw[ae (ao q hn)];exact q) fun c xs q=>by rw[ae (ao q hn)];exact q
end
def Rd(H:Hp)(a:Addr)(u:HO):Prop:=H a=some u\/∃o,H a=some (.ym o u)
theorem Rd.ok {P:Program}{w:World}{H:Hp}{h:Heap}{a:Addr}{u:HO}(r:Rd H a u)(x:mw P w H h):bX P w H h a u:=by
 rcases r with r|⟨o,r⟩
 ·exact x a u r
 ·obtain⟨_,q⟩:=x a _ r
  exact q
def Ub:Option HO->Prop
 |some (.lst _)=>True
 |some (.dK _)=>True
 |some (.dT _)=>True
 |some (.set _ _)=>True
 |some (.ins _ _ _)=>True
 |some (.ext _)=>True
 |_=>False
section
variable{P:Program}{w:World}{H:Hp}{h h':Heap}{x e:Addr}{o':HO}
theorem mw.write (ok:mw P w H h)(mu:Ub (H x))(he:e=x\/H e=some (.own x))(k:∀b u,b≠e->h.get? b=some u->h'.get? b=some u)(Tj:∃u,h'.get? e=some u)
  (new:bX P w (upd H x o') h' x o'):mw P w (upd H x o') h':=fun b u q=>by
 have Uc:∀c y,H c=some (.own y)->c≠x:=fun c y r z=>by subst z;rw[r]at mu;exact mu
 have YJ:∀c xs,H c=some (.tup xs)->c≠x:=fun c xs r z=>by subst z;rw[r]at mu;exact mu
 by_cases hb:b=x
 ·subst hb;rw[ak]at q;cases q;exact new
 ·rw[ae hb]at q
  by_cases Qw:b=e
  ·have q':H b=some (.own x):=by
    rcases he with z|z
    ·exact absurd (Qw.trans z) hb
    ·rw[Qw];exact z
   rw[q]at q';cases q'
   obtain⟨v,hv⟩:=Tj
   exact⟨v,by rw[Qw];exact hv⟩
  ·refine(ok b u q).yt (fun c v hc r=>k c v ?_ r) (fun c r=>by rw[ae (Uc c b r)];exact r) fun c xs r=>by rw[ae (YJ c xs r)];exact r
   rcases hc with rfl|hc
   ·exact Qw
   ·rintro rfl
    rcases he with z|z
    ·exact Uc c b hc z
    ·rw[hc]at z;cases z;exact hb rfl
end
structure Un(fs ex:List Addr)(H H':Hp)(h h':Heap):Prop where
 keep:∀b o,h.get? b=some o->H b=none->b∉fs->b∉ex->h'.get? b=some o
 slot:∀b o,h.get? b=some o->H b=none->b∈fs->b∉ex->∃sl,h'.get? b=some {o with slots:=sl}
 free:∀b o,h.get? b=some o->H b=none->b∉ex->H' b=none
 there:∀b o,h.get? b=some o->b∉ex->∃o',h'.get? b=some o'
 tups:∀b xs,H b=some (.tup xs)->H' b=some (.tup xs)
 tV:∀b o u,H b=some (.ym o u)->H' b=some (.ym o u)
 vj:∀b ps,H b=some (.N7 ps)->∃more,H' b=some (.N7 (ps++more))
section
variable{fs XH ex XI:List Addr}{H H1 H2:Hp}{h h1 h2 h':Heap}{a x e:Addr}{o:HO}
theorem Un.any (u:Un fs ex H H1 h h1){b:Addr}{ob:Obj}(q:h.get? b=some ob)(n:H b=none)(hx:b∉ex):∃sl,h1.get? b=some {ob with slots:=sl}:=by
 by_cases hb:b∈fs
 ·exact u.slot b ob q n hb hx
 ·exact⟨ob.slots,u.keep b ob q n hb hx⟩
theorem Un.kept (k:∀b u,h.get? b=some u->h'.get? b=some u):Un fs ex H H h h':=
 ⟨fun b ob q _ _ _=>k b ob q,fun b ob q _ _ _=>⟨ob.slots,k b ob q⟩,fun _ _ _ n _=>n,fun b ob q _=>⟨ob,k b ob q⟩,fun _ _ q=>q,fun _ _ _ q=>q,fun _ ps q=>⟨#[],by rw[q];simp⟩⟩
theorem Un.refl:Un fs ex H H h h:=Un.kept fun _ _ q=>q
theorem Un.laid (k:∀b u,h.get? b=some u->h'.get? b=some u)(hp:h.objs.size<=a)(hn:H a=none):Un fs ex H (upd H a o) h h' where
 keep:=fun b u q _ _ _=>k b u q
 slot:=fun b u q _ _ _=>⟨u.slots,k b u q⟩
 free:=fun b u q n _=>by rw[ae (ne_of_lt (lt_of_lt_of_le (Heap.lt_size q) hp))];exact n
 there:=fun b u q _=>⟨u,k b u q⟩
 tups:=fun b xs q=>by rw[ae (ao q hn)];exact q
 tV:=fun b u xs q=>by rw[ae (ao q hn)];exact q
 vj:=fun b ps q=>⟨#[],by rw[ae (ao q hn),q];simp⟩
theorem Un.write (mu:Ub (H x))(he:e=x\/H e=some (.own x))(k:∀b u,b≠e->h.get? b=some u->h'.get? b=some u)(Tj:∃u,h'.get? e=some u):Un fs ex H (upd H x o) h h':=by
 have hx:∀b,H b=none->b≠x:=fun b n z=>by subst z;rw[n]at mu;exact mu
 have hb:∀b,H b=none->b≠e:=fun b n z=>by
  subst z
  rcases he with r|r
  ·exact hx b n r
  ·rw[n]at r;cases r
 have hm:∀b u,H b=some u->¬Ub (some u)->b≠x:=fun b u q nm z=>by subst z;rw[q]at mu;exact nm mu
 refine⟨fun b u q n _ _=>k b u (hb b n) q,fun b u q n _ _=>⟨u.slots,k b u (hb b n) q⟩,fun b u q n _=>by rw[ae (hx b n)];exact n,fun b u q _=>?_,
  fun b xs q=>by rw[ae (hm b _ q fun z=>z)];exact q,fun b u xs q=>by rw[ae (hm b _ q fun z=>z)];exact q,fun b ps q=>⟨#[],by rw[ae (hm b _ q fun z=>z),q];simp⟩⟩
 by_cases Qw:b=e
 ·subst Qw;exact Tj
 ·exact⟨u,k b u Qw q⟩
end
def XJ(h:Heap)(H:Hp):List Addr:=(range h.objs.size).filter fun a=>(H a).isSome
def zE(h:Heap)(H:Hp):Heap:=PySem.W.hideAll h (XJ h H)
theorem FI(h:Heap)(H:Hp):(zE h H).objs.size=h.objs.size:=PySem.W.hideAll_size _ _
theorem Ht{h:Heap}{H:Hp}{b:Addr}{o:Obj}(e:h.get? b=some o)(n:H b=none):(zE h H).get? b=some o:=
 PySem.W.hideAll_get _ e fun hm=>by
  have q:(H b).isSome=true:=(mem_filter.mp hm).2
  rw[n]at q;simp at q
theorem LA{h:Heap}{H:Hp}{b:Addr}{o:Obj}(e:(zE h H).get? b=some o):h.get? b=some o/\H b=none:=by
 have e':h.get? b=some o:=PySem.W.of_hideAll (XJ h H) e
 refine⟨e',?_⟩
 cases q:H b with
 |none=>rfl
 |some x=>
  have hm:b∈XJ h H:=mem_filter.mpr ⟨mem_range.mpr (Heap.lt_size e'),by simp[q]⟩
  have z:(zE h H).get? b=none:=PySem.W.hideAll_none (XJ h H) hm
  rw[z]at e;cases e
def LB(g h:Heap)(L:Addr):List (Addr×Obj):=(range h.objs.size).filterMap fun a=>if a=L\/(g.get? a).isSome=true then none else(h.get? a).map fun o=>(a,o)
def rest(g h:Heap)(L d:Addr):List (Addr×Obj):=(LB g h L).filter fun p=>decide (p.1≠d)
end L2
namespace L2
open PySem PySem.Spec PyProof.Rows
structure Mod(K:PySem.W.Frag)(mg:Str->Option Value)(base:Heap):Prop where
 N8:K.In base
 glob:base.Ns mainGlobals mg
 blt:∃mb,base.Ns builtinsNs mb/\∀x:Str,x≠"__name__"->mb x=bootBuiltins x
 nolimit:base.NoLimit
structure Cx where
 prog:Program
 w:World
 K:PySem.W.Frag
 mg:Str->Option Value
 base:Heap
 A:Around
 N:List Str
 s₀:Shared
 H₀:Hp
 env:Env
 outer:List Env
 stack:List Env
 ex:List Addr
 fn:Str->Bool
 calm:Bool
 pn:List (Addr×Obj)
 xe:Value->Shared->Prop
def wk(l:List Env):List Addr:=l.filterMap (·.frame)
abbrev Cx.fs (X:Cx):List Addr:=wk X.outer
def yV(sc:Scope)(x:Str):Prop:=sc.names.lookup x=some .local\/sc.names.lookup x=some .cell\/sc.names.lookup x=some .free
def Loc(sc:Scope)(x:Str):Prop:=sc.names.lookup x=some .local\/sc.names.lookup x=some .cell
def Look(env:Env)(h:Heap)(m:Str->Option Value)(x:Str)(u:Value):Prop:=
 (env.kindOf x=some .local/\m x=some u)\/((env.kindOf x=some .cell\/env.kindOf x=some .free)/\∃c,env.cells.lookup x=some c/\h.IsCell c (some u))
structure Cx.Ok (X:Cx):Prop where
 mod:Mod X.K X.mg X.base
 kind:X.env.scope.kind=.function
 glob:X.env.globals=mainGlobals
 blt:X.env.builtins=builtinsNs
 above:X.s₀.heap.objs.size<=X.env.locals
 inj:∀x y c,X.env.cells.lookup x=some c->X.env.cells.lookup y=some c->x=y
 has:∀x,(X.env.kindOf x=some .cell\/X.env.kindOf x=some .free)->∃c,X.env.cells.lookup x=some c
 N9:∀x c,X.fn x=true->X.env.cells.lookup x=some c->X.s₀.heap.objs.size<=c
 hd:X.calm=true->X.A.handled=none
 frames:X.A.frames=some X.stack
 Qx:X.stack=X.outer\/(X.stack=X.env::X.outer/\X.env.frame=some X.env.locals)
 Oa:∀b∈X.ex,b≠X.env.locals/\∀x c,X.env.cells.lookup x=some c->c≠b
 bs:∀b o,X.base.get? b=some o->X.s₀.heap.get? b=some o/\X.H₀ b=none
 Hg:X.base.objs.size<=X.s₀.heap.objs.size
 AO:∀b o,X.base.get? b=some o->b∉X.ex
 yu:∀b∈X.ex,b∉X.fs
 qH:X.s₀.heap.FunFrames X.base X.outer
 Lc:∀b∈X.fs,X.H₀ b=none
structure Inv(X:Cx)(pins:List (Addr×Obj))(σ:List (Option V))(H:Hp)(s:Shared):Prop where
 ok:X.Ok
 os:s.os=X.s₀.os
 bare:AllBare s.gens
 base:Un X.fs X.ex X.H₀ H X.s₀.heap s.heap
 loc:∃m,s.heap.Ns X.env.locals m/\∀(i:Nat)(x:Str)(v:V),X.N[i]?=some x->σ[i]?=some (some v)->yV X.env.scope x->∃u,RelV v u/\Look X.env s.heap m x u
 cell:∀x c,X.env.cells.lookup x=some c->∃v,s.heap.IsCell c v
 free:H X.env.locals=none
 ki:∀x c,X.env.cells.lookup x=some c->H c=none
 pin:∀p∈X.pn++pins,s.heap.get? p.1=some p.2/\H p.1=none/\p.1≠X.env.locals/\p.1∉X.fs/\∀v,p.2.data≠.cell v
 hok:mw X.prog X.w H s.heap
 len:σ.length=X.N.length
section
variable{X:Cx}{pins:List (Addr×Obj)}{σ:List (Option V)}{H H':Hp}{s:Shared}{h':Heap}
theorem Cx.Ok.YK (ok:X.Ok){b:Addr}{o:Obj}(e:X.base.get? b=some o):b∉X.fs:=fun hb=>by
 have:=(ok.qH.mem hb).1
 rw[e]at this;cases this
theorem Inv.bs (I:Inv X pins σ H s):∀b o,X.base.get? b=some o->s.heap.get? b=some o/\H b=none:=fun b o e=>
 ⟨I.base.keep b o (I.ok.bs b o e).1 (I.ok.bs b o e).2 (I.ok.YK e) (I.ok.AO b o e),I.base.free b o (I.ok.bs b o e).1 (I.ok.bs b o e).2 (I.ok.AO b o e)⟩
theorem Inv.bk (I:Inv X pins σ H s):∀b o,X.base.get? b=some o->s.heap.get? b=some o:=fun b o e=>(I.bs b o e).1
theorem Inv.mod (I:Inv X pins σ H s):Mod X.K X.mg X.base:=I.ok.mod
theorem Inv.pR (I:Inv X pins σ H s):X.K.In s.heap:=I.ok.mod.N8.keeps I.bk
theorem Inv.lt (I:Inv X pins σ H s):X.env.locals<s.heap.objs.size:=let⟨_,hn,_⟩:=I.loc;hn.lt
theorem Inv.sz (I:Inv X pins σ H s):X.s₀.heap.objs.size<=s.heap.objs.size:=le_trans I.ok.above (le_of_lt I.lt)
theorem Inv.YL (I:Inv X pins σ H s){a:Addr}(h:s.heap.objs.size<=a):a∉X.fs:=fun hb=>by
 obtain⟨_,o,ho,_⟩:=I.ok.qH.mem hb
 exact absurd (lt_of_lt_of_le (Heap.lt_size ho) (le_trans I.sz h)) (Nat.lt_irrefl _)
theorem Inv.LC (I:Inv X pins σ H s):∀x c,X.env.cells.lookup x=some c->c≠X.env.locals:=fun x c e z=>by
 obtain⟨v,o,ho,hd⟩:=I.cell x c e
 obtain⟨m,⟨o',es,ep,Qy,Ud,_⟩,_⟩:=I.loc
 rw[z,Qy]at ho;cases ho;rw[Ud]at hd;cases hd
theorem Inv.qH (I:Inv X pins σ H s):s.heap.FunFrames X.base X.outer:=by
 have all:∀(l:List Env),(∀b∈wk l,b∈X.fs)->X.s₀.heap.FunFrames X.base l->s.heap.FunFrames X.base l:=by
  intro l
  induction l with
  |nil=>intro _ _;trivial
  |cons env r ih=>
   intro hs hl
   obtain⟨hk,⟨L,o,hf,hn,ho,hd⟩,hr⟩:=hl
   have hL:L∈X.fs:=hs L (by unfold wk;rw[filterMap_cons,hf];exact mem_cons_self)
   obtain⟨sl,e⟩:=I.base.slot L o ho (I.ok.Lc L hL) hL fun z=>I.ok.yu L z hL
   exact⟨hk,⟨L,_,hf,hn,e,hd⟩,ih (fun b hb=>hs b (by unfold wk;rw[filterMap_cons,hf];exact mem_cons_of_mem _ hb)) hr⟩
 exact all X.outer (fun _ hb=>hb) I.ok.qH
theorem Inv.stack (I:Inv X pins σ H s):s.heap.FunFrames X.base X.stack:=by
 rcases I.ok.Qx with e|⟨e,hf⟩
 ·rw[e];exact I.qH
 ·rw[e]
  obtain⟨m,hn,_⟩:=I.loc
  refine .cons (by rw[I.ok.kind];decide) hf hn ?_ I.qH
  exact Heap.get?_none_of_le (le_trans I.ok.Hg I.ok.above)
theorem Inv.qI (I:Inv X pins σ H s):∀b∈wk X.stack,b∈X.env.locals::X.fs:=fun b hb=>by
 rcases I.ok.Qx with e|⟨e,hf⟩
 ·rw[e]at hb;exact mem_cons_of_mem _ hb
 ·rw[e]at hb
  unfold wk at hb
  rw[filterMap_cons,hf]at hb
  exact hb
theorem Inv.pS (I:Inv X pins σ H s):∀b∈wk X.stack,H b=none:=fun b hb=>by
 rcases mem_cons.mp (I.qI b hb)with e|hb
 ·rw[e];exact I.free
 ·obtain⟨_,o,ho,_⟩:=I.ok.qH.mem hb
  exact I.base.free b o ho (I.ok.Lc b hb) fun z=>I.ok.yu b z hb
theorem Inv.step {g':Array GenState}{t':Nat}{d':Drawn}{ch:List Addr}(I:Inv X pins σ H s)
  (hch:∀b∈ch,(b∈X.ex\/X.s₀.heap.objs.size<=b)/\b≠X.env.locals/\(∀x c,X.env.cells.lookup x=some c->c≠b)/\∀p∈X.pn++pins,p.1≠b)
  (keep:∀b o,b≠X.env.locals->b∉X.fs->b∉ch->s.heap.get? b=some o->H b=none->h'.get? b=some o)
  (slot:∀b o,b≠X.env.locals->b∈X.fs->b∉ch->s.heap.get? b=some o->H b=none->∃sl,h'.get? b=some {o with slots:=sl})(free:∀b o,b∉ch->s.heap.get? b=some o->H b=none->H' b=none)
  (there:∀b o,b∉ch->s.heap.get? b=some o->∃o',h'.get? b=some o')
  (tups:∀b xs,H b=some (.tup xs)->H' b=some (.tup xs))(tV:∀b o u,H b=some (.ym o u)->H' b=some (.ym o u))(vj:∀b ps,H b=some (.N7 ps)->∃more,H' b=some (.N7 (ps++more)))
  (ns:∀m,s.heap.Ns X.env.locals m->h'.Ns X.env.locals m)(hok:mw X.prog X.w H' h')(hg:AllBare g'):
  Inv X pins σ H' {s with heap:=h',gens:=g',drawn:=d',toks:=t'}:=by
 have neL:∀b o,X.s₀.heap.get? b=some o->b≠X.env.locals:=fun b o e=>ne_of_lt (lt_of_lt_of_le (Heap.lt_size e) I.ok.above)
 have XM:∀b o,X.s₀.heap.get? b=some o->b∉X.ex->b∉ch:=fun b o e hx hb=>by
  rcases(hch b hb).1 with z|z
  ·exact hx z
  ·exact absurd (lt_of_lt_of_le (Heap.lt_size e) z) (Nat.lt_irrefl _)
 have cellK:∀x c,X.env.cells.lookup x=some c->∀v,s.heap.IsCell c v->h'.IsCell c v:=fun x c e v ⟨o,ho,hd⟩=>by
  have Ue:c∉ch:=fun z=>(hch c z).2.2.1 x c e rfl
  by_cases hc:c∈X.fs
  ·obtain⟨sl,q⟩:=slot c o (I.LC x c e) hc Ue ho (I.ki x c e)
   exact⟨_,q,hd⟩
  ·exact⟨o,keep c o (I.LC x c e) hc Ue ho (I.ki x c e),hd⟩
 refine⟨I.ok,I.os,hg,⟨fun b o e n hb hx=>?_,fun b o e n hb hx=>?_,fun b o e n hx=>?_,fun b o e hx=>?_,fun b xs e=>tups b xs (I.base.tups b xs e),fun b o xs e=>tV b o xs (I.base.tV b o xs e),fun b ps e=>?_⟩,?_,fun x c e=>?_,?_,fun x c e=>?_,fun p hp=>?_,hok,I.len⟩
 ·exact keep b o (neL b o e) hb (XM b o e hx) (I.base.keep b o e n hb hx) (I.base.free b o e n hx)
 ·obtain⟨sl,e1⟩:=I.base.slot b o e n hb hx
  obtain⟨sl',e2⟩:=slot b _ (neL b o e) hb (XM b o e hx) e1 (I.base.free b o e n hx)
  exact⟨sl',e2⟩
 ·obtain⟨o',e1⟩:=I.base.there b o e hx
  exact free b o' (XM b o e hx) e1 (I.base.free b o e n hx)
 ·obtain⟨o',e1⟩:=I.base.there b o e hx
  exact there b o' (XM b o e hx) e1
 ·obtain⟨m1,e1⟩:=I.base.vj b ps e
  obtain⟨m2,e2⟩:=vj b _ e1
  exact⟨m1++m2,by rw[e2,Array.append_assoc]⟩
 ·obtain⟨m,hn,hl⟩:=I.loc
  refine⟨m,ns m hn,fun i x v e1 e2 e3=>?_⟩
  obtain⟨u,r,l⟩:=hl i x v e1 e2 e3
  refine⟨u,r,?_⟩
  rcases l with l|⟨k,c,e,z⟩
  ·exact .inl l
  ·exact .inr ⟨k,c,e,cellK x c e _ z⟩
 ·obtain⟨v,z⟩:=I.cell x c e
  exact⟨v,cellK x c e v z⟩
 ·obtain⟨m,⟨o,_,_,ho,_⟩,_⟩:=I.loc
  exact free _ o (fun z=>(hch _ z).2.1 rfl) ho I.free
 ·obtain⟨v,o,ho,hd⟩:=I.cell x c e
  exact free c o (fun z=>(hch c z).2.2.1 x c e rfl) ho (I.ki x c e)
 ·obtain⟨e,n,ne,nf,d⟩:=I.pin p hp
  have Ue:p.1∉ch:=fun z=>(hch p.1 z).2.2.2 p hp rfl
  exact⟨keep p.1 p.2 ne nf Ue e n,free p.1 p.2 Ue e n,ne,nf,d⟩
theorem Inv.un {t':Nat}(I:Inv X pins σ H s)(u:Un X.fs [] H H' s.heap h')(hok:mw X.prog X.w H' h'):Inv X pins σ H' {s with heap:=h',toks:=t'}:=by
 obtain⟨m,⟨o,es,ep,ho,r⟩,_⟩:=id I.loc
 obtain⟨sl,hL⟩:=u.any ho I.free (by simp)
 exact I.step (g':=s.gens) (d':=s.drawn) (ch:=[]) (fun _ z=>nomatch z) (fun b o _ hb _ e n=>u.keep b o e n hb (by simp)) (fun b o _ hb _ e n=>u.slot b o e n hb (by simp)) (fun b o _ e n=>u.free b o e n (by simp)) (fun b o _ e=>u.there b o e (by simp)) u.tups u.tV u.vj (fun m' hm=>by
  obtain⟨o',YM,YN,Qy,r'⟩:=hm
  rw[ho]at Qy;cases Qy
  exact⟨_,YM,YN,hL,r'⟩) hok I.bare
theorem Inv.call {g':Array GenState}{t':Nat}{d':Drawn}{ch:List Addr}(I:Inv X pins σ H s)(u:Un (wk X.stack) ch H H' s.heap h')(hok:mw X.prog X.w H' h')(hg:AllBare g')
  (hch:∀b∈ch,(b∈X.ex\/X.s₀.heap.objs.size<=b)/\b≠X.env.locals/\(∀x c,X.env.cells.lookup x=some c->c≠b)/\∀p∈X.pn++pins,p.1≠b):
  Inv X pins σ H' {s with heap:=h',gens:=g',drawn:=d',toks:=t'}:=by
 obtain⟨m,⟨o,es,ep,ho,r⟩,_⟩:=id I.loc
 obtain⟨sl,hL⟩:=u.any ho I.free fun z=>(hch _ z).2.1 rfl
 exact I.step (ch:=ch) hch (fun b o hL hb hc e n=>u.keep b o e n (fun z=>(mem_cons.mp (I.qI b z)).elim hL hb) hc) (fun b o _ _ hc e n=>u.any e n hc) (fun b o hc e n=>u.free b o e n hc) (fun b o hc e=>u.there b o e hc) u.tups u.tV u.vj (fun m' hm=>by
  obtain⟨o',YM,YN,Qy,r'⟩:=hm
  rw[ho]at Qy;cases Qy
  exact⟨_,YM,YN,hL,r'⟩) hok hg
theorem Inv.turned {t':Nat}{it:Addr}(I:Inv X pins σ H s)(k:∀b o,b≠it->s.heap.get? b=some o->h'.get? b=some o)(hn:H it=none)(hL:it≠X.env.locals)
  (h1:it∈X.ex\/X.s₀.heap.objs.size<=it)(h2:∀x c,X.env.cells.lookup x=some c->c≠it)(h3:∀p∈X.pn++pins,p.1≠it):Inv X pins σ H {s with heap:=h',toks:=t'}:=by
 have nit:∀b u,H b=some u->b≠it:=fun b u e z=>by rw[z,hn]at e;cases e
 refine I.step (g':=s.gens) (d':=s.drawn) (ch:=[it]) (fun b hb=>?_) (fun b o _ _ hc e _=>k b o (fun z=>hc (by simp[z])) e) (fun b o _ _ hc e _=>⟨o.slots,k b o (fun z=>hc (by simp[z])) e⟩) (fun _ _ _ _ n=>n)
  (fun b o hc e=>⟨o,k b o (fun z=>hc (by simp[z])) e⟩) (fun _ _ e=>e) (fun _ _ _ e=>e) (fun b ps e=>⟨#[],by rw[e];simp⟩) (fun m hm=>?_) (fun b u e=>?_) I.bare
 ·have e:b=it:=by simpa using hb
  subst e
  exact⟨h1,hL,h2,h3⟩
 ·obtain⟨o,es,ep,ho,r⟩:=hm
  exact⟨o,es,ep,k _ o (Ne.symm hL) ho,r⟩
 ·refine(I.hok b u e).yt (fun c v hc q=>k c v ?_ q) (fun _ q=>q) fun _ _ q=>q
  rcases hc with z|z
  ·rw[z];exact nit b u e
  ·exact nit c _ z
theorem Inv.tok (I:Inv X pins σ H s)(t:Nat):Inv X pins σ H {s with toks:=t}:=I.un (h':=s.heap) (t':=t) Un.refl I.hok
theorem Inv.kept {t':Nat}(I:Inv X pins σ H s)(k:∀b u,s.heap.get? b=some u->h'.get? b=some u):Inv X pins σ H {s with heap:=h',toks:=t'}:=I.un (Un.kept k) (I.hok.kept k)
theorem Inv.laid {a:Addr}{o:HO}{t':Nat}(I:Inv X pins σ H s)(k:∀b u,s.heap.get? b=some u->h'.get? b=some u)(hp:s.heap.objs.size<=a)(new:bX X.prog X.w (upd H a o) h' a o):
  Inv X pins σ (upd H a o) {s with heap:=h',toks:=t'}:=I.un (Un.laid k hp (I.hok.fresh hp)) (I.hok.laid k hp new)
theorem Inv.write {x e:Addr}{o:HO}{t':Nat}(I:Inv X pins σ H s)(mu:Ub (H x))(he:e=x\/H e=some (.own x))(k:∀b u,b≠e->s.heap.get? b=some u->h'.get? b=some u)(Tj:∃u,h'.get? e=some u)
  (new:bX X.prog X.w (upd H x o) h' x o):Inv X pins σ (upd H x o) {s with heap:=h',toks:=t'}:=I.un (Un.write mu he k Tj) (I.hok.write mu he k Tj new)
theorem Inv.DT {yW:List (Addr×Obj)}(I:Inv X pins σ H s)(h:∀p∈yW,s.heap.get? p.1=some p.2/\H p.1=none/\p.1≠X.env.locals/\p.1∉X.fs/\∀v,p.2.data≠.cell v):Inv X yW σ H s:=
 ⟨I.ok,I.os,I.bare,I.base,I.loc,I.cell,I.free,I.ki,fun p hp=>(mem_append.mp hp).elim (fun z=>I.pin p (mem_append_left _ z)) (h p),I.hok,I.len⟩
theorem wm{N:List Str}(hN:N.Nodup){i j:Nat}{x:Str}(a:N[i]?=some x)(b:N[j]?=some x):i=j:=by
 obtain⟨h1,e1⟩:=List.getElem?_eq_some_iff.mp a
 obtain⟨h2,e2⟩:=List.getElem?_eq_some_iff.mp b
 exact(List.getElem_inj hN).mp (e1.trans e2.symm)
theorem FJ{M:Model}{A:Around}{E:Value->Shared->Prop}{i:Nat}{x:Str}{v:V}{u:Value}{Q:Unit->Shared->Prop}(I:Inv X pins σ H s)(hN:X.N.Nodup)(hi:X.N[i]?=some x)(hx:Loc X.env.scope x)(r:RelV v u)
  (h:∀s',Inv X pins (σ.set i (some v)) H s'->(∃a,Heap.SameBut a s.heap s'.heap/\(a=X.env.locals\/X.env.cells.lookup x=some a))->Q () s')(hf:X.fn x=true\/X.env.scope.names.lookup x=some .local:=by first|exact .inl rfl|exact .inr rfl|assumption):wpAny M A (storeName X.env x u) Q E s:=by
 obtain⟨m,hn,hl⟩:=id I.loc
 have hcls:(X.env.scope.kind==.class||(X.env.scope.kind==.module&&X.env.locals !=X.env.globals))=false:=by rw[I.ok.kind];rfl
 have XO:i<σ.length:=by rw[I.len];exact(List.getElem?_eq_some_iff.mp hi).1
 have LC:=I.LC
 have tracked:∀{a:Addr}{h':Heap},(∃o,s.heap.get? a=some o/\H a=none)->Heap.SameBut a s.heap h'->mw X.prog X.w H h':=fun{a h'} ha hs b ob e=>by
  obtain⟨_,_,hfree⟩:=ha
  refine(I.hok b ob e).yt (fun c w' hc q=>(hs.2 c ?_).trans q) (fun _ q=>q) fun _ _ q=>q
  rintro rfl
  rcases hc with rfl|hc
  ·rw[hfree]at e;cases e
  ·rw[hfree]at hc;cases hc
 rcases hx with hk|hk
 ·refine wpAny_storeName_local hk hn (fun h' YQ hs=>?_) hcls
  obtain⟨oL,_,_,hoL,_⟩:=id hn
  refine h _ ⟨I.ok,I.os,I.bare,⟨fun b o e n hb hx=>?_,fun b o e n hb hx=>?_,I.base.free,fun b o e hx=>?_,I.base.tups,I.base.tV,I.base.vj⟩,⟨_,YQ,fun j y v' e1 e2 e3=>?_⟩,fun y c e=>?_,I.free,I.ki,fun p hp=>?_,tracked ⟨oL,hoL,I.free⟩ hs,by simpa using I.len⟩ ⟨_,hs,.inl rfl⟩
  ·exact(hs.2 b (ne_of_lt (lt_of_lt_of_le (Heap.lt_size e) I.ok.above))).trans (I.base.keep b o e n hb hx)
  ·obtain⟨sl,e1⟩:=I.base.slot b o e n hb hx
   exact⟨sl,(hs.2 b (ne_of_lt (lt_of_lt_of_le (Heap.lt_size e) I.ok.above))).trans e1⟩
  ·obtain⟨o',e1⟩:=I.base.there b o e hx
   exact⟨o',(hs.2 b (ne_of_lt (lt_of_lt_of_le (Heap.lt_size e) I.ok.above))).trans e1⟩
  ·by_cases hj:j=i
   ·subst hj
    rw[hi]at e1;cases e1
    rw[getElem?_set_self XO]at e2
    cases e2
    exact⟨u,r,.inl ⟨hk,by simp⟩⟩
   ·rw[getElem?_set_ne (Ne.symm hj)]at e2
    obtain⟨u',r',q⟩:=hl j y v' e1 e2 e3
    refine⟨u',r',?_⟩
    rcases q with⟨k,e⟩|⟨k,c,e,z⟩
    ·refine .inl ⟨k,?_⟩
     have:y≠x:=fun e=>hj (wm hN e1 (e▸hi))
     simp[this,e]
    ·exact .inr ⟨k,c,e,z.sameBut hs (LC y c e)⟩
  ·obtain⟨w',z⟩:=I.cell y c e
   exact⟨w',z.sameBut hs (LC y c e)⟩
  ·obtain⟨e,n,ne,nf,d⟩:=I.pin p hp
   exact⟨(hs.2 p.1 ne).trans e,n,ne,nf,d⟩
 ·have hfn:X.fn x=true:=by
   rcases hf with z|z
   ·exact z
   ·rw[z]at hk;cases hk
  obtain⟨c,hc⟩:=I.ok.has x (.inl hk)
  obtain⟨w',z⟩:=I.cell x c hc
  refine wpAny_storeName_cell I.ok.kind hk hc z (fun h' Hu hs=>?_)
  obtain⟨oc,hoc,YR⟩:=id z
  refine h {s with heap:=h'} ⟨I.ok,I.os,I.bare,⟨fun b o e n hb hx=>?_,fun b o e n hb hx=>?_,I.base.free,fun b o e hx=>?_,I.base.tups,I.base.tV,I.base.vj⟩,⟨m,hn.sameBut hs (Ne.symm (LC x c hc)),fun j y v' e1 e2 e3=>?_⟩,fun y c' e=>?_,I.free,I.ki,fun p hp=>?_,tracked ⟨oc,hoc,I.ki x c hc⟩ hs,by simpa using I.len⟩ ⟨c,hs,.inr hc⟩
  ·exact(hs.2 b (ne_of_lt (lt_of_lt_of_le (Heap.lt_size e) (I.ok.N9 x c hfn hc)))).trans (I.base.keep b o e n hb hx)
  ·obtain⟨sl,e1⟩:=I.base.slot b o e n hb hx
   exact⟨sl,(hs.2 b (ne_of_lt (lt_of_lt_of_le (Heap.lt_size e) (I.ok.N9 x c hfn hc)))).trans e1⟩
  ·obtain⟨o',e1⟩:=I.base.there b o e hx
   exact⟨o',(hs.2 b (ne_of_lt (lt_of_lt_of_le (Heap.lt_size e) (I.ok.N9 x c hfn hc)))).trans e1⟩
  ·by_cases hj:j=i
   ·subst hj
    rw[hi]at e1;cases e1
    rw[getElem?_set_self XO]at e2
    cases e2
    exact⟨u,r,.inr ⟨.inl hk,c,hc,Hu⟩⟩
   ·rw[getElem?_set_ne (Ne.symm hj)]at e2
    obtain⟨u',r',q⟩:=hl j y v' e1 e2 e3
    refine⟨u',r',?_⟩
    rcases q with q|⟨k,c',e,z'⟩
    ·exact .inl q
    ·refine .inr ⟨k,c',e,z'.sameBut hs ?_⟩
     rintro rfl
     exact hj (wm hN e1 (I.ok.inj _ _ _ e hc▸hi))
  ·by_cases hcc:c'=c
   ·subst hcc;exact⟨_,Hu⟩
   ·obtain⟨w2,z2⟩:=I.cell y c' e
    exact⟨w2,z2.sameBut hs hcc⟩
  ·obtain⟨e,n,ne,nf,d⟩:=I.pin p hp
   refine⟨(hs.2 p.1 ?_).trans e,n,ne,nf,d⟩
   intro q
   rw[q,hoc]at e
   have q':oc=p.2:=Option.some.inj e
   exact d w' (by rw[<-q'];exact YR)
theorem q8{M:Model}{A:Around}{E:Value->Shared->Prop}{i:Nat}{x:Str}{v:V}{u:Value}{Q:Unit->Shared->Prop}(I:Inv X pins σ H s)(hN:X.N.Nodup)(hi:X.N[i]?=some x)(hx:Loc X.env.scope x)(r:RelV v u)
  (h:∀s',Inv X pins (σ.set i (some v)) H s'->Q () s')(hf:X.fn x=true\/X.env.scope.names.lookup x=some .local:=by first|exact .inl rfl|exact .inr rfl|assumption):wpAny M A (storeName X.env x u) Q E s:=
 FJ I hN hi hx r (fun s' I' _=>h s' I') hf
theorem Inv.nz {s':Shared}{ch:List Addr}(I:Inv X pins σ H s)(ho:s'.os=s.os)(u:Un (wk X.stack) ch H H' s.heap s'.heap)(hok:mw X.prog X.w H' s'.heap)(hg:AllBare s'.gens)
  (hch:∀b∈ch,(b∈X.ex\/X.s₀.heap.objs.size<=b)/\b≠X.env.locals/\(∀x c,X.env.cells.lookup x=some c->c≠b)/\∀p∈X.pn++pins,p.1≠b):Inv X pins σ H' s':=by
 obtain⟨h',g',d',t',o'⟩:=s'
 have e:o'=s.os:=ho
 subst e
 exact I.call (g':=g') (t':=t') (d':=d') u hok hg hch
end
abbrev XK:=Value->Option Addr->Hp->Prop
abbrev St:=List (Option V)
abbrev VK:=V->Hp->Prop
abbrev TE:=St->Hp->VK->Prop
abbrev TT:=St->Hp->(Bool->Hp->Prop)->Prop
abbrev TA:=St->Hp->(List V->Hp->Prop)->Prop
structure Ends where
 nx:St->Hp->Prop
 rt:VK
 bk:St->Hp->Prop:=fun _ _=>False
 ct:St->Hp->Prop:=fun _ _=>False
abbrev TS:=Ends->St->Hp->Prop
def EP(X:Cx)(pins:List (Addr×Obj))(σ:St)(Q:VK)(u:Value)(s':Shared):Prop:=∃v H',Inv X pins σ H' s'/\RelV v u/\Q v H'
def TP(X:Cx)(pins:List (Addr×Obj))(σ:St)(Q:Bool->Hp->Prop)(b:Bool)(s':Shared):Prop:=∃H',Inv X pins σ H' s'/\Q b H'
def AP(X:Cx)(pins:List (Addr×Obj))(σ:St)(Q:List V->Hp->Prop)(us:List Value)(s':Shared):Prop:=∃vs H',Inv X pins σ H' s'/\Vals vs us/\Q vs H'
def SP(X:Cx)(pins:List (Addr×Obj))(D:Ends)(f:Flow)(s':Shared):Prop:=
 match f with
 |.next=>∃σ' H',Inv X pins σ' H' s'/\D.nx σ' H'
 |.brk=>∃σ' H',Inv X pins σ' H' s'/\D.bk σ' H'
 |.cont=>∃σ' H',Inv X pins σ' H' s'/\D.ct σ' H'
 |.ret u=>∃v σ' H',Inv X pins σ' H' s'/\RelV v u/\D.rt v H'
def PE(X:Cx)(e:Expr)(t:TE):Prop:=
 ∀(pins:List (Addr×Obj))(s:Shared)(σ:St)(H:Hp)(Q:VK),Inv X pins σ H s->t σ H Q->wpAny (model X.prog X.w) X.A (eval e X.env) (EP X pins σ Q) X.xe s
def PT(X:Cx)(e:Expr)(t:TT):Prop:=
 ∀(pins:List (Addr×Obj))(s:Shared)(σ:St)(H:Hp)(Q:Bool->Hp->Prop),Inv X pins σ H s->t σ H Q->wpAny (model X.prog X.w) X.A (isTrue e X.env (eval e X.env)) (TP X pins σ Q) X.xe s
def PW(X:Cx)(e:Expr)(t:TT):Prop:=
 ∀(whole:Sem Value)(pins:List (Addr×Obj))(s:Shared)(σ:St)(H:Hp)(Q:Bool->Hp->Prop),Inv X pins σ H s->t σ H Q->wpAny (model X.prog X.w) X.A (isTrue e X.env whole) (TP X pins σ Q) X.xe s
theorem PW.pt {X:Cx}{e:Expr}{t:TT}(h:PW X e t):PT X e t:=h _
def PA(X:Cx)(es:List Expr)(t:TA):Prop:=
 ∀(pos:Pos)(pins:List (Addr×Obj))(s:Shared)(σ:St)(H:Hp)(Q:List V->Hp->Prop),Inv X pins σ H s->t σ H Q->wpAny (model X.prog X.w) X.A (spliced (backTo pos (starEach es X.env))) (AP X pins σ Q) X.xe s
def PS(X:Cx)(st:Stmt)(t:TS):Prop:=
 ∀(pins:List (Addr×Obj))(s:Shared)(σ:St)(H:Hp)(D:Ends),Inv X pins σ H s->t D σ H->wpAny (model X.prog X.w) X.A (exec st X.env) (SP X pins D) X.xe s
def nA(X:Cx)(st:List Stmt)(t:TS):Prop:=
 ∀(pins:List (Addr×Obj))(s:Shared)(σ:St)(H:Hp)(D:Ends),Inv X pins σ H s->t D σ H->wpAny (model X.prog X.w) X.A (execs st X.env) (SP X pins D) X.xe s
theorem bG{α:Type}{t:Sem α}{Q Q':α->Shared->Prop}{M:Model}{A:Around}{E:Value->Shared->Prop}{s:Shared}(h:wpAny M A t Q E s)(hQ:∀a s,Q a s->Q' a s):wpAny M A t Q' E s:=wpAny_mono h hQ fun _ _ x=>x
end L2
namespace L2
open PySem PySem.Spec PyProof.Rows
section
variable{X:Cx}
def LD(i:Nat):TE:=fun σ H Q=>∃v,σ[i]?=some (some v)/\Q v H
def tC(v:V):TE:=fun _ H Q=>Q v H
theorem jk{i:Nat}{x:Str}{pos:Pos}(hN:X.N[i]?=some x)(hv:yV X.env.scope x)(hd:(x==("__debug__":Str))=false:=by decide)(hcd:(x==("__classdict__":Str))=false:=by decide):PE X (.Name x pos) (LD i):=by
 intro pins s σ H Q I h
 obtain⟨v,e,h⟩:=h
 obtain⟨m,hn,hl⟩:=I.loc
 obtain⟨u,r,l⟩:=hl i x v hN e hv
 have fin:EP X pins σ Q u s:=⟨v,H,I,r,h⟩
 rcases l with⟨hk,hm⟩|⟨hk,c,hc,hcell⟩
 ·exact wpAny_Name (wpAny_loadName_local I.ok.kind hk hn hm fin) hd
 ·rcases hk with hk|hk
  ·exact wpAny_Name (wpAny_loadName_cell I.ok.kind hk hc hcell fin) hd
  ·exact wpAny_Name (wpAny_loadName_free I.ok.kind hk hc hcell fin hcd) hd
theorem gK{i j pos}:PE X (.Constant (.int i) j pos) (tC (.int i)):=fun _ _ _ H _ I h=>wpAny_Constant_int ⟨.int i,H,I.tok _,⟨_,rfl⟩,h⟩
theorem Ug{b j pos}:PE X (.Constant (.bool b) j pos) (tC (.bl b)):=fun _ _ _ H _ I h=>Constant_bool ⟨.bl b,H,I,rfl,h⟩
theorem Hv{j pos}:PE X (.Constant .none j pos) (tC .non):=fun _ _ _ H _ I h=>Constant_none ⟨.non,H,I,rfl,h⟩
theorem Hw{x j pos}:PE X (.Constant (.str x) j pos) (tC (.str x)):=fun _ _ _ H _ I h=>Calls.Constant_str ⟨.str x,H,I.tok _,⟨_,rfl⟩,h⟩
def Gl(X:Cx)(x:Str):Prop:=X.env.kindOf x=some .globalImplicit
theorem kj{E:Value->Shared->Prop}{pins:List (Addr×Obj)}{s:Shared}{σ:St}{H:Hp}{x:Str}{u:Value}{pos:Pos}{Q:Value->Shared->Prop}(I:Inv X pins σ H s)(hg:Gl X x)(hm:X.mg x=some u)(h:Q u s)
  (hd:(x==("__debug__":Str))=false:=by decide):wpAny (model X.prog X.w) X.A (eval (.Name x pos) X.env) Q E s:=
 Calls.Name_function_global I.ok.kind hg (Calls.loadGlobal_global (by rw[I.ok.glob];exact I.mod.glob.keeps I.bk) hm h) hd
theorem jN{E:Value->Shared->Prop}{pins:List (Addr×Obj)}{s:Shared}{σ:St}{H:Hp}{x:Str}{u:Value}{pos:Pos}{Q:Value->Shared->Prop}(I:Inv X pins σ H s)(hg:Gl X x)(hm:X.mg x=none)(hv:bootBuiltins x=some u)(h:Q u s)
  (hn:x≠"__name__":=by decide)(hd:(x==("__debug__":Str))=false:=by decide):wpAny (model X.prog X.w) X.A (eval (.Name x pos) X.env) Q E s:=by
 obtain⟨mb,h1,h2⟩:=I.mod.blt
 exact Calls.Name_function_global I.ok.kind hg (Calls.loadGlobal_builtin (by rw[I.ok.glob];exact I.mod.glob.keeps I.bk) hm (by rw[I.ok.blt];exact h1.keeps I.bk) ((h2 x hn).trans hv) h) hd
theorem pT{x:Str}{v:V}{u:Value}{pos:Pos}(hg:Gl X x)(hm:X.mg x=some u)(r:RelV v u)(hd:(x==("__debug__":Str))=false:=by decide):PE X (.Name x pos) (tC v):=
 fun _ _ _ H _ I h=>kj I hg hm ⟨v,H,I,r,h⟩ hd
theorem LG{x:Str}{v:V}{u:Value}{pos:Pos}(hg:Gl X x)(hm:X.mg x=none)(hv:bootBuiltins x=some u)(r:RelV v u)(hn:x≠"__name__":=by decide)(hd:(x==("__debug__":Str))=false:=by decide):PE X (.Name x pos) (tC v):=
 fun _ _ _ H _ I h=>jN I hg hm hv ⟨v,H,I,r,h⟩ hn hd
variable{a b:Expr}{ta tb:TE}{pos:Pos}
def PC(X:Cx)(op:CmpOp)(a b:Expr)(t:TE):Prop:=
 ∀(pins:List (Addr×Obj))(s:Shared)(σ:St)(H:Hp)(Q:VK),Inv X pins σ H s->t σ H Q->
  wpAny (model X.prog X.w) X.A (eval a X.env) (fun v s₁=>wpAny (model X.prog X.w) X.A (eval b X.env) (fun u s₂=>wpAny (model X.prog X.w) X.A (compareOp op v u) (EP X pins σ Q) X.xe s₂) X.xe s₁) X.xe s
theorem Hz(b:Expr){op:CmpOp}(h:op≠.In)(h2:op≠.NotIn):behindInMarks op b=false:=by
 have e1:(op==CmpOp.In)=false:=by cases op<;>first|rfl|exact absurd rfl h
 have e2:(op==CmpOp.NotIn)=false:=by cases op<;>first|rfl|exact absurd rfl h2
 cases b<;>simp[behindInMarks,e1,e2]
def tB(t:TE):TT:=fun σ H Q=>t σ H fun x H1=>∃c,x=.bl c/\Q c H1
theorem CF{op:CmpOp}{t:TE}(h:PC X op a b t)(h1:behindInMarks op b=false:=by first|exact Hz _ (by decide) (by decide)|rfl):PT X (.Compare a [op] [b] pos) (tB t):=by
 intro pins s σ H Q I hw
 refine wpAny_isTrue_Compare1 (bG (h pins s σ H _ I hw) fun v s1 h1=>bG h1 fun u s2 h2=>bG h2 fun c s3 ⟨x,H1,I1,r1,q1⟩=>?_) h1
 obtain⟨d,rfl,q⟩:=q1
 cases r1
 exact wpAny_truthy_bool ⟨H1,I1,q⟩
theorem Qz{e:Expr}{t:TE}(h:PE X e t)(he:∀whole,isTrue e X.env whole=(do let v<-whole;standAt e.pos;holding [v] (truthy v)):=by intro _;rfl):PT X e (tB t):=by
 intro pins s σ H Q I hw
 refine isTrue_plain (bG (h pins s σ H _ I hw) fun v s1 ⟨x,H1,I1,r1,q1⟩=>?_) (he _)
 obtain⟨d,rfl,q⟩:=q1
 cases r1
 exact wpAny_truthy_bool ⟨H1,I1,q⟩
variable{tA XQ:TT}{rest:List Expr}
def YS(t u:TT):TT:=fun σ H Q=>t σ H fun c H1=>if c=true then u σ H1 Q else Q false H1
def tOr(t u:TT):TT:=fun σ H Q=>t σ H fun c H1=>if c=true then Q true H1 else u σ H1 Q
def YT(t:TT):TT:=fun σ H Q=>t σ H fun c H1=>Q (!c) H1
theorem pw_and1(ha:PT X a tA):PW X (.BoolOp .And [a] pos) tA:=by
 intro wh pins s σ H Q I h
 refine isTrue_and (bG (ha pins s σ H Q I h) fun c s1 e=>?_)
 cases c with
 |true=>exact isTrue_and_nil e
 |false=>exact e
theorem pw_or1(ha:PT X a tA):PW X (.BoolOp .Or [a] pos) tA:=by
 intro wh pins s σ H Q I h
 refine isTrue_or (bG (ha pins s σ H Q I h) fun c s1 e=>?_)
 cases c with
 |false=>exact isTrue_or_nil e
 |true=>exact e
theorem pw_and(ha:PT X a tA)(hb:PW X (.BoolOp .And (b::rest) pos) XQ):PW X (.BoolOp .And (a::b::rest) pos) (YS tA XQ):=by
 intro wh pins s σ H Q I h
 refine isTrue_and (bG (ha pins s σ H _ I h) fun c s1 ⟨H1,I1,q1⟩=>?_)
 cases c with
 |true=>exact hb wh pins s1 σ H1 Q I1 q1
 |false=>exact⟨H1,I1,q1⟩
theorem pw_or(ha:PT X a tA)(hb:PW X (.BoolOp .Or (b::rest) pos) XQ):PW X (.BoolOp .Or (a::b::rest) pos) (tOr tA XQ):=by
 intro wh pins s σ H Q I h
 refine isTrue_or (bG (ha pins s σ H _ I h) fun c s1 ⟨H1,I1,q1⟩=>?_)
 cases c with
 |true=>exact⟨H1,I1,q1⟩
 |false=>exact hb wh pins s1 σ H1 Q I1 q1
theorem QA(ha:PT X a tA):PT X (.UnaryOp .Not a pos) (YT tA):=by
 intro pins s σ H Q I h
 exact isTrue_not (ha pins s σ H (fun c H1=>Q (!c) H1) I h)
def Uh(ta tb:TE):TE:=fun σ H Q=>ta σ H fun x H1=>∃c,x=.bl c/\if c=true then tb σ H1 Q else Q (.bl false) H1
theorem QB{op}{t:TE}(h:PE X a t):PE X (.BoolOp op [a] pos) t:=fun pins s σ H Q I hw=>BoolOp_one (h pins s σ H Q I hw)
theorem QC(ha:PE X a ta)(hb:PE X (.BoolOp .And (b::rest) pos) tb):PE X (.BoolOp .And (a::b::rest) pos) (Uh ta tb):=by
 intro pins s σ H Q I h
 refine BoolOp_and (bG (ha pins s σ H _ I h) fun v s1 ⟨x,H1,I1,r1,q1⟩=>?_)
 obtain⟨c,rfl,q1⟩:=q1
 cases r1
 refine wpAny_truthy_bool ?_
 cases c with
 |true=>exact hb pins s1 σ H1 Q I1 q1
 |false=>exact⟨.bl false,H1,I1,rfl,q1⟩
def tIf(t:TT)(ta tb:TE):TE:=fun σ H Q=>t σ H fun c H1=>if c=true then ta σ H1 Q else tb σ H1 Q
theorem HA{c:Expr}(hc:PT X c tA)(ha:PE X a ta)(hb:PE X b tb):PE X (.IfExp c a b pos) (tIf tA ta tb):=by
 intro pins s σ H Q I h
 refine wpAny_IfExp (bG (hc pins s σ H _ I h) fun d s1 ⟨H1,I1,q1⟩=>?_)
 cases d with
 |true=>exact ha pins s1 σ H1 Q I1 q1
 |false=>exact hb pins s1 σ H1 Q I1 q1
end
end L2
namespace L2
open PySem PySem.Spec PyProof.Rows
def cV(K:PySem.W.Frag)(H:Hp)(a:Addr)(xs:List V):Prop:=
 Rd H a (.lst xs)\/
  ∃(o:Obj)(its:Array Value)(n:Nat),K.lookup a=some o/\o.cls=.type "list"/\o.dict=none/\o.data=.seq its n/\its.size<=sizeLine/\Vals xs its.toList
def AQ(K:PySem.W.Frag)(H:Hp)(a:Addr)(xs:List V):Prop:=
 Rd H a (.tup xs)\/
  ∃(o:Obj)(its:Array Value)(n:Nat),K.lookup a=some o/\o.cls=.type "tuple"/\o.data=.seq its n/\its.size<=sizeLine/\Vals xs its.toList
def YU:Value->Option V
 |.none=>some .non
 |.bool b=>some (.bl b)
 |.int i _=>some (.int i)
 |.str x _=>some (.str x)
 |.bytes b _=>some (.Hf b)
 |.float b _=>some (.Qt b)
 |.ref a=>some (.ref a)
 |.type n=>some (.ty n)
 |_=>none
theorem RelV.abs {x:V}{u:Value}(r:RelV x u):YU u=some x:=by
 cases x with
 |non=>cases r;rfl
 |bl _=>cases r;rfl
 |int _=>obtain⟨t,rfl⟩:=r;rfl
 |str _=>obtain⟨t,rfl⟩:=r;rfl
 |Hf _=>obtain⟨t,rfl⟩:=r;rfl
 |Qt _=>obtain⟨t,rfl⟩:=r;rfl
 |ref _=>cases r;rfl
 |ty _=>cases r;rfl
theorem RelV.inj {x y:V}{u:Value}(r:RelV x u)(q:RelV y u):x=y:=Option.some.inj (r.abs.symm.trans q.abs)
theorem Vals.inj:∀{xs ys:List V}{us:List Value},Vals xs us->Vals ys us->xs=ys
 |_,_,_,.nil,.nil=>rfl
 |_,_,_,.cons r t,.cons r' t'=>by rw[r.inj r',Vals.inj t t']
section
variable{X:Cx}{pins:List (Addr×Obj)}{σ:St}{H:Hp}{s:Shared}{a:Addr}{xs ys:List V}
theorem cV.of {K:PySem.W.Frag}(h:H a=some (.lst xs)):cV K H a xs:=.inl (.inl h)
theorem AQ.of {K:PySem.W.Frag}(h:H a=some (.tup xs)):AQ K H a xs:=.inl (.inl h)
theorem Inv.list (I:Inv X pins σ H s)(h:cV X.K H a xs):∃its:List Value,Vals xs its/\PlainL s.heap a its.toArray/\xs.length<=sizeLine:=by
 rcases h with h|⟨o,its,n,hk,hc,hd,hs,hz,r⟩
 ·obtain⟨z,its,n,r,e⟩:=h.ok I.hok
  exact⟨its,r,⟨_,n,e,rfl,rfl,rfl⟩,z⟩
 ·refine⟨its.toList,r,⟨o,n,I.pR a o hk,hc,hd,by simpa using hs⟩,?_⟩
  have e:=r.length
  simp only [length_toList]at e
  omega
theorem Inv.tuple (I:Inv X pins σ H s)(h:AQ X.K H a xs):∃its:List Value,Vals xs its/\IsTup s.heap a its.toArray/\xs.length<=sizeLine:=by
 rcases h with h|⟨o,its,n,hk,hc,hs,hz,r⟩
 ·obtain⟨z,its,r,p⟩:=h.ok I.hok
  exact⟨its,r,p,z⟩
 ·refine⟨its.toList,r,⟨o,I.pR a o hk,hc,n,by simpa using hs⟩,?_⟩
  have e:=r.length
  simp only [length_toList]at e
  omega
theorem Inv.rf (I:Inv X pins σ H s)(h:cV X.K H a xs)(h':cV X.K H a ys):xs=ys:=by
 obtain⟨its,r,⟨o,n,e,_,_,d⟩,_⟩:=I.list h
 obtain⟨its',r',⟨o',n',e',_,_,d'⟩,_⟩:=I.list h'
 rw[e]at e';cases e'
 rw[d]at d'
 injection d' with d1 _
 have:its=its':=by simpa using congrArg toList d1
 subst this
 exact r.inj r'
theorem Inv.FN (I:Inv X pins σ H s)(h:AQ X.K H a xs)(h':AQ X.K H a ys):xs=ys:=by
 obtain⟨its,r,⟨o,e,_,n,d⟩,_⟩:=I.tuple h
 obtain⟨its',r',⟨o',e',_,n',d'⟩,_⟩:=I.tuple h'
 rw[e]at e';cases e'
 rw[d]at d'
 injection d' with d1 _
 have:its=its':=by simpa using congrArg toList d1
 subst this
 exact r.inj r'
end
abbrev Cx.vk (X:Cx)(E:Value->Shared->Prop):Cx:={X with xe:=E}
abbrev Cx.DU (X:Cx):Cx:=X.vk fun _ _=>False
theorem Cx.Ok.vk {X:Cx}(ok:X.Ok)(E:Value->Shared->Prop):(X.vk E).Ok:=
 ⟨ok.mod,ok.kind,ok.glob,ok.blt,ok.above,ok.inj,ok.has,ok.N9,ok.hd,ok.frames,ok.Qx,ok.Oa,ok.bs,ok.Hg,ok.AO,ok.yu,ok.qH,ok.Lc⟩
theorem Cx.Ok.kQ {X:Cx}{E:Value->Shared->Prop}(ok:(X.vk E).Ok):X.Ok:=
 ⟨ok.mod,ok.kind,ok.glob,ok.blt,ok.above,ok.inj,ok.has,ok.N9,ok.hd,ok.frames,ok.Qx,ok.Oa,ok.bs,ok.Hg,ok.AO,ok.yu,ok.qH,ok.Lc⟩
section
variable{X:Cx}{pins:List (Addr×Obj)}{σ:St}{H:Hp}{s:Shared}{E:Value->Shared->Prop}
theorem Inv.vk (I:Inv X pins σ H s)(E:Value->Shared->Prop):Inv (X.vk E) pins σ H s:=⟨I.ok.vk E,I.os,I.bare,I.base,I.loc,I.cell,I.free,I.ki,I.pin,I.hok,I.len⟩
theorem Inv.kQ (I:Inv (X.vk E) pins σ H s):Inv X pins σ H s:=⟨I.ok.kQ,I.os,I.bare,I.base,I.loc,I.cell,I.free,I.ki,I.pin,I.hok,I.len⟩
theorem SP.kQ {D:Ends}{f:Flow}{s':Shared}(h:SP (X.vk E) pins D f s'):SP X pins D f s':=by
 cases f with
 |next=>obtain⟨σ',H',I,q⟩:=h;exact⟨σ',H',I.kQ,q⟩
 |brk=>obtain⟨σ',H',I,q⟩:=h;exact⟨σ',H',I.kQ,q⟩
 |cont=>obtain⟨σ',H',I,q⟩:=h;exact⟨σ',H',I.kQ,q⟩
 |ret u=>obtain⟨v,σ',H',I,r,q⟩:=h;exact⟨v,σ',H',I.kQ,r,q⟩
theorem nA.DU {st:List Stmt}{t:TS}(h:nA X.DU st t):nA X st t:=fun pins s σ H D I hw=>
 wpAny_mono (h pins s σ H D (I.vk _) hw) (fun _ _ q=>q.kQ) fun _ _ z=>False.elim z
end
section
variable{X:Cx}{st:Stmt}{rest:List Stmt}{t u:TS}{e:Expr}{te:TE}{pos:Pos}
def Ui:TS:=fun D σ H=>D.nx σ H
def YV(t u:TS):TS:=fun D σ H=>t {D with nx:=u D} σ H
theorem km:nA X [] Ui:=fun _ _ σ H _ I h=>wpAny_execs_nil ⟨σ,H,I,h⟩
theorem aA(h1:PS X st t)(h2:nA X rest u):nA X (st::rest) (YV t u):=by
 intro pins s σ H D I h
 refine wpAny_execs_cons (bG (h1 pins s σ H {D with nx:=u D} I h) fun f s1 q=>?_)
 cases f with
 |next=>
  obtain⟨σ',H',I',q⟩:=q
  exact h2 pins s1 σ' H' D I' q
 |ret v=>exact q
 |brk=>exact q
 |cont=>exact q
theorem bO(h1:PS X st t):nA X [st] t:=by
 intro pins s σ H D I h
 refine wpAny_execs_cons (bG (h1 pins s σ H D I h) fun f s1 q=>?_)
 cases f with
 |next=>exact wpAny_execs_nil q
 |ret v=>exact q
 |brk=>exact q
 |cont=>exact q
def QD:TS:=fun D σ H=>D.bk σ H
theorem HB:PS X (.Break pos) QD:=fun _ _ σ H _ I h=>wpAny_Break ⟨σ,H,I,h⟩
theorem Inv.quiet {pins:List (Addr×Obj)}{σ:St}{H:Hp}{s:Shared}(I:Inv X pins σ H s):interactive X.env=false:=by simp[interactive,I.ok.kind]
def Uj(te:TE):TS:=fun D σ H=>te σ H fun _ H1=>D.nx σ H1
theorem fX(he:PE X e te)(hs:swapsWith e none pos.line X.env=pure false:=by rfl):PS X (.Expr e pos) (Uj te):=by
 intro pins s σ H D I h
 exact wpAny_Expr_any (bG (he pins s σ H _ I h) fun v s1 ⟨x,H1,I1,r1,q1⟩=>⟨σ,H1,I1,q1⟩) I.quiet hs
def YW(te:TE):TS:=fun D σ H=>te σ H D.rt
theorem kR(he:PE X e te):PS X (.Return (some e) pos) (YW te):=by
 intro pins s σ H D I h
 exact wpAny_Return_some (bG (he pins s σ H _ I h) fun v s1 ⟨x,H1,I1,r1,q1⟩=>⟨x,σ,H1,I1,r1,q1⟩)
def YX(c:TT)(t u:TS):TS:=fun D σ H=>c σ H fun b H1=>if b=true then t D σ H1 else u D σ H1
theorem uR{c:Expr}{a b:List Stmt}{tc:TT}(hc:PT X c tc)(ha:nA X a t)(hb:nA X b u):PS X (.If c a b pos) (YX tc t u):=by
 intro pins s σ H D I h
 refine wpAny_If (bG (hc pins s σ H _ I h) fun d s1 ⟨H1,I1,q1⟩=>?_)
 cases d with
 |true=>exact ha pins s1 σ H1 D I1 q1
 |false=>exact hb pins s1 σ H1 D I1 q1
end
abbrev TG:=V->St->Hp->(St->Hp->Prop)->Prop
abbrev LH:=List V->St->Hp->(St->Hp->Prop)->Prop
def PG(X:Cx)(target:Expr)(t:TG):Prop:=
 ∀(pins:List (Addr×Obj))(s:Shared)(σ:St)(H:Hp)(v:V)(u:Value)(Q:St->Hp->Prop),Inv X pins σ H s->RelV v u->t v σ H Q->
  wpAny (model X.prog X.w) X.A (assign target X.env u) (fun _ s'=>∃σ' H',Inv X pins σ' H' s'/\Q σ' H') X.xe s
def DV(X:Cx)(ts:List Expr)(t:LH):Prop:=
 ∀(pins:List (Addr×Obj))(s:Shared)(σ:St)(H:Hp)(vs:List V)(us:List Value)(Q:St->Hp->Prop),Inv X pins σ H s->Vals vs us->t vs σ H Q->
  wpAny (model X.prog X.w) X.A (assignInOrder ((assignEach ts X.env).map (·.2)) us) (fun _ s'=>∃σ' H',Inv X pins σ' H' s'/\Q σ' H') X.xe s
abbrev QE:=V->V->V->Hp->(Hp->Prop)->Prop
def Uk(X:Cx)(t:QE):Prop:=
 ∀(pins:List (Addr×Obj))(s:Shared)(σ:St)(H:Hp)(o i v:V)(ov iv u:Value)(Q:Hp->Prop),Inv X pins σ H s->RelV o ov->RelV i iv->RelV v u->t o i v H Q->
  wpAny (model X.prog X.w) X.A (setItem ov iv u) (fun _ s'=>∃H',Inv X pins σ H' s'/\Q H') X.xe s
abbrev XR:=V->V->Hp->VK->Prop
def Tn(X:Cx)(op:Operator)(t:XR):Prop:=
 ∀(pins:List (Addr×Obj))(s:Shared)(σ:St)(H:Hp)(x y:V)(v u:Value)(Q:VK),Inv X pins σ H s->RelV x v->RelV y u->t x y H Q->
  wpAny (model X.prog X.w) X.A (inplaceOp op v u) (EP X pins σ Q) X.xe s
section
variable{X:Cx}{pos:Pos}
def HC(i:Nat):TG:=fun v σ H Q=>Q (σ.set i (some v)) H
theorem zF{i:Nat}{x:Str}(hN:X.N.Nodup)(hi:X.N[i]?=some x)(hx:Loc X.env.scope x)(hf:X.fn x=true\/X.env.scope.names.lookup x=some .local:=by first|exact .inl rfl|exact .inr rfl|assumption):PG X (.Name x pos) (HC i):=by
 intro pins s σ H v u Q I r h
 exact wpAny_assign_Name (q8 I hN hi hx r (fun s' I'=>⟨_,H,I',h⟩) hf)
def YY:LH:=fun vs σ H Q=>vs=[]/\Q σ H
def Ul(t:TG)(u:LH):LH:=fun vs σ H Q=>∃v r,vs=v::r/\t v σ H fun σ' H'=>u r σ' H' Q
theorem LJ:DV X [] YY:=by
 intro pins s σ H vs us Q I r h
 obtain⟨e,h⟩:=h
 subst e
 cases r
 exact assignInOrder_nil ⟨σ,H,I,h⟩
theorem HD{e:Expr}{es:List Expr}{t:TG}{u:LH}(h1:PG X e t)(h2:DV X es u)
  (hs:(assignEach (e::es) X.env).map (·.2)=assign e X.env::(assignEach es X.env).map (·.2):=by rfl):DV X (e::es) (Ul t u):=by
 intro pins s σ H vs us Q I r h
 obtain⟨v,vr,e1,h⟩:=h
 subst e1
 cases r with
 |cons r rr=>
  rw[hs]
  refine assignInOrder_cons (bG (h1 pins s σ H _ _ _ I r h) fun _ s1 ⟨σ1,H1,I1,q1⟩=>?_)
  exact h2 pins s1 σ1 H1 _ _ Q I1 rr q1
def YZ(K:PySem.W.Frag)(n:Nat)(t:LH):TG:=fun v σ H Q=>∃a xs,v=.ref a/\AQ K H a xs/\xs.length=n/\t xs σ H Q
theorem QF{es:List Expr}{k:Nat}{t:LH}{n:Nat}(hc:X.calm=true)(h:DV X es t)
  (hn:(assignEach es X.env).length=n:=by rfl)(hst:(assignEach es X.env).findIdx? (·.1)=none:=by rfl):PG X (.Tuple es k pos) (YZ X.K n t):=by
 intro pins s σ H v u Q I r hw
 obtain⟨a,xs,e1,hq,hl,hw⟩:=hw
 subst e1
 cases r
 obtain⟨its,rv,ht,hz⟩:=I.tuple hq
 refine assign_Tuple_tuple (I.ok.hd hc) ht (by simp[hn,<-hl,rv.length]) hst fun h' hx=>?_
 have I1:Inv X pins σ H {s with heap:=h'}:=I.kept (t':=s.toks) fun b o e=>hx b o (ne_of_lt (Heap.lt_size e)) e
 exact h pins _ σ H xs _ Q I1 (by simpa using rv) hw
def Y0(to ti:TE)(t:QE):TG:=fun v σ H Q=>to σ H fun o H1=>ti σ H1 fun i H2=>t o i v H2 fun H3=>Q σ H3
theorem CG{o i:Expr}{to ti:TE}{t:QE}(ho:PE X o to)(hi:PE X i ti)(hs:Uk X t)
  (ha:∀v,assign (.Subscript o i pos) X.env v=(do
   let ov<-holding [v] (eval o X.env)
   let iv<-holding [v,ov] (eval i X.env)
   standAt pos
   holding [v,ov,iv] (setItem ov iv v)
   release [v,ov,iv] []):=by intro _;rfl):PG X (.Subscript o i pos) (Y0 to ti t):=by
 intro pins s σ H v u Q I r h
 rw[ha]
 refine wpAny_bind (wpAny_holding (bG (ho pins s σ H _ I h) fun ov s1 ⟨x,H1,I1,r1,q1⟩=>?_))
 refine wpAny_bind (wpAny_holding (bG (hi pins s1 σ H1 _ I1 q1) fun iv s2 ⟨y,H2,I2,r2,q2⟩=>?_))
 refine wpAny_bind (wpAny_standAt (wpAny_bind (wpAny_holding (bG (hs pins s2 σ H2 x y v ov iv u _ I2 r1 r2 r q2) fun _ s3 ⟨H3,I3,q3⟩=>?_))))
 exact wpAny_release ⟨σ,H3,I3,q3⟩
def Um(te:TE)(g:TG):TS:=fun D σ H=>te σ H fun x H1=>g x σ H1 D.nx
theorem zG{tg e:Expr}{te:TE}{g:TG}(he:PE X e te)(hg:PG X tg g)(hs:swapsWithSole [tg] e pos.line X.env=pure false:=by rfl)(hw:swappedStores [tg] e X.env=pure none:=by rfl)
  (h1:(assignEach [tg] X.env).map (·.2)=[assign tg X.env]:=by rfl):PS X (.Assign [tg] e pos) (Um te g):=by
 intro pins s σ H D I h
 refine wpAny_Assign_stores (bG (he pins s σ H _ I h) fun v s1 ⟨x,H1,I1,r1,q1⟩=>?_) hs hw
 rw[h1]
 exact bG (hg pins s1 σ H1 x v _ I1 r1 q1) fun _ s2 q=>q
theorem di{i:Nat}{x:Str}{e:Expr}{te:TE}{pos':Pos}(hN:X.N.Nodup)(hi:X.N[i]?=some x)(hx:Loc X.env.scope x)(he:PE X e te)(hs:swapsWith e (some (.Name x pos')) pos.line X.env=pure false:=by rfl)(hf:X.fn x=true\/X.env.scope.names.lookup x=some .local:=by first|exact .inl rfl|exact .inr rfl|assumption):
  PS X (.Assign [.Name x pos'] e pos) (Um te (HC i)):=by
 intro pins s σ H D I h
 refine wpAny_Assign_Name (bG (he pins s σ H _ I h) fun v s1 ⟨y,H1,I1,r1,q1⟩=>?_) hs
 exact q8 I1 hN hi hx r1 (fun s2 I2=>⟨_,H1,I2,q1⟩) hf
def Y1(i:Nat)(te:TE)(ti:XR):TS:=fun D σ H=>∃x,σ[i]?=some (some x)/\te σ H fun y H1=>ti x y H1 fun z H2=>D.nx (σ.set i (some z)) H2
theorem CH{i:Nat}{x:Str}{e:Expr}{te:TE}{op:Operator}{ti:XR}{pos':Pos}(hN:X.N.Nodup)(hi:X.N[i]?=some x)(hx:Loc X.env.scope x)(he:PE X e te)(ho:Tn X op ti)(hf:X.fn x=true\/X.env.scope.names.lookup x=some .local:=by first|exact .inl rfl|exact .inr rfl|assumption):
  PS X (.AugAssign (.Name x pos') op e pos) (Y1 i te ti):=by
 intro pins s σ H D I h
 obtain⟨v,e1,h⟩:=h
 obtain⟨m,hn,hl⟩:=I.loc
 have vis:yV X.env.scope x:=by rcases hx with k|k;exact .inl k;exact .inr (.inl k)
 obtain⟨u,r,l⟩:=hl i x v hi e1 vis
 refine wpAny_AugAssign_Name ?_
 have go:wpAny (model X.prog X.w) X.A (eval e X.env) (fun w s₂=>wpAny (model X.prog X.w) X.A (inplaceOp op u w) (fun r s₃=>wpAny (model X.prog X.w) X.A (storeName X.env x r) (fun _=>SP X pins D .next) X.xe s₃) X.xe s₂) X.xe s:=by
  refine bG (he pins s σ H _ I h) fun w s1 ⟨y,H1,I1,r1,q1⟩=>?_
  refine bG (ho pins s1 σ H1 v y u w _ I1 r r1 q1) fun z s2 ⟨zv,H2,I2,r2,q2⟩=>?_
  exact q8 I2 hN hi hx r2 (fun s3 I3=>⟨_,H2,I3,q2⟩) hf
 rcases l with⟨hk,hm⟩|⟨hk,c,hc,hcell⟩
 ·exact wpAny_loadName_local I.ok.kind hk hn hm go
 ·rcases hk with hk|hk
  ·exact wpAny_loadName_cell I.ok.kind hk hc hcell go
  ·rcases hx with k|k
   ·have:X.env.scope.names.lookup x=some .free:=hk
    rw[k]at this;cases this
   ·have:X.env.scope.names.lookup x=some .free:=hk
    rw[k]at this;cases this
def Uo(f:Int->Int->Int):XR:=fun x y H Q=>∃i j,x=.int i/\y=.int j/\Q (.int (f i j)) H
theorem HE:Tn X .Add (Uo fun i j=>i+j):=by
 intro pins s σ H x y v u Q I r1 r2 h
 obtain⟨i,j,e1,e2,q⟩:=h
 subst e1;subst e2
 obtain⟨t,rfl⟩:=r1
 obtain⟨t',rfl⟩:=r2
 exact iadd_int ⟨.int _,H,I.tok _,⟨_,rfl⟩,q⟩
theorem QG:Tn X .Sub (Uo fun i j=>i-j):=by
 intro pins s σ H x y v u Q I r1 r2 h
 obtain⟨i,j,e1,e2,q⟩:=h
 subst e1;subst e2
 obtain⟨t,rfl⟩:=r1
 obtain⟨t',rfl⟩:=r2
 exact isub_int ⟨.int _,H,I.tok _,⟨_,rfl⟩,q⟩
end
section
variable{X:Cx}{pos:Pos}
def QH(c:TT)(tb:TS):TS:=fun D σ H=>∃W:Nat->St->Hp->Prop,(∃m,W m σ H)/\∀m σ H,W m σ H->
 c σ H fun b H1=>if b=true then∃N:St->Hp->Prop,(∀σ' H',N σ' H'->∃m',m'<m/\W m' σ' H')/\tb {D with nx:=N,ct:=N,bk:=D.nx} σ H1 else D.nx σ H1
theorem wo{c:Expr}{body:List Stmt}{tc:TT}{tb:TS}(hp:PassesOwn (model X.prog X.w) X.A X.env X.xe)(hc:PT X c tc)(hb:nA X body tb):PS X (.While c body [] pos) (QH tc tb):=by
 intro pins s σ H D I h
 obtain⟨W,⟨m0,w0⟩,turn⟩:=h
 refine wpAny_While (codeAny_whileLoop (fun n s'=>∃σ' H',Inv X pins σ' H' s'/\W n σ' H') ?_ m0 ⟨σ,H,I,w0⟩)
 rintro n s1 ⟨σ1,H1,I1,w1⟩
 refine wpAny_passesOwn hp (bG (hc pins s1 σ1 H1 _ I1 (turn n σ1 H1 w1)) fun b s2 ⟨H2,I2,q2⟩=>?_)
 cases b with
 |true=>
  obtain⟨N,hN,q2⟩:=q2
  rw[if_pos rfl]
  refine wpAny_passesOwn hp (bG (hb pins s2 σ1 H2 _ I2 q2) fun f s3 q3=>?_)
  cases f with
  |next=>
   obtain⟨σ3,H3,I3,n3⟩:=q3
   obtain⟨m',hm,w3⟩:=hN σ3 H3 n3
   exact⟨m',hm,σ3,H3,I3,w3⟩
  |cont=>
   obtain⟨σ3,H3,I3,n3⟩:=q3
   obtain⟨m',hm,w3⟩:=hN σ3 H3 n3
   exact⟨m',hm,σ3,H3,I3,w3⟩
  |brk=>exact q3
  |ret v=>exact q3
 |false=>
  rw[if_neg Bool.false_ne_true]
  exact wpAny_execs_nil ⟨σ1,H2,I2,q2⟩
end
structure It where
 go:Nat->Hp->Prop
 Up:Nat->Hp->V->Hp->Prop
 stop:Nat->Hp->Prop
def kg(X:Cx)(pins:List (Addr×Obj))(H:Hp)(b:Addr):Prop:=
 H b=none/\b≠X.env.locals/\b∉X.fs/\(b∈X.ex\/X.s₀.heap.objs.size<=b)/\(∀x c,X.env.cells.lookup x=some c->c≠b)/\∀p∈X.pn++pins,p.1≠b
theorem Inv.CI {X:Cx}{pins:List (Addr×Obj)}{σ:St}{H H':Hp}{s:Shared}{b:Addr}(I:Inv X pins σ H s)(hb:s.heap.objs.size<=b)(hn:H' b=none):kg X pins H' b:=by
 refine⟨hn,ne_of_gt (lt_of_lt_of_le I.lt hb),I.YL hb,.inr (le_trans I.sz hb),fun x c e z=>?_,fun p hp z=>?_⟩
 ·obtain⟨v,q⟩:=I.cell x c e
  exact absurd (lt_of_lt_of_le q.lt (by rw[z];exact hb)) (Nat.lt_irrefl _)
 ·exact absurd (lt_of_lt_of_le (Heap.lt_size (I.pin p hp).1) (by rw[z];exact hb)) (Nat.lt_irrefl _)
structure Turn(P:Program)(w:World)(K:PySem.W.Frag)(tg:Expr)(J:It)(fp:List Addr)(it:Addr)(tn:Nat->Heap->Prop):Prop where
 mem:it∈fp
 obj:∀i h,tn i h->∀b∈fp,∃o,h.get? b=some o/\∀v,o.data≠.cell v
 keep:∀i h h',tn i h->(∀b∈fp,∀o,h.get? b=some o->h'.get? b=some o)->tn i h'
 item:∀(X:Cx),X.prog=P->X.w=w->X.K=K->X.calm=true->∀(i:Nat)(pins:List (Addr×Obj))(s:Shared)(σ:St)(H:Hp)(E:Value->Shared->Prop),Inv X pins σ H s->(∀b∈fp,kg X pins H b)->tn i s.heap->J.go i H->
  wpAny (model P w) X.A (pyNext (.ref it)) (fun r s1=>∃u,r=some u/\
   wpAny (model P w) X.A (letOwnedTupleGo tg (.ref it) u) (fun _ s2=>∃x H',Inv X pins σ H' s2/\RelV x u/\J.Up i H x H'/\tn (i+1) s2.heap/\∀b∈fp,H' b=none) E s1) E s
 done:∀(X:Cx),X.prog=P->X.w=w->X.K=K->X.calm=true->∀(i:Nat)(pins:List (Addr×Obj))(s:Shared)(σ:St)(H:Hp)(E:Value->Shared->Prop),Inv X pins σ H s->(∀b∈fp,kg X pins H b)->tn i s.heap->J.stop i H->
  wpAny (model P w) X.A (pyNext (.ref it)) (fun r s1=>r=none/\Inv X pins σ H s1) E s
 self:∀(A:Around)(i:Nat)(s:Shared)(Q:Value->Shared->Prop)(E:Value->Shared->Prop),tn i s.heap->Q (.ref it) s->wpAny (model P w) A (pyIter (.ref it)) Q E s
abbrev TI:=St->Hp->(It->Hp->Prop)->Prop
def PIE(X:Cx)(pins:List (Addr×Obj))(σ:St)(tg:Expr)(R:It->Hp->Prop)(itv:Value)(s2:Shared):Prop:=
 ∃(it:Addr)(fp:List Addr)(tn:Nat->Heap->Prop)(J:It)(H':Hp),itv=.ref it/\Inv X pins σ H' s2/\Turn X.prog X.w X.K tg J fp it tn/\tn 0 s2.heap/\(∀b∈fp,kg X pins H' b)/\R J H'
def PI(X:Cx)(tg iter:Expr)(wi:TI):Prop:=
 ∀(pins:List (Addr×Obj))(s:Shared)(σ:St)(H:Hp)(R:It->Hp->Prop),Inv X pins σ H s->wi σ H R->
  wpAny (model X.prog X.w) X.A (eval iter X.env) (fun v s1=>wpAny (model X.prog X.w) X.A (pyIter v) (PIE X pins σ tg R) X.xe s1) X.xe s
theorem HF{M:Model}{A:Around}{E:Value->Shared->Prop}{s:Shared}{tg:Expr}{it:Addr}{u:Value}{o:Obj}{n:String}{vs:Array Value}{Q:Unit->Shared->Prop}(ho:s.heap.get? it=some o)(hc:o.cls=.type n)(hd:o.data=.fields vs)
  (hn:["enumerate","zip","dict_itemiterator","dict_reverseitemiterator","odict_iterator","itertools.zip_longest","itertools.pairwise"].contains n=false)(hQ:Q () s):wpAny M A (letOwnedTupleGo tg (.ref it) u) Q E s:=by
 unfold letOwnedTupleGo
 cases tg<;>first
  |exact wpAny_pure hQ
  |(cases u<;>first
    |exact wpAny_pure hQ
    |(refine wpAny_bind (wpAny_load ho ?_)
      rw[hc,hd]
      show wpAny M A (if(["enumerate","zip","dict_itemiterator","dict_reverseitemiterator","odict_iterator","itertools.zip_longest","itertools.pairwise"].contains n&&vs[0]?==some (rawInt _))=true then _ else _) Q E s
      rw[if_neg (by intro h;rw[hn,Bool.false_and]at h;cases h)]
      exact wpAny_pure hQ))
def QI(K:PySem.W.Frag)(a:Addr):It:=
 ⟨fun i H=>∃xs x,cV K H a xs/\xs[i]?=some x,fun i H x H'=>H'=H/\∀xs,cV K H a xs->xs[i]?=some x,fun i H=>∃xs,cV K H a xs/\xs.length<=i⟩
def Uq(lo:Int)(n:Nat):It:=⟨fun i _=>i<n,fun i H x H'=>H'=H/\x=.int (lo+i),fun i _=>n<=i⟩
theorem FO{P:Program}{w:World}{K:PySem.W.Frag}{tg:Expr}(a it:Addr):Turn P w K tg (QI K a) [it] it (fun i h=>h.IsListIter it a i) where
 mem:=by simp
 obj:=fun i h st b hb=>by
  have e:b=it:=by simpa using hb
  subst e
  obtain⟨o,e,c,d⟩:=st
  exact⟨o,e,fun v z=>by rw[d]at z;cases z⟩
 keep:=fun i h h' st k=>st.at fun o e=>k it (by simp) o e
 item:=by
  intro X hP hw hK hc i pins s σ H E I hf st hg
  subst hP hw hK
  obtain⟨xs,x,hq,hx⟩:=hg
  obtain⟨its,rv,p,hz⟩:=I.list hq
  obtain⟨u,hu,ru⟩:=rv.get hx
  obtain⟨f0,f1,f2,f3,f4,f5⟩:=hf it (by simp)
  refine wpAny_pyNext_list_item st p.isList (x:=u) (by simpa using hu) fun h' LK sb=>?_
  have I1:Inv X pins σ H {s with heap:=h'}:=I.turned (t':=s.toks) (fun b o hb e=>(sb.2 b hb).trans e) f0 f1 f3 f4 f5
  obtain⟨o,e,c,d⟩:=id LK
  exact⟨u,rfl,HF (s:={s with heap:=h'}) e c d (by decide) ⟨x,H,I1,ru,⟨rfl,fun ys hy=>by rw[I.rf hy hq];exact hx⟩,LK,fun b hb=>(hf b hb).1⟩⟩
 done:=by
  intro X hP hw hK hc i pins s σ H E I hf st hg
  subst hP hw hK
  obtain⟨xs,hq,hx⟩:=hg
  obtain⟨its,rv,p,hz⟩:=I.list hq
  obtain⟨f0,f1,f2,f3,f4,f5⟩:=hf it (by simp)
  have hl:=rv.length
  exact wpAny_pyNext_list_end (I.ok.hd hc) st p.isList (by simp;omega) fun h' eb=>⟨rfl,I.turned (t':=s.toks) (fun b o hb e=>eb b o hb e) f0 f1 f3 f4 f5⟩
 self:=fun _ _ _ _ _ st h=>wpAny_pyIter_listiter st h
theorem CJ{P:Program}{w:World}{K:PySem.W.Frag}{tg:Expr}(it:Addr)(lo:Int)(n:Nat):Turn P w K tg (Uq lo n) [it] it (fun i h=>IsRangeIter h it (lo+(i:Nat)*1) ((n:Int)-(i:Nat)) 1) where
 mem:=by simp
 obj:=fun i h st b hb=>by
  have e:b=it:=by simpa using hb
  subst e
  exact⟨_,st,fun v z=>by
   have z':Data.fields _=Data.cell v:=z
   cases z'⟩
 keep:=fun i h h' st k=>k it (by simp) _ st
 item:=by
  intro X hP hw hK hc i pins s σ H E I hf st hg
  subst hP hw hK
  obtain⟨f0,f1,f2,f3,f4,f5⟩:=hf it (by simp)
  have W:=Walks.range (prog:=X.prog) (w:=X.w) (I.ok.hd hc) it lo 1 n
  refine W.item i s _ _ hg st fun v h' tk hv LK kk=>?_
  obtain⟨t,rfl⟩:=hv
  have I1:Inv X pins σ H {s with heap:=h',toks:=tk}:=I.turned (fun b o hb e=>kk b o (by simpa using hb) e) f0 f1 f3 f4 f5
  refine⟨_,rfl,HF (s:={s with heap:=h',toks:=tk}) (n:="range_iterator") LK rfl rfl (by decide) ⟨.int (lo+i),H,I1,⟨t,?_⟩,⟨rfl,rfl⟩,LK,fun b hb=>(hf b hb).1⟩⟩
  rw[Int.mul_one]
 done:=by
  intro X hP hw hK hc i pins s σ H E I hf st hg
  subst hP hw hK
  obtain⟨f0,f1,f2,f3,f4,f5⟩:=hf it (by simp)
  exact wpAny_pyNext_range_end (I.ok.hd hc) st (by have:n<=i:=hg;omega) fun h' eb=>⟨rfl,I.turned (t':=s.toks) (fun b o hb e=>eb b o hb e) f0 f1 f3 f4 f5⟩
 self:=fun _ _ _ _ _ st h=>wpAny_pyIter_rangeiter st h
end L2
namespace L2
open PySem PySem.Spec PyProof.Rows
section
variable{X:Cx}{tg:Expr}
def HG(K:PySem.W.Frag)(tl:TE):TI:=fun σ H R=>tl σ H fun x H1=>∃a,x=.ref a/\(∃xs,cV K H1 a xs)/\R (QI K a) H1
theorem vK{l:Expr}{tl:TE}(hl:PE X l tl):PI X tg l (HG X.K tl):=by
 intro pins s σ H R I h
 refine bG (hl pins s σ H _ I h) fun v s1 ⟨x,H1,I1,r1,q1⟩=>?_
 obtain⟨a,e,⟨xs,hq⟩,q⟩:=q1
 subst e
 cases r1
 obtain⟨its,rv,p,hz⟩:=I1.list hq
 refine wpAny_pyIter_list p.isList ?_
 refine⟨s1.heap.objs.size,[s1.heap.objs.size],_,_,H1,rfl,I1.kept (t':=s1.toks) fun b o e=>Heap.get?_push_of_some _ e,FO a _,⟨_,Heap.get?_push_size _ rfl,rfl,rfl⟩,fun b hb=>?_,q⟩
 have e:b=s1.heap.objs.size:=by simpa using hb
 subst e
 exact I1.CI (le_refl _) (I1.hok.fresh (le_refl _))
theorem AR{pins:List (Addr×Obj)}{σ:St}{H:Hp}{s:Shared}{R:It->Hp->Prop}{E:Value->Shared->Prop}{lo hi:Int}{t u v:Tok}{tk:Nat}(I:Inv X pins σ H s)(h1: -(2^62)<=lo)(h2:lo<2^62)(h3: -(2^62)<=hi)(h4:hi<2^62)
  (q:R (Uq lo (hi-lo).toNat) H):wpAny (model X.prog X.w) X.A (pyIter (.ref s.heap.objs.size)) (PIE X pins σ tg R) E {s with heap:=s.heap.push {cls:=.type "range",data:=.fields #[.int lo t,.int hi u,.int 1 v]},toks:=tk}:=by
 refine wpAny_pyIter_range (IsRange.new ..) (small_one h1 h2 h3 h4) ?_
 have I1:Inv X pins σ H {s with heap:=s.heap.push {cls:=.type "range",data:=.fields #[.int lo t,.int hi u,.int 1 v]},toks:=tk}:=I.kept fun b o e=>Heap.get?_push_of_some _ e
 refine⟨(s.heap.push {cls:=.type "range",data:=.fields #[.int lo t,.int hi u,.int 1 v]}).objs.size,[(s.heap.push {cls:=.type "range",data:=.fields #[.int lo t,.int hi u,.int 1 v]}).objs.size],_,_,H,rfl,
  I1.kept (t':=tk) fun b o e=>Heap.get?_push_of_some _ e,CJ _ lo (hi-lo).toNat,?_,fun b hb=>?_,q⟩
 ·have e1:lo+((0:Nat):Int)*1=lo:=by simp
  have e2:(((hi-lo).toNat:Nat):Int)-((0:Nat):Int)=Builtin.Range.rangeSize lo hi 1:=by rw[rangeSize_one];split<;>omega
  show IsRangeIter _ _ (lo+((0:Nat):Int)*1) ((((hi-lo).toNat:Nat):Int)-((0:Nat):Int)) 1
  rw[e1,e2]
  exact Heap.get?_push_size _ rfl
 ·have e:b=(s.heap.push {cls:=.type "range",data:=.fields #[.int lo t,.int hi u,.int 1 v]}).objs.size:=by simpa using hb
  subst e
  exact I1.CI (le_refl _) (I1.hok.fresh (le_refl _))
def Ur(ta:TA):TI:=fun σ H R=>ta σ H fun vs H1=>∃j:Int,vs=[.int j]/\ -(2^62)<=j/\j<2^62/\R (Uq 0 j.toNat) H1
def Us(ta:TA):TI:=fun σ H R=>ta σ H fun vs H1=>∃i j:Int,vs=[.int i,.int j]/\(-(2^62)<=i/\i<2^62/\ -(2^62)<=j/\j<2^62)/\R (Uq i (j-i).toNat) H1
theorem FP{a:Expr}{ta:TA}{p pos:Pos}(hg:Gl X "range")(hm:X.mg "range"=none)(ha:PA X [a] ta)(hs:starEach [a] X.env=[(false,eval a X.env)]:=by rfl):PI X tg (.Call (.Name "range" p) [a] [] pos) (Ur ta):=by
 intro pins s σ H R I h
 refine Call_ (jN I hg hm boot_range (PyProof.Rows.callWith_type1 (bG (ha pos pins s σ H _ I h) fun us s1 ⟨vs,H1,I1,r1,q1⟩=>?_) hs rfl))
 obtain⟨j,e,q1,q2,q⟩:=q1
 subst e
 cases r1 with
 |cons r rr=>
  cases rr
  obtain⟨t,rfl⟩:=r
  exact call_range_1 (AR I1 (by omega) (by omega) q1 q2 (by simpa using q))
theorem FQ{a b:Expr}{ta:TA}{p pos:Pos}(hg:Gl X "range")(hm:X.mg "range"=none)(ha:PA X [a,b] ta)(hs:starEach [a,b] X.env=[(false,eval a X.env),(false,eval b X.env)]:=by rfl)(hs2:starEach [b] X.env=[(false,eval b X.env)]:=by rfl):
  PI X tg (.Call (.Name "range" p) [a,b] [] pos) (Us ta):=by
 intro pins s σ H R I h
 refine Call_ (jN I hg hm boot_range (PyProof.Rows.callWith_type1 (bG (ha pos pins s σ H _ I h) fun us s1 ⟨vs,H1,I1,r1,q1⟩=>?_) (by rw[hs,hs2]) (by rw[hs2];rfl)))
 obtain⟨i,j,e,⟨q1,q2,q3,q4⟩,q⟩:=q1
 subst e
 cases r1 with
 |cons r rr=>
  cases rr with
  |cons r' rr=>
   cases rr
   obtain⟨t,rfl⟩:=r
   obtain⟨t',rfl⟩:=r'
   exact call_range_2 (AR I1 q1 q2 q3 q4 q)
def Y2(wi:TI)(g:TG)(tb:TS):TS:=fun D σ H=>wi σ H fun J H1=>∃W:Nat->Nat->St->Hp->Prop,(∃m,W 0 m σ H1)/\∀i m σ H,W i m σ H->
 (J.stop i H/\D.nx σ H)\/(J.go i H/\∃N:St->Hp->Prop,(∀σ' H',N σ' H'->∃m',m'<m/\W (i+1) m' σ' H')/\∀x H',J.Up i H x H'->g x σ H' fun σ2 H2=>tb {D with nx:=N,ct:=N,bk:=D.nx} σ2 H2)
def my(fp:List Addr)(h:Heap):List (Addr×Obj):=fp.filterMap fun b=>(h.get? b).map fun o=>(b,o)
theorem eM{fp:List Addr}{h:Heap}{b:Addr}{o:Obj}(hb:b∈fp)(e:h.get? b=some o):(b,o)∈my fp h:=List.mem_filterMap.mpr ⟨b,hb,by rw[e];rfl⟩
theorem FT{fp:List Addr}{h:Heap}{p:Addr×Obj}(hp:p∈my fp h):p.1∈fp/\h.get? p.1=some p.2:=by
 obtain⟨b,hb,e⟩:=List.mem_filterMap.mp hp
 cases q:h.get? b with
 |none=>rw[q]at e;cases e
 |some o=>
  rw[q]at e
  have e':(b,o)=p:=Option.some.inj e
  subst e'
  exact⟨hb,q⟩
theorem Inv.pinned {pins:List (Addr×Obj)}{σ:St}{H:Hp}{s:Shared}{fp:List Addr}(I:Inv X pins σ H s)(hf:∀b∈fp,kg X pins H b)(ho:∀b∈fp,∃o,s.heap.get? b=some o/\∀v,o.data≠.cell v):Inv X (pins++my fp s.heap) σ H s:=
 I.DT fun p hp=>(mem_append.mp hp).elim (fun z=>I.pin p (mem_append_right _ z)) fun z=>by
  obtain⟨hb,e⟩:=FT z
  obtain⟨f0,f1,f2,_⟩:=hf p.1 hb
  obtain⟨o,e',d⟩:=ho p.1 hb
  rw[e]at e';cases e'
  exact⟨e,f0,f1,f2,d⟩
theorem Inv.jd {pins pl:List (Addr×Obj)}{σ:St}{H:Hp}{s:Shared}(I:Inv X (pins++pl) σ H s):Inv X pins σ H s:=I.DT fun p hp=>I.pin p (mem_append_right _ (mem_append_left _ hp))
theorem HH{iter:Expr}{body:List Stmt}{wi:TI}{g:TG}{tb:TS}{pos:Pos}(hp:PassesOwn (model X.prog X.w) X.A X.env X.xe)(hc:X.calm=true)(hi:PI X tg iter wi)(hg:PG X tg g)(hb:nA X body tb)
  (hs:∀x,foldedSetIterable iter X.env x=pure x:=by intro _;rfl):PS X (.For tg iter body [] pos) (Y2 wi g tb):=by
 intro pins s σ H D I h
 refine wpAny_For (bG (hi pins s σ H _ I h) fun v s1 h1=>bG h1 fun itv s2 h2=>?_) hs
 obtain⟨it,fp,tn,J,H2,e,I2,T,FU,f2,W,⟨m0,w0⟩,turn⟩:=h2
 subst e
 have QJ:∀{H':Hp},(∀b∈fp,H' b=none)->∀b∈fp,kg X pins H' b:=fun hn b hb=>⟨hn b hb,(f2 b hb).2⟩
 refine codeAny_forLoop_any (fun n s'=>∃i σ' H',Inv X pins σ' H' s'/\tn i s'.heap/\(∀b∈fp,H' b=none)/\W i n σ' H') ?_ m0 ⟨0,σ,H2,I2,FU,fun b hb=>(f2 b hb).1,w0⟩
 rintro n s3 ⟨i,σ3,H3,I3,st3,rg,w3⟩
 rcases turn i n σ3 H3 w3 with⟨stop,qn⟩|⟨go,N,hN,step⟩
 ·refine wpAny_passesOwn hp (bG (T.done X rfl rfl rfl hc i pins s3 σ3 H3 X.xe I3 (QJ rg) st3 stop) fun r s4 ⟨hr,I4⟩=>?_)
  subst hr
  exact wpAny_execs_nil ⟨σ3,H3,I4,qn⟩
 ·refine wpAny_passesOwn hp (bG (T.item X rfl rfl rfl hc i pins s3 σ3 H3 X.xe I3 (QJ rg) st3 go) fun r s4 ⟨u,hr,h4⟩=>?_)
  subst hr
  refine wpAny_passesOwn hp (bG h4 fun _ s5 ⟨x,H5,I5,r5,y5,HJ,Hh⟩=>?_)
  have I5':=I5.pinned (QJ Hh) (T.obj _ _ HJ)
  refine wpAny_passesOwn hp (bG (hg _ s5 σ3 H5 x u _ I5' r5 (step x H5 y5)) fun _ s6 ⟨σ6,H6,I6,q6⟩=>?_)
  refine wpAny_passesOwn hp (bG (hb _ s6 σ6 H6 _ I6 q6) fun f s7 q7=>?_)
  have again:∀{σ7:St}{H7:Hp},Inv X (pins++my fp s5.heap) σ7 H7 s7->N σ7 H7->∃m,m<n/\∃i σ' H',Inv X pins σ' H' s7/\tn i s7.heap/\(∀b∈fp,H' b=none)/\W i m σ' H':=fun{σ7 H7} I7 n7=>by
   obtain⟨m',hm,w7⟩:=hN σ7 H7 n7
   refine⟨m',hm,i+1,σ7,H7,I7.jd,T.keep _ _ _ HJ fun b hb o e=>(I7.pin (b,o) (mem_append_right _ (mem_append_right _ (eM hb e)))).1,fun b hb=>?_,w7⟩
   obtain⟨o,e,d⟩:=T.obj _ _ HJ b hb
   exact(I7.pin (b,o) (mem_append_right _ (mem_append_right _ (eM hb e)))).2.1
  cases f with
  |next=>obtain⟨σ7,H7,I7,n7⟩:=q7;exact again I7 n7
  |cont=>obtain⟨σ7,H7,I7,n7⟩:=q7;exact again I7 n7
  |brk=>obtain⟨σ7,H7,I7,q7⟩:=q7;exact⟨σ7,H7,I7.jd,q7⟩
  |ret v=>obtain⟨x7,σ7,H7,I7,r7,q7⟩:=q7;exact⟨x7,σ7,H7,I7.jd,r7,q7⟩
end
theorem HK{K:PySem.W.Frag}{a:Addr}{xs:List V}{g:TG}{tb:TS}{D:Ends}{σ:St}{H:Hp}(Pv:Nat->St->Hp->Prop)(h0:Pv 0 σ H)(hl:∀i σ H,i<=xs.length->Pv i σ H->cV K H a xs)
  (hs:∀i x σ H,xs[i]?=some x->Pv i σ H->g x σ H fun σ2 H2=>tb {D with nx:=Pv (i+1),ct:=Pv (i+1),bk:=D.nx} σ2 H2)(hd:∀σ H,Pv xs.length σ H->D.nx σ H):
  ∃W:Nat->Nat->St->Hp->Prop,(∃m,W 0 m σ H)/\∀i m σ H,W i m σ H->
   ((QI K a).stop i H/\D.nx σ H)\/((QI K a).go i H/\∃N:St->Hp->Prop,(∀σ' H',N σ' H'->∃m',m'<m/\W (i+1) m' σ' H')/\∀x H',(QI K a).Up i H x H'->g x σ H' fun σ2 H2=>tb {D with nx:=N,ct:=N,bk:=D.nx} σ2 H2):=by
 refine⟨fun i m σ H=>m=xs.length-i/\i<=xs.length/\Pv i σ H,⟨xs.length,by simp,zero_le _,h0⟩,?_⟩
 rintro i m σ H ⟨rfl,hi,p⟩
 have q:=hl i σ H hi p
 by_cases hlt:i<xs.length
 ·refine .inr ⟨⟨xs,xs[i],q,by simp[hlt]⟩,Pv (i+1),fun σ' H' p'=>⟨xs.length-(i+1),by omega,rfl,hlt,p'⟩,fun x H' y=>?_⟩
  obtain⟨e,y⟩:=y
  subst e
  exact hs i x σ _ (y xs q) p
 ·have e:i=xs.length:=by omega
  subst e
  exact .inl ⟨⟨xs,q,le_refl _⟩,hd σ H p⟩
end L2
namespace L2
open PySem PySem.Spec PyProof.Rows
abbrev R2:=V->V->Hp->VK->Prop
def tP(X:Cx)(f:Value->Value->Sem Value)(r:R2):Prop:=
 ∀(pins:List (Addr×Obj))(s:Shared)(σ:St)(H:Hp)(x y:V)(v u:Value)(Q:VK),Inv X pins σ H s->RelV x v->RelV y u->r x y H Q->
  wpAny (model X.prog X.w) X.A (f v u) (EP X pins σ Q) X.xe s
def Ut(X:Cx)(f:Value->Sem Value)(r:V->Hp->VK->Prop):Prop:=
 ∀(pins:List (Addr×Obj))(s:Shared)(σ:St)(H:Hp)(x:V)(v:Value)(Q:VK),Inv X pins σ H s->RelV x v->r x H Q->
  wpAny (model X.prog X.w) X.A (f v) (EP X pins σ Q) X.xe s
def lE(X:Cx)(f:Value)(r:List V->Hp->VK->Prop):Prop:=
 ∀(pins:List (Addr×Obj))(s:Shared)(σ:St)(H:Hp)(xs:List V)(us:List Value)(Q:VK),Inv X pins σ H s->Vals xs us->r xs H Q->
  wpAny (model X.prog X.w) X.A (call f us) (EP X pins σ Q) X.xe s
def Uu(r:R2)(ta tb:TE):TE:=fun σ H Q=>ta σ H fun x H1=>tb σ H1 fun y H2=>r x y H2 Q
def tUn(r:V->Hp->VK->Prop)(ta:TE):TE:=fun σ H Q=>ta σ H fun x H1=>r x H1 Q
def rI(C:Int->Int->Prop)(g:Int->Int->V):R2:=fun x y H Q=>∃i j,x=.int i/\y=.int j/\C i j/\Q (g i j) H
def Hi(g:Int->Int->V):R2:=fun x y H Q=>∃i j,x=.int i/\y=.int j/\Q (g i j) H
def rU(g:Int->V):V->Hp->VK->Prop:=fun x H Q=>∃i,x=.int i/\Q (g i) H
section
variable{X:Cx}{a b c:Expr}{ta tb tc:TE}{pos:Pos}
theorem QK(ha:PE X a ta)(hb:PE X b tb){pins:List (Addr×Obj)}{s:Shared}{σ:St}{H:Hp}{R:V->V->Hp->Prop}(I:Inv X pins σ H s)
  (h:ta σ H fun x H1=>tb σ H1 fun y H2=>R x y H2){Q:Value->Shared->Prop}{f:Value->Value->Sem Value}
  (hf:∀v u s2 x y H2,Inv X pins σ H2 s2->RelV x v->RelV y u->R x y H2->wpAny (model X.prog X.w) X.A (f v u) Q X.xe s2):
  wpAny (model X.prog X.w) X.A (eval a X.env) (fun v s₁=>wpAny (model X.prog X.w) X.A (eval b X.env) (fun u s₂=>wpAny (model X.prog X.w) X.A (f v u) Q X.xe s₂) X.xe s₁) X.xe s:=by
 refine bG (ha pins s σ H _ I h) fun v s1 ⟨x,H1,I1,r1,q1⟩=>?_
 refine bG (hb pins s1 σ H1 _ I1 q1) fun u s2 ⟨y,H2,I2,r2,q2⟩=>?_
 exact hf v u s2 x y H2 I2 r1 r2 q2
theorem rh{op:Operator}{r:R2}(ho:tP X (binaryOp op) r)(ha:PE X a ta)(hb:PE X b tb):PE X (.BinOp a op b pos) (Uu r ta tb):=by
 intro pins s σ H Q I h
 exact wpAny_BinOp (QK ha hb I h fun v u s2 x y H2 I2 rx ry q=>ho pins s2 σ H2 x y v u Q I2 rx ry q)
theorem DW{op:UnaryOp}{r:V->Hp->VK->Prop}(ho:Ut X (unaryOp op) r)(ha:PE X a ta):PE X (.UnaryOp op a pos) (tUn r ta):=by
 intro pins s σ H Q I h
 exact UnaryOp_ (bG (ha pins s σ H _ I h) fun v s1 ⟨x,H1,I1,r1,q1⟩=>ho pins s1 σ H1 x v Q I1 r1 q1)
theorem Uv{f:Value->Value->Sem Value}{C:Int->Int->Prop}{g:Int->Int->Int}
  (rule:∀(i j:Int)(t u:Tok)(s:Shared)(Q:Value->Shared->Prop)(E:Value->Shared->Prop),C i j->Q (.int (g i j) s.toks) {s with toks:=s.toks+1}->wpAny (model X.prog X.w) X.A (f (.int i t) (.int j u)) Q E s):
  tP X f (rI C fun i j=>.int (g i j)):=by
 intro pins s σ H x y v u Q I rx ry h
 obtain⟨i,j,rfl,rfl,hc,q⟩:=h
 obtain⟨t,rfl⟩:=rx
 obtain⟨t',rfl⟩:=ry
 exact rule i j t t' s _ _ hc ⟨.int (g i j),H,I.tok _,⟨_,rfl⟩,q⟩
theorem QL{f:Value->Value->Sem Value}{g:Int->Int->Int}
  (rule:∀(i j:Int)(t u:Tok)(s:Shared)(Q:Value->Shared->Prop)(E:Value->Shared->Prop),Q (.int (g i j) s.toks) {s with toks:=s.toks+1}->wpAny (model X.prog X.w) X.A (f (.int i t) (.int j u)) Q E s):
  tP X f (Hi fun i j=>.int (g i j)):=by
 intro pins s σ H x y v u Q I rx ry h
 obtain⟨i,j,rfl,rfl,q⟩:=h
 obtain⟨t,rfl⟩:=rx
 obtain⟨t',rfl⟩:=ry
 exact rule i j t t' s _ _ ⟨.int (g i j),H,I.tok _,⟨_,rfl⟩,q⟩
theorem Uw{f:Value->Value->Sem Value}{g:Int->Int->Bool}
  (rule:∀(i j:Int)(t u:Tok)(s:Shared)(Q:Value->Shared->Prop)(E:Value->Shared->Prop),Q (.bool (g i j)) s->wpAny (model X.prog X.w) X.A (f (.int i t) (.int j u)) Q E s):
  tP X f (Hi fun i j=>.bl (g i j)):=by
 intro pins s σ H x y v u Q I rx ry h
 obtain⟨i,j,rfl,rfl,q⟩:=h
 obtain⟨t,rfl⟩:=rx
 obtain⟨t',rfl⟩:=ry
 exact rule i j t t' s _ _ ⟨.bl (g i j),H,I,rfl,q⟩
def Ux(i j:Int):Prop:=0<j/\j<1073741824
def FW(i j:Int):Prop:=0<=j/\j<=1000000/\i.natAbs<2^64
def LL(i j:Int):Prop:=(-(2^64)<i/\i<2^64)\/(-(2^64)<j/\j<2^64)
theorem LL.ok {i j:Int}(h:LL i j):IntMulOk i j:=by
 rcases h with⟨h1,h2⟩|⟨h1,h2⟩
 ·exact .of_left (intBits_le_64 h1 h2)
 ·exact .of_right (intBits_le_64 h1 h2)
theorem jO:tP X (binaryOp .Add) (Hi fun i j=>.int (i+j)):=QL fun _ _ _ _ _ _ _ q=>add_int q
theorem dq:tP X (binaryOp .Sub) (Hi fun i j=>.int (i-j)):=QL fun _ _ _ _ _ _ _ q=>sub_int q
theorem CK:tP X (binaryOp .Mult) (rI LL fun i j=>.int (i*j)):=Uv fun _ _ _ _ _ _ _ hc q=>mul_int q hc.ok
theorem ko:tP X (binaryOp .FloorDiv) (rI Ux fun i j=>.int (i/j)):=Uv fun i j _ _ _ _ _ hc q=>by
 have h1:(0:Int)<j:=hc.1
 have h2:j<1073741824:=hc.2
 exact floordiv_int (by omega) (by rw[Int.fdiv_eq_ediv_of_nonneg i (by omega)];exact q) (.inl (PyProof.noPylong_small (by omega)))
theorem gM:tP X (binaryOp .Mod) (rI (fun _ j=>0<j) fun i j=>.int (i%j)):=Uv fun i j _ _ _ _ _ hc q=>by
 have h1:(0:Int)<j:=hc
 exact mod_int' (by omega) (by rw[Int.fmod_eq_emod_of_nonneg i (by omega)];exact q)
theorem QM:tP X (binaryOp .Pow) (rI FW fun i j=>.int (i^j.toNat)):=Uv fun _ _ _ _ _ _ _ hc q=>pow_int_small hc.1 hc.2.1 hc.2.2 q
theorem QN:tP X (binaryOp .LShift) (rI FW fun i j=>.int (i*2^j.toNat)):=Uv fun _ _ _ _ _ _ _ hc q=>lshift_int_small hc.1 hc.2.1 hc.2.2 q
theorem HL:tP X (binaryOp .BitAnd) (Hi fun i j=>.int (Builtin.bitAnd i j)):=QL fun _ _ _ _ _ _ _ q=>and_int q
theorem unI{f:Value->Sem Value}{g:Int->Int}
  (rule:∀(i:Int)(t:Tok)(s:Shared)(Q:Value->Shared->Prop)(E:Value->Shared->Prop),Q (.int (g i) s.toks) {s with toks:=s.toks+1}->wpAny (model X.prog X.w) X.A (f (.int i t)) Q E s):
  Ut X f (rU fun i=>.int (g i)):=by
 intro pins s σ H x v Q I rx h
 obtain⟨i,rfl,q⟩:=h
 obtain⟨t,rfl⟩:=rx
 exact rule i t s _ _ ⟨.int (g i),H,I.tok _,⟨_,rfl⟩,q⟩
theorem jP:Ut X (unaryOp .USub) (rU fun i=>.int (-i)):=unI fun _ _ _ _ _ q=>neg_int q
theorem HM:Ut X (unaryOp .Invert) (rU fun i=>.int (Builtin.bitNot i)):=unI fun _ _ _ _ _ q=>invert_int q
end
def Y3:V->V->Bool
 |.non,.non=>true|.non,.int _=>true|.int _,.non=>true|.non,.bl _=>true|.bl _,.non=>true|.non,.str _=>true|.str _,.non=>true
 |.int _,.int _=>true|.bl _,.bl _=>true|.str _,.str _=>true|.Hf _,.Hf _=>true
 |.int _,.str _=>true|.str _,.int _=>true|.bl _,.str _=>true|.str _,.bl _=>true
 |_,_=>false
def rEq:R2:=fun x y H Q=>Y3 x y=true/\Q (.bl (decide (x=y))) H
theorem LM{i j:Int}:decide (V.int i=V.int j)=(i==j):=by
 rw[Bool.eq_iff_iff]
 simp
theorem QO{i j:Bool}:decide (V.bl i=V.bl j)=(i==j):=by
 rw[Bool.eq_iff_iff]
 simp
theorem LN{i j:Str}:decide (V.str i=V.str j)=(i==j):=by
 rw[Bool.eq_iff_iff]
 simp
theorem LO{i j:Array UInt8}:decide (V.Hf i=V.Hf j)=(i.toList==j.toList):=by
 rw[Bool.eq_iff_iff]
 cases i
 cases j
 simp
section
variable{X:Cx}{a b c:Expr}{ta tb tc:TE}{pos:Pos}
theorem fK{pins:List (Addr×Obj)}{σ:St}{H:Hp}{s:Shared}{Q:VK}{k k':Bool}(I:Inv X pins σ H s)(q:Q (.bl k) H)(e:k=k'):EP X pins σ Q (.bool k') s:=by
 subst e
 exact⟨.bl k,H,I,rfl,q⟩
theorem HN:tP X (compareOp .Eq) rEq:=by
 intro pins s σ H x y v u Q I rx ry h
 obtain⟨hs,q⟩:=h
 cases x with
 |non=>
  cases rx
  cases y with
  |non=>cases ry;exact PySem.EqNone.eq_none_none (fK I q (by simp))
  |bl j=>cases ry;exact PySem.EqNone.eq_none_bool (fK I q (by simp))
  |int j=>obtain⟨t',rfl⟩:=ry;exact PySem.EqNone.eq_none_int (fK I q (by simp))
  |str j=>obtain⟨t',rfl⟩:=ry;exact PySem.EqNone.eq_none_str (fK I q (by simp))
  |_=>exact absurd (show false=true from hs) Bool.false_ne_true
 |bl i=>
  cases rx
  cases y with
  |non=>cases ry;exact PySem.EqNone.eq_bool_none (fK I q (by simp))
  |bl j=>cases ry;exact eq_bool (fK I q QO)
  |str j=>obtain⟨t',rfl⟩:=ry;exact PySem.EqMixed.eq_bool_str (fK I q (by simp))
  |_=>exact absurd (show false=true from hs) Bool.false_ne_true
 |int i=>
  obtain⟨t,rfl⟩:=rx
  cases y with
  |non=>cases ry;exact PySem.EqNone.eq_int_none (fK I q (by simp))
  |int j=>obtain⟨t',rfl⟩:=ry;exact eq_int (fK I q LM)
  |str j=>obtain⟨t',rfl⟩:=ry;exact PySem.EqMixed.eq_int_str (fK I q (by simp))
  |_=>exact absurd (show false=true from hs) Bool.false_ne_true
 |str i=>
  obtain⟨t,rfl⟩:=rx
  cases y with
  |non=>cases ry;exact PySem.EqNone.eq_str_none (fK I q (by simp))
  |bl j=>cases ry;exact PySem.EqMixed.eq_str_bool (fK I q (by simp))
  |int j=>obtain⟨t',rfl⟩:=ry;exact PySem.EqMixed.eq_str_int (fK I q (by simp))
  |str j=>obtain⟨t',rfl⟩:=ry;exact eq_str (fK I q LN)
  |_=>exact absurd (show false=true from hs) Bool.false_ne_true
 |Hf i=>
  obtain⟨t,rfl⟩:=rx
  cases y with
  |Hf j=>obtain⟨t',rfl⟩:=ry;exact PySem.W.eq_bytes (fK I q LO)
  |_=>exact absurd (show false=true from hs) Bool.false_ne_true
 |_=>cases y<;>exact absurd (show false=true from hs) Bool.false_ne_true
theorem wt:tP X (compareOp .Lt) (Hi fun i j=>.bl (decide (i<j))):=Uw fun _ _ _ _ _ _ _ q=>lt_int q
theorem nC:tP X (compareOp .Gt) (Hi fun i j=>.bl (decide (j<i))):=Uw fun _ _ _ _ _ _ _ q=>gt_int q
theorem QP:tP X (compareOp .Is) (fun x y H Q=>y=.non/\Q (.bl (decide (x=.non))) H):=by
 intro pins s σ H x y v u Q I rx ry h
 obtain⟨rfl,q⟩:=h
 cases ry
 refine is_none_gen (fK I q ?_)
 cases x<;>first
  |(cases rx;rfl)
  |(obtain⟨t,rfl⟩:=rx;rfl)
theorem aR(b:Expr){op:CmpOp}(h:op≠.In:=by decide)(h2:op≠.NotIn:=by decide):behindInMarks op b=false:=by
 have e1:(op==CmpOp.In)=false:=by cases op<;>first|rfl|exact absurd rfl h
 have e2:(op==CmpOp.NotIn)=false:=by cases op<;>first|rfl|exact absurd rfl h2
 cases b<;>simp[behindInMarks,e1,e2]
theorem LP{op:CmpOp}{r:R2}(ho:tP X (compareOp op) r)(ha:PE X a ta)(hb:PE X b tb)(hm:behindInMarks op b=false):PE X (.Compare a [op] [b] pos) (Uu r ta tb):=by
 intro pins s σ H Q I h
 exact wpAny_Compare1 (QK ha hb I h fun v u s2 x y H2 I2 rx ry q=>ho pins s2 σ H2 x y v u Q I2 rx ry q) hm
def Uy(t:TE):TT:=fun σ H Q=>t σ H fun x H'=>∃k,x=.bl k/\Q k H'
theorem iK{op:CmpOp}{r:R2}(ho:tP X (compareOp op) r)(ha:PE X a ta)(hb:PE X b tb)(hm:behindInMarks op b=false):PT X (.Compare a [op] [b] pos) (Uy (Uu r ta tb)):=by
 intro pins s σ H Q I h
 refine wpAny_isTrue_Compare1 (bG (ha pins s σ H _ I h) fun v s1 ⟨x,H1,I1,r1,q1⟩=>bG (hb pins s1 σ H1 _ I1 q1) fun u s2 ⟨y,H2,I2,r2,q2⟩=>
  bG (ho pins s2 σ H2 x y v u _ I2 r1 r2 q2) fun c s3 ⟨z,H3,I3,r3,k,e,q3⟩=>?_) hm
 subst e
 cases r3
 exact wpAny_truthy_bool ⟨H3,I3,q3⟩
theorem tW:(sizeLine:Nat)<2^63:=by rw[sizeLine_eq];decide
theorem aS:tP X (binaryOp .Add) (fun x y H Q=>∃i j,x=.str i/\y=.str j/\i.length+j.length<=sizeLine/\Q (.str (i++j)) H):=by
 intro pins s σ H x y v u Q I rx ry h
 obtain⟨i,j,rfl,rfl,hz,q⟩:=h
 obtain⟨t,rfl⟩:=rx
 obtain⟨t',rfl⟩:=ry
 exact add_str (fun t' tk=>⟨.str (i++j),H,I.tok _,⟨_,rfl⟩,q⟩) hz
theorem vals1{x:V}{us:List Value}(r:Vals [x] us):∃u,us=[u]/\RelV x u:=by
 cases r with
 |cons r1 r2=>cases r2;exact⟨_,rfl,r1⟩
theorem vals2{x y:V}{us:List Value}(r:Vals [x,y] us):∃u w',us=[u,w']/\RelV x u/\RelV y w':=by
 cases r with
 |cons r1 r2=>
  cases r2 with
  |cons r3 r4=>cases r4;exact⟨_,_,rfl,r1,r3⟩
theorem wu:lE X (.builtin "abs") (fun xs H Q=>∃i,xs=[.int i]/\Q (.int (if i<0 then-i else i)) H):=by
 intro pins s σ H xs us Q I r h
 obtain⟨i,rfl,q⟩:=h
 obtain⟨u,rfl,t,rfl⟩:=vals1 r
 exact call_abs_int fun u tk=>⟨.int (if i<0 then-i else i),H,I.tok _,⟨_,rfl⟩,q⟩
theorem FY(hc:X.calm=true):lE X (.builtin "max") (fun xs H Q=>∃i j,xs=[.int i,.int j]/\Q (.int (if j>i then j else i)) H):=by
 intro pins s σ H xs us Q I r h
 obtain⟨i,j,rfl,q⟩:=h
 obtain⟨u,w',rfl,⟨t,rfl⟩,⟨t',rfl⟩⟩:=vals2 r
 refine max_two_ints (I.ok.hd hc) fun h' tk k=>⟨_,H,I.kept k,?_,q⟩
 by_cases hj:j>i
 ·rw[if_pos hj,if_pos hj];exact⟨_,rfl⟩
 ·rw[if_neg hj,if_neg hj];exact⟨_,rfl⟩
theorem cH:lE X (.type "str") (fun xs H Q=>∃i,xs=[.int i]/\i.natAbs.log2<1920/\Q (.str (toString i)) H):=by
 intro pins s σ H xs us Q I r h
 obtain⟨i,rfl,hz,q⟩:=h
 obtain⟨u,rfl,t,rfl⟩:=vals1 r
 exact PySem.P.str_of_int hz ⟨.str _,H,I.tok _,⟨_,rfl⟩,q⟩
def Uz(K:PySem.W.Frag)(x:V)(H:Hp)(n:Nat):Prop:=
 match x with
 |.str y=>y.length<=sizeLine/\n=y.length
 |.Hf y=>y.size<=sizeLine/\n=y.size
 |.ref p=>(∃xs,cV K H p xs/\n=xs.length)\/∃xs,AQ K H p xs/\n=xs.length
 |_=>False
theorem lF:lE X (.builtin "len") (fun xs H Q=>∃x n,xs=[x]/\Uz X.K x H n/\Q (.int n) H):=by
 intro pins s σ H xs us Q I r h
 obtain⟨x,n,rfl,e,q⟩:=h
 obtain⟨u,rfl,rx⟩:=vals1 r
 have hl:=tW
 have hs:sizeLine=16777216:=sizeLine_eq
 cases x with
 |str y=>
  obtain⟨t,rfl⟩:=rx
  obtain⟨hy,e'⟩:y.length<=sizeLine/\n=y.length:=e
  subst e'
  exact len_str (by omega) ⟨.int _,H,I.tok _,⟨_,rfl⟩,q⟩
 |Hf y=>
  obtain⟨t,rfl⟩:=rx
  obtain⟨hy,e'⟩:y.size<=sizeLine/\n=y.size:=e
  subst e'
  exact PySem.W.len_bytes (by omega) ⟨.int _,H,I.tok _,⟨_,rfl⟩,q⟩
 |ref p=>
  cases rx
  have e':(∃xs,cV X.K H p xs/\n=xs.length)\/∃xs,AQ X.K H p xs/\n=xs.length:=e
  rcases e' with⟨xs,hx,e'⟩|⟨xs,hx,e'⟩
  ·subst e'
   obtain⟨its,r',pl,hz⟩:=I.list hx
   have hlen:=r'.length
   exact Calls.call_len_list pl.isList (by simp only [size_toArray];omega) ⟨.int xs.length,H,I.tok _,⟨_,by simp only [size_toArray];rw[hlen]⟩,q⟩
  ·subst e'
   obtain⟨its,r',pl,hz⟩:=I.tuple hx
   have hlen:=r'.length
   exact len_tuple pl (by simp only [size_toArray];omega) ⟨.int xs.length,H,I.tok _,⟨_,by simp only [size_toArray];rw[hlen]⟩,q⟩
 |_=>exact(show False from e).elim
end
end L2
namespace L2
open PySem PySem.Spec PyProof.Rows
structure CL(h:Heap)(x dx C:Addr)(mA:Str->Option Value):Prop where
 obj:h.get? x=some (instObj C dx)
 ns:h.Ns1 dx mA
 ne:dx≠x
theorem FZ{h:Heap}{dx:Addr}{mA:Str->Option Value}(n:h.Ns1 dx mA):∃od,h.get? dx=some od/\∀name,lookIn name od=some (mA name):=by
 obtain⟨o,es,ep,ho,hd,hk,_,hm⟩:=n
 refine⟨o,ho,fun name=>?_⟩
 have e:=hm name
 unfold nsFind findBy at e
 rw[<-Array.find?_toList]at e
 unfold lookIn
 rw[hd]
 dsimp only
 split
 ·rename_i y q
  rw[q]at e
  exact congrArg some e
 ·rename_i q
  rw[q]at e
  have a:es.toList.any (·.refKey)=false:=by
   rw[List.any_eq_false]
   intro y hy
   obtain⟨z,t,hkey⟩:=hk y (Array.mem_toList_iff.mp hy)
   simp[DictEntry.refKey,hkey]
  have a':¬es.toList.any (·.refKey)=true:=by rw[a];exact Bool.false_ne_true
  rw[if_neg a']
  exact congrArg some e
theorem CL.look {h:Heap}{x dx C:Addr}{mA:Str->Option Value}(I:CL h x dx C mA):∃od,PySem.W.InstAt h x (instObj C dx) C (some od)/\∀name,lookIn name od=some (mA name):=
 let⟨od,ho,hl⟩:=FZ I.ns
 ⟨od,⟨I.obj,rfl,rfl,ho⟩,hl⟩
section
variable{prog:Program}{w:World}{A:Around}{E:Value->Shared->Prop}{s:Shared}{K:PySem.W.Frag}{x dx C f:Addr}{mA:Str->Option Value}{name:Str}{v:Value}
theorem get_map{expr:Bool}{Q:Value->Shared->Prop}(X:K.In s.heap)(I:CL s.heap x dx C mA)(hg:plainGet K C name=true)(hh:hasDictIn K C=true)
  (ha:findIn K (.ref C) name=some none)(hv:mA name=some v)(UA:handedIn v=true)(h:Q v {s with toks:=s.toks+1}):
  wpAny (model prog w) A (getAttr (.ref x) name expr) Q E s:=by
 obtain⟨od,J,hl⟩:=I.look
 exact PySem.W.get_value X J (plainGet_of hg).1 (PySem.W.findObj_own hh ha rfl (by rw[hl,hv])) UA h
theorem HP{pl:Sem Bool}{Q:Value×List Value->Shared->Prop}(X:K.In s.heap)(I:CL s.heap x dx C mA)(hg:plainGet K C name=true)
  (hf:findIn K (.ref C) name=some (some (.ref f)))(ht:isFn K (.ref f)=true)(hv:mA name=none)(h:Q (.ref f,[.ref x]) s):
  wpAny (model prog w) A (getMethod (.ref x) name pl) Q E s:=by
 obtain⟨od,J,hl⟩:=I.look
 exact PySem.W.method_fn X J (plainGet_of hg).1 (plainGet_of hg).2 hf (beq_iff_eq.mp ht) (by show(lookIn name od).map (·.isSome)=some false;rw[hl,hv];rfl) h
theorem LQ{ns:List Str}{Q:Unit->Shared->Prop}(X:K.In s.heap)(I:CL s.heap x dx C mA)
  (hs:findIn K (.ref C) "__setattr__"=some (some (.builtin "object.__setattr__")))(hp:plainOver K C=true)(ht:takerIn K C name=some none)(hh:hasDictIn K C=true)
  (hw:PySem.Within mA ns)(hsz:ns.length<=sizeLine)
  (h:∀h',CL h' x dx C (fun y=>if y=name then some v else mA y)->Heap.SameBut dx s.heap h'->Q () {s with heap:=h',toks:=s.toks+2}):
  wpAny (model prog w) A (setAttr (.ref x) name v) Q E s:=by
 obtain⟨od,J,hl⟩:=I.look
 refine PySem.W.set_plain X J hs (PySem.W.osa_open (s:={s with toks:=s.toks+1}) (r:=none) X J hp ht fun b=>?_)
 obtain⟨cd,hc,Ud⟩:=PySem.W.any_some hh
 have hx:s.heap.get? x=some ⟨.ref C,some dx,.plain,#[]⟩:=I.obj
 refine wpAny_bind (wpAny_pure (wpAny_bind (wpAny_bind (wpAny_loadPart hx (wpAny_bind (Looks.here (s:={s with toks:=s.toks+1}) (PySem.W.looks_clsIn X hc) ?_))))))
 rw[Ud]
 refine wpAny_pure (a:=some dx) (wpAny_bind (wpAny_pure (wpAny_bind ?_)))
 refine wpAny_nsSet1 (s:={s with toks:=s.toks+1}) I.ns fun h' hn2 hs2=>?_
 obtain⟨oD,esD,epD,hoD,hdD,hcD⟩:=hn2.count (PySem.Within.cons name v hw)
 refine wpAny_bind (wpAny_lookBehind hoD (by rw[hdD];exact pastItsLine_dict (le_trans hcD (by rw[length_cons];omega))) ?_)
 exact wpAny_pure (h _ ⟨(hs2.2 _ (Ne.symm I.ne)).trans I.obj,hn2,I.ne⟩ hs2)
theorem HQ{R:Result->Shared->Prop}{vs:List Value}{kw:List (Str×Value)}(X:K.In s.heap)(hm:makesIn K C=true)
  (hi:findIn K (.ref C) "__init__"=some (some (.ref f)))(hf:typeIn K (.ref f)=some (.type "function"))
  (h:codeAny (model prog w) (A.under (.builtin "type.__call__" ⟨.ref C::vs,kw⟩)) (.call (.ref f) ⟨.ref (s.heap.objs.size+1)::vs,kw⟩) (PySem.W.InitBack (s.heap.objs.size+1) R)
   {s with heap:=(s.heap.push emptyDict).push (instObj C s.heap.objs.size)}):
  codeAny (model prog w) A (.call (.ref C) ⟨vs,kw⟩) R s:=by
 obtain⟨hh,g,d,t,os⟩:=s
 exact PySem.W.make_core (PySem.W.makes_of X hm) (looks_findIn X hi) (fun self=>PySem.W.bind_fn X self hf) (.inl rfl) h
end
def jQ(f:Str)(v:V):List (Str×V)->List (Str×V)
 |[]=>[(f,v)]
 |(g,x)::r=>if g=f then(g,v)::r else(g,x)::jQ f v r
theorem uS(f g:Str)(v:V):∀fs:List (Str×V),(jQ f v fs).lookup g=if g=f then some v else fs.lookup g
 |[]=>by
  show List.lookup g [(f,v)]=_
  by_cases h:g=f
  ·have hb:(g==f)=true:=beq_iff_eq.mpr h
   simp only [List.lookup,hb,if_pos h]
  ·have hb:(g==f)=false:=beq_eq_false_iff_ne.mpr h
   simp only [List.lookup,hb,if_neg h]
 |(k,x)::r=>by
  have ih:=uS f g v r
  rw[show jQ f v ((k,x)::r)=(if k=f then(k,v)::r else(k,x)::jQ f v r)from rfl]
  by_cases hk:k=f
  ·rw[if_pos hk]
   by_cases h:g=k
   ·have hb:(g==k)=true:=beq_iff_eq.mpr h
    simp only [List.lookup,hb,if_pos (h.trans hk)]
   ·have hb:(g==k)=false:=beq_eq_false_iff_ne.mpr h
    simp only [List.lookup,hb,if_neg (fun e:g=f=>h (e.trans hk.symm))]
  ·rw[if_neg hk]
   by_cases h:g=k
   ·have hb:(g==k)=true:=beq_iff_eq.mpr h
    simp only [List.lookup,hb,if_neg (fun e:g=f=>hk (h.symm.trans e))]
   ·have hb:(g==k)=false:=beq_eq_false_iff_ne.mpr h
    simp only [List.lookup,hb]
    exact ih
theorem tX(f:Str)(v:V):∀fs:List (Str×V),f∈(jQ f v fs).map (·.1)/\∀g,g∈fs.map (·.1)->g∈(jQ f v fs).map (·.1)
 |[]=>⟨by simp[jQ],fun g h=>by simp at h⟩
 |(k,x)::r=>by
  obtain⟨i1,i2⟩:=tX f v r
  rw[show jQ f v ((k,x)::r)=(if k=f then(k,v)::r else(k,x)::jQ f v r)from rfl]
  by_cases hk:k=f
  ·rw[if_pos hk]
   subst hk
   exact⟨by simp,fun g h=>by simpa using h⟩
  ·rw[if_neg hk]
   refine⟨?_,fun g h=>?_⟩
   ·rw[map_cons]
    exact mem_cons_of_mem _ i1
   ·rw[map_cons]at h⊢
    rcases mem_cons.mp h with e|e
    ·exact mem_cons.mpr (.inl e)
    ·exact mem_cons_of_mem _ (i2 g e)
theorem uT(f:Str)(v:V):∀fs:List (Str×V),(jQ f v fs).length<=fs.length+1
 |[]=>by simp[jQ]
 |(k,x)::r=>by
  have ih:=uT f v r
  rw[show jQ f v ((k,x)::r)=(if k=f then(k,v)::r else(k,x)::jQ f v r)from rfl]
  by_cases hk:k=f
  ·rw[if_pos hk,length_cons,length_cons];omega
  ·rw[if_neg hk,length_cons,length_cons];omega
theorem oh.some_of {v:V}{o:Option Value}(r:oh (some v) o):∃u,o=some u/\RelV v u:=by
 cases o with
 |none=>exact(show False from r).elim
 |some u=>exact⟨u,rfl,r⟩
theorem oh.none_of {o:Option Value}(r:oh none o):o=none:=by
 cases o with
 |none=>rfl
 |some u=>exact(show False from r).elim
theorem F0{v:V}{u:Value}(r:RelV v u):handedIn u=true:=by
 cases v with
 |non=>cases (show u=Value.none from r);rfl
 |bl b=>cases (show u=Value.bool b from r);rfl
 |int i=>obtain⟨t,e⟩:=(show∃t,u=Value.int i t from r);cases e;rfl
 |str x=>obtain⟨t,e⟩:=(show∃t,u=Value.str x t from r);cases e;rfl
 |Hf b=>obtain⟨t,e⟩:=(show∃t,u=Value.bytes b t from r);cases e;rfl
 |Qt b=>obtain⟨t,e⟩:=(show∃t,u=Value.float b t from r);cases e;rfl
 |ref a=>cases (show u=Value.ref a from r);rfl
 |ty n=>cases (show u=Value.type n from r);rfl
section
variable{P:Program}{w:World}{H H':Hp}{h h':Heap}{a C dx:Addr}{fs XH:List (Str×V)}
theorem vL(hok:mw P w H h)(e:H a=some (.ins C dx fs)):∃mA,CL h a dx C mA/\(∀f,oh (fs.lookup f) (mA f))/\PySem.Within mA (fs.map (·.1))/\fs.length<=1000/\H dx=some (.own a):=by
 obtain⟨d,z,ne,ob,mA,n,r,q⟩:=(show bX P w H h a (.ins C dx fs)from hok a _ e)
 exact⟨mA,⟨ob,n,ne⟩,r,q,z,d⟩
end
structure HR(K:PySem.W.Frag)(C:Addr):Prop where
 pg:plainGet K C Str.empty=true
 hd:hasDictIn K C=true
 po:plainOver K C=true
 sa:findIn K (.ref C) "__setattr__"=some (some (.builtin "object.__setattr__"))
theorem HR.get {K:PySem.W.Frag}{C:Addr}(c:HR K C)(f:Str):plainGet K C f=true:=c.pg
def fM(K:PySem.W.Frag)(C:Addr)(f:Str):Prop:=findIn K (.ref C) f=some none
theorem fM.UB {K:PySem.W.Frag}{C:Addr}{f:Str}(n:fM K C f):takerIn K C f=some none:=by
 unfold takerIn
 rw[show findIn K (.ref C) f=some none from n]
 rfl
structure Meth(K:PySem.W.Frag)(C:Addr)(m:Str)(f:Addr):Prop where
 at_:findIn K (.ref C) m=some (some (.ref f))
 fn:isFn K (.ref f)=true
 kp:keepIn K (.ref f)=true
section
variable{X:Cx}{pins:List (Addr×Obj)}{σ:St}{H:Hp}{s:Shared}{a C dx:Addr}{fs:List (Str×V)}{f:Str}{v:V}{A:Around}{E:Value->Shared->Prop}
theorem CM{b:Bool}{Q:Value->Shared->Prop}(I:Inv X pins σ H s)(e:H a=some (.ins C dx fs))(c:HR X.K C)(n:fM X.K C f)(l:fs.lookup f=some v)
  (h:∀u s',Inv X pins σ H s'->RelV v u->Q u s'):wpAny (model X.prog X.w) A (getAttr (.ref a) f b) Q E s:=by
 obtain⟨mA,O,r,_,_,_⟩:=vL I.hok e
 obtain⟨u,hu,ru⟩:=oh.some_of (v:=v) (o:=mA f) (by rw[<-l];exact r f)
 exact get_map I.pR O (c.get f) c.hd n hu (F0 ru) (h u _ (I.tok _) ru)
theorem wx{m:Str}{g:Addr}{pl:Sem Bool}{Q:Value×List Value->Shared->Prop}(I:Inv X pins σ H s)(e:H a=some (.ins C dx fs))(c:HR X.K C)(k:Meth X.K C m g)(l:fs.lookup m=none)
  (h:Q (.ref g,[.ref a]) s):wpAny (model X.prog X.w) A (getMethod (.ref a) m pl) Q E s:=by
 obtain⟨mA,O,r,_,_,_⟩:=vL I.hok e
 have hn:mA m=none:=oh.none_of (by rw[<-l];exact r m)
 exact HP I.pR O (c.get m) k.at_ k.fn hn h
theorem CN{y:V}{u:Value}{Q:Unit->Shared->Prop}(I:Inv X pins σ H s)(e:H a=some (.ins C dx fs))(c:HR X.K C)(n:fM X.K C f)(hl:fs.length<1000)(ry:RelV y u)
  (h:∀s',Inv X pins σ (upd H a (.ins C dx (jQ f y fs))) s'->Q () s'):wpAny (model X.prog X.w) A (setAttr (.ref a) f u) Q E s:=by
 obtain⟨mA,O,r,wi,_,ho⟩:=vL I.hok e
 have hz:(fs.map (·.1)).length<=sizeLine:=by rw[length_map,sizeLine_eq];omega
 refine LQ I.pR O c.sa c.po n.UB c.hd wi hz fun h' O' sb=>h _ ?_
 have hd:∃o,h'.get? dx=some o:=let⟨o,_,_,e',_⟩:=O'.ns;⟨o,e'⟩
 refine I.write (x:=a) (e:=dx) (by rw[e];exact True.intro) (.inr ho) (fun b q hb z=>(sb.2 b hb).trans z) hd ?_
 refine⟨by rw[ae O.ne];exact ho,?_,O.ne,O'.obj,_,O'.ns,fun g=>?_,fun g hg=>?_⟩
 ·have:=uT f y fs;omega
 ·show oh ((jQ f y fs).lookup g) (if g=f then some u else mA g)
  rw[uS]
  by_cases q:g=f
  ·rw[if_pos q,if_pos q];exact ry
  ·rw[if_neg q,if_neg q];exact r g
 ·by_cases q:g=f
  ·rw[q];exact(tX f y fs).1
  ·refine(tX f y fs).2 g (wi g fun z=>hg ?_)
   show(if g=f then some u else mA g)=none
   rw[if_neg q];exact z
theorem Inv.made (I:Inv X pins σ H s):Inv X pins σ (upd (upd H s.heap.objs.size (.own (s.heap.objs.size+1))) (s.heap.objs.size+1) (.ins C s.heap.objs.size []))
  {s with heap:=(s.heap.push emptyDict).push (instObj C s.heap.objs.size)}:=by
 have e1:(s.heap.push emptyDict).get? s.heap.objs.size=some emptyDict:=Heap.get?_push_size s.heap rfl
 have e2:((s.heap.push emptyDict).push (instObj C s.heap.objs.size)).get? (s.heap.objs.size+1)=some (instObj C s.heap.objs.size):=by
  have:=Heap.get?_push_size (s.heap.push emptyDict) (o:=instObj C s.heap.objs.size) rfl
  rwa [Heap.size_push]at this
 have e3:(s.heap.push emptyDict).Ns s.heap.objs.size (fun _=>none):=⟨emptyDict,#[],_,e1,rfl,(fun e he=>absurd he (by simp)),fun _=>rfl⟩
 have I1:=I.laid (a:=s.heap.objs.size) (o:=.own (s.heap.objs.size+1)) (h':=s.heap.push emptyDict) (t':=s.toks) (fun b u q=>Heap.get?_push_of_some _ q) (le_refl _) ⟨_,e1⟩
 refine I1.laid (a:=s.heap.objs.size+1) (o:=.ins C s.heap.objs.size []) (t':=s.toks) (fun b u q=>Heap.get?_push_of_some _ q) (le_of_eq (Heap.size_push _ _)) ?_
 have ne:s.heap.objs.size≠s.heap.objs.size+1:=ne_of_lt (Nat.lt_succ_self _)
 refine⟨by rw[ae ne,ak],zero_le _,ne,e2,fun _=>none,(Heap.Ns1.of_empty e3).at fun o q=>Heap.get?_push_of_some _ q,fun _=>True.intro,fun y hy=>absurd rfl hy⟩
theorem LR{prog:Program}{w:World}{env:Env}{e:Expr}{f:Str}{pos:Pos}{s:Shared}{Q:Value->Shared->Prop}(hb:attributeBase e f env (eval e env)=eval e env)
  (h:wpAny (model prog w) A (eval e env) (fun o s₁=>wpAny (model prog w) A (getAttr o f true) Q E s₁) E s):wpAny (model prog w) A (eval (.Attribute e f pos) env) Q E s:=
 Attribute_any_ h (by rw[arm_eval_Attribute,hb])
end
def UC(K:PySem.W.Frag)(ta:TE)(f:Str):TE:=fun σ H Q=>ta σ H fun x H1=>∃a C dx fs v,x=.ref a/\H1 a=some (.ins C dx fs)/\HR K C/\fM K C f/\fs.lookup f=some v/\Q v H1
def Y4(K:PySem.W.Frag)(ta tv:TE)(f:Str):TS:=fun D σ H=>tv σ H fun y H1=>ta σ H1 fun x H2=>∃a C dx fs,x=.ref a/\H2 a=some (.ins C dx fs)/\HR K C/\fM K C f/\fs.length<1000/\
 D.nx σ (upd H2 a (.ins C dx (jQ f y fs)))
section
variable{X:Cx}{o e value:Expr}{f:Str}{pos pos' Y5:Pos}{ta tv:TE}
theorem bB(he:PE X e ta)(hb:attributeBase e f X.env (eval e X.env)=eval e X.env):PE X (.Attribute e f pos) (UC X.K ta f):=by
 intro pins s σ H Q I h
 refine LR hb (bG (he pins s σ H _ I h) fun u s1 ⟨x,H1,I1,rx,a,C,dx,fs,v,ex,ea,c,n,l,q⟩=>?_)
 subst ex
 obtain rfl:u=Value.ref a:=rx
 exact CM I1 ea c n l fun u' s2 I2 ru=>⟨v,H1,I2,ru,q⟩
theorem kT(ha:PE X o ta)(hv:PE X value tv)(hs:swapsWith value (some (.Attribute o f pos')) pos.line X.env=pure false):PS X (.Assign [.Attribute o f pos'] value pos) (Y4 X.K ta tv f):=by
 intro pins s σ H D I h
 refine plainObj_wpAny_Assign_Attribute (bG (hv pins s σ H _ I h) fun u s1 ⟨y,H1,I1,ry,q⟩=>bG (ha pins s1 σ H1 _ I1 q) fun ov s2 ⟨x,H2,I2,rx,a,C,dx,fs,ex,ea,c,n,l,q2⟩=>?_) hs
 subst ex
 obtain rfl:ov=Value.ref a:=rx
 exact CN I2 ea c n l ry fun s3 I3=>⟨σ,_,I3,q2⟩
end
section
variable{X:Cx}{pins:List (Addr×Obj)}{σ:St}{H:Hp}{s:Shared}{A:Around}{E:Value->Shared->Prop}{Q:Value->Shared->Prop}{c:Value}{b:Bool}
inductive vm (K:PySem.W.Frag) (H:Hp):V->Value->Prop where
 |non:vm K H .non (.type "NoneType")
 |bl (x:Bool):vm K H (.bl x) (.type "bool")
 |int (i:Int):vm K H (.int i) (.type "int")
 |str (x:Str):vm K H (.str x) (.type "str")
 |Qt (x:UInt64):vm K H (.Qt x) (.type "float")
 |lst {a:Addr} {xs:List V} (e:H a=some (.lst xs)):vm K H (.ref a) (.type "list")
 |ym {a:Addr} {o:Obj} {xs:List V} (e:H a=some (.ym o (.lst xs))):vm K H (.ref a) (.type "list")
 |tup {a:Addr} {xs:List V} (e:H a=some (.tup xs)):vm K H (.ref a) (.type "tuple")
 |dK {a:Addr} {kvs:List (Key×V)} (e:H a=some (.dK kvs)):vm K H (.ref a) (.type "dict")
 |dT {a:Addr} {kvs:List (List Key×V)} (e:H a=some (.dT kvs)):vm K H (.ref a) (.type "dict")
 |ins {a C dx:Addr} {fs:List (Str×V)} (e:H a=some (.ins C dx fs)) (cl:HR K C) (ha:findIn K (.ref C) "__class__"=some (some (.builtin "object.__class__")))
   (hn:specialIn K (.builtin "object.__class__") "__get__"=some (some (.builtin "getset_descriptor.__get__"))) (htk:takesIn K (.builtin "object.__class__")=some true)
   (hm:mroIn K C (.type "object")=some true):vm K H (.ref a) (.ref C)
theorem pU{x:V}{u t:Value}(I:Inv X pins σ H s)(rx:RelV x u)(ty:vm X.K H x t)(e:kitOne X.K t c=some b)(h:∀tk,Q (.bool b) {s with toks:=tk}):
  wpAny (model X.prog X.w) A (call (.builtin "isinstance") [u,c]) Q E s:=by
 cases ty with
 |non=>cases (show u=Value.none from rx);exact kia_one kitx_none I.pR True.intro e (fun z=>nomatch z) h
 |bl y=>cases (show u=Value.bool y from rx);exact kia_one PySem.W.kitx_bool I.pR True.intro e (fun z=>nomatch z) h
 |int i=>obtain⟨t,q⟩:=(show∃t,u=Value.int i t from rx);cases q;exact kia_one PySem.W.kitx_int I.pR True.intro e (fun z=>nomatch z) h
 |str y=>obtain⟨t,q⟩:=(show∃t,u=Value.str y t from rx);cases q;exact kia_one PySem.W.kitx_str I.pR True.intro e (fun z=>nomatch z) h
 |Qt y=>obtain⟨t,q⟩:=(show∃t,u=Value.float y t from rx);cases q;exact kia_one PySem.W.kitx_float I.pR True.intro e (fun z=>nomatch z) h
 | @lst a xs ea=>
  cases (show u=Value.ref a from rx)
  obtain⟨_,_,n,_,h1⟩:=(show bX X.prog X.w H s.heap a (.lst xs)from I.hok a _ ea)
  exact kia_one kitx_list I.pR ⟨_,h1,rfl⟩ e (fun z=>nomatch z) h
 | @ym a ob xs ea=>
  cases (show u=Value.ref a from rx)
  obtain⟨_,_,_,n,_,h1⟩:=(show bX X.prog X.w H s.heap a (.ym ob (.lst xs))from I.hok a _ ea)
  exact kia_one kitx_list I.pR ⟨_,h1,rfl⟩ e (fun z=>nomatch z) h
 | @tup a xs ea=>
  cases (show u=Value.ref a from rx)
  obtain⟨_,_,_,p⟩:=(show bX X.prog X.w H s.heap a (.tup xs)from I.hok a _ ea)
  obtain⟨o,h1,h2,_⟩:=p
  exact kia_one kitx_tuple I.pR ⟨o,h1,h2⟩ e (fun z=>nomatch z) h
 | @dK a kvs ea=>
  cases (show u=Value.ref a from rx)
  obtain⟨_,_,vs,_,p⟩:=(show bX X.prog X.w H s.heap a (.dK kvs)from I.hok a _ ea)
  obtain⟨o,es,ep,h1,h2,_⟩:=p
  exact kia_one kitx_dict I.pR ⟨o,h1,h2.1⟩ e (fun z=>nomatch z) h
 | @dT a kvs ea=>
  cases (show u=Value.ref a from rx)
  obtain⟨_,_,xs,_,o,es,ep,h1,h2,_⟩:=(show bX X.prog X.w H s.heap a (.dT kvs)from I.hok a _ ea)
  exact kia_one kitx_dict I.pR ⟨o,h1,h2.1⟩ e (fun z=>nomatch z) h
 | @ins a C dx fs ea cl ha hn htk hm=>
  cases (show u=Value.ref a from rx)
  obtain⟨mA,O,_⟩:=vL I.hok ea
  obtain⟨od,J,_⟩:=O.look
  exact kia_one (PySem.W.kitx_own (cl.get _) cl.hd ha hn htk hm) I.pR J e (fun z=>nomatch z) h
end
end L2
namespace L2
open PySem PySem.Spec PyProof.Rows
structure aY(k:Nat)(A:Around):Prop where
 hd:A.handled=none
 dp:A.depth+3*k+5<recursionLimit
 un:A.units+16*k+200<cLine
theorem aY.mono {j k:Nat}{A:Around}(r:aY k A)(h:j<=k):aY j A:=⟨r.hd,by have:=r.dp;omega,by have:=r.un;omega⟩
theorem aY.deeper {k:Nat}{A:Around}(r:aY (k+1) A)(env:Env):aY k (A.deeper env):=
 ⟨r.hd,by have:=r.dp;show A.depth+1+3*k+5<_;omega,by have:=r.un;show A.units+3+16*k+200<_;omega⟩
theorem CO{A:Around}{C:Addr}{us:List Value}{kw:List (Str×Value)}:(A.under (.builtin "type.__call__" ⟨.ref C::us,kw⟩)).depth=A.depth+1:=by
 first|rfl|simp[Around.under,Code.weight,Code.isCreation,Code.isGuard,Code.isCaller,Code.frames,Code.isFrame,guardIds]
theorem CP{A:Around}{C:Addr}{us:List Value}{kw:List (Str×Value)}:(A.under (.builtin "type.__call__" ⟨.ref C::us,kw⟩)).units=A.units+1:=by
 first|rfl|simp[Around.under,Code.cUnits,Code.frames,Code.isFrame]
theorem aY.make {k:Nat}{A:Around}(r:aY (k+1) A)(C:Addr)(us:List Value)(kw:List (Str×Value)):aY k (A.under (.builtin "type.__call__" ⟨.ref C::us,kw⟩)):=
 ⟨r.hd,by have:=r.dp;rw[CO];omega,by have:=r.un;rw[CP];omega⟩
theorem aY.depth {k:Nat}{A:Around}(r:aY k A):A.depth<recursionLimit:=by have:=r.dp;omega
theorem aY.units {k:Nat}{A:Around}(r:aY k A):A.units+64<cLine:=by have:=r.un;omega
def LS:TA:=fun _ H Q=>Q [] H
def HS(ta:TE)(tr:TA):TA:=fun σ H Q=>ta σ H fun x H1=>tr σ H1 fun xs H2=>Q (x::xs) H2
section
variable{X:Cx}{e:Expr}{es:List Expr}{te:TE}{t:TA}{pos:Pos}
theorem aE:PA X [] LS:=fun _ _ _ _ H Q I h=>Calls.spliced_nil ⟨[],H,I,.nil,h⟩
theorem aq(ha:PE X e te)(hr:PA X es t)(hs:starEach (e::es) X.env=(false,eval e X.env)::starEach es X.env:=by rfl):PA X (e::es) (HS te t):=by
 intro pos pins s σ H Q I h
 rw[hs]
 show wpAny _ _ (spliced ((false,eval e X.env)::backTo pos (starEach es X.env))) _ _ s
 refine Calls.spliced_cons (bG (ha pins s σ H _ I h) fun u s1 ⟨x,H1,I1,r1,q1⟩=>?_)
 exact bG (hr pos pins s1 σ H1 _ I1 q1) fun us s2 ⟨xs,H2,I2,r2,q2⟩=>⟨x::xs,H2,I2,.cons r1 r2,q2⟩
def Y6(t:TA):TE:=fun σ H Q=>t σ H fun xs H1=>xs.length<=sizeLine/\∀p,H1 p=none->Q (.ref p) (upd H1 p (.tup xs))
def Y7(t:TA):TE:=fun σ H Q=>t σ H fun xs H1=>xs.length<=sizeLine/\∀p,H1 p=none->Q (.ref p) (upd H1 p (.lst xs))
theorem tY{x1}(h:PA X es t):PE X (.Tuple es x1 pos) (Y6 t):=by
 intro pins s σ H Q I hq
 refine wpAny_Tuple_spliced (bG (h pos pins s σ H _ I hq) fun us s1 ⟨xs,H1,I1,r,z,q⟩=>⟨by rw[<-r.length];exact z,?_⟩)
 have hf:H1 s1.heap.objs.size=none:=I1.hok.fresh (le_refl _)
 refine⟨.ref s1.heap.objs.size,upd H1 s1.heap.objs.size (.tup xs),I1.laid (t':=s1.toks) (fun b u e=>Heap.get?_push_of_some _ e) (le_refl _) ?_,rfl,q _ hf⟩
 exact⟨z,us,r,⟨_,Heap.get?_push_size _ rfl,rfl,_,rfl⟩⟩
theorem tZ(h:PA X es t):PE X (.List es pos) (Y7 t):=by
 intro pins s σ H Q I hq
 refine wpAny_List_spliced (bG (h pos pins s σ H _ I hq) fun us s1 ⟨xs,H1,I1,r,z,q⟩=>⟨by rw[<-r.length];exact z,?_⟩)
 have hf:H1 s1.heap.objs.size=none:=I1.hok.fresh (le_refl _)
 refine⟨.ref s1.heap.objs.size,upd H1 s1.heap.objs.size (.lst xs),I1.laid (t':=s1.toks) (fun b u e=>Heap.get?_push_of_some _ e) (le_refl _) ?_,rfl,q _ hf⟩
 exact⟨z,us,0,r,Heap.get?_push_size _ rfl⟩
end
abbrev Sp:=List V->Hp->VK->XK->Prop
abbrev Hj:=List Env->Hp->Shared->XK->Value->Shared->Prop
structure CQ(P:Program)(w:World)(K:PySem.W.Frag)(mg:Str->Option Value)(base:Heap)(A:Around)(outer:List Env)(s:Shared)(H:Hp):Prop where
 frames:A.frames=some outer
 mod:Mod K mg base
 bs:∀b o,base.get? b=some o->s.heap.get? b=some o/\H b=none
 Hg:base.objs.size<=s.heap.objs.size
 qH:s.heap.FunFrames base outer
 Lc:∀b∈wk outer,H b=none
 hok:mw P w H s.heap
 bare:AllBare s.gens
def CE(outer:List Env)(P:Program)(w:World)(H:Hp)(s:Shared)(Q:VK)(u:Value)(s':Shared):Prop:=
 ∃v H',s'.os=s.os/\AllBare s'.gens/\Un (wk outer) [] H H' s.heap s'.heap/\mw P w H' s'.heap/\RelV v u/\Q v H'
def CR(CX:Hj)(outer:List Env)(P:Program)(w:World)(H:Hp)(s:Shared)(Q:VK)(E:XK)(r:Result)(s':Shared):Prop:=
 match r with
 |.ok (.ret u)=>CE outer P w H s Q u s'
 |.ok _=>False
 |.error e=>CX outer H s E e s'
structure bH(P:Program)(w:World)(K:PySem.W.Frag)(mg:Str->Option Value)(base:Heap)(CX:Hj)(k:Nat)(f:Addr)(fd:FuncData)(ps:List Str)(sp:Sp):Prop where
 len:∀vs H Q E,sp vs H Q E->vs.length=ps.length
 run:∀(A:Around)(outer:List Env)(s:Shared)(H:Hp)(args:Args)(us:List Value)(vs:List V)(Q:VK)(E:XK),aY k A->CQ P w K mg base A outer s H->BindsTo s fd args (ps.zip us)->Vals vs us->sp vs H Q E->
  codeAny (model P w) A (.call (.ref f) args) (CR CX outer P w H s Q E) s
theorem CQ.make {P:Program}{w:World}{K:PySem.W.Frag}{mg:Str->Option Value}{base:Heap}{A:Around}{outer:List Env}{s:Shared}{H:Hp}(e:CQ P w K mg base A outer s H)(C:Addr)(us:List Value)(kw:List (Str×Value)):
  CQ P w K mg base (A.under (.builtin "type.__call__" ⟨.ref C::us,kw⟩)) outer s H:=⟨by first|exact e.frames|(simpa[Around.under,Code.envs,Code.isFrame,pushEnvs]using e.frames),e.mod,e.bs,e.Hg,e.qH,e.Lc,e.hok,e.bare⟩
section
variable{X:Cx}{pins:List (Addr×Obj)}{σ:St}{H:Hp}{s s':Shared}
theorem Inv.QQ (I:Inv X pins σ H s):CQ X.prog X.w X.K X.mg X.base X.A X.stack s H:=
 ⟨I.ok.frames,I.ok.mod,I.bs,le_trans I.ok.Hg I.sz,I.stack,I.pS,I.hok,I.bare⟩
theorem Inv.after {Q:VK}{u:Value}(I:Inv X pins σ H s)(h:CE X.stack X.prog X.w H s Q u s'):EP X pins σ Q u s':=by
 obtain⟨v,H',os,bare,un,hok,r,q⟩:=h
 obtain⟨hh,g,d,t,gO⟩:=s'
 obtain rfl:gO=s.os:=os
 exact⟨v,H',I.call (h':=hh) (g':=g) (d':=d) (t':=t) (ch:=[]) un hok bare (fun b z=>absurd z (by simp)),r,q⟩
end
def UD(sp:Sp)(yv:List V)(E:XK)(t:TA):TE:=fun σ H Q=>t σ H fun vs H1=>sp (vs++yv) H1 Q E
def Ob(C:Addr)(m:Str)(sp:Sp)(yv:List V)(E:XK)(ta:TE)(t:TA):TE:=fun σ H Q=>ta σ H fun x H1=>∃a dx fs,x=.ref a/\H1 a=some (.ins C dx fs)/\fs.lookup m=none/\
 t σ H1 fun vs H2=>sp (x::(vs++yv)) H2 Q E
def UE(C:Addr)(sp:Sp)(yv:List V)(E:XK)(t:TA):TE:=fun σ H Q=>t σ H fun vs H1=>∀x dx,H1 x=none->H1 dx=none->dx≠x->
 sp (.ref x::(vs++yv)) (upd (upd H1 dx (.own x)) x (.ins C dx [])) (fun v H2=>v=.non/\Q (.ref x) H2) E
def Binds(K:PySem.W.Frag)(fd:FuncData)(ps:List Str)(ds:List Value):Prop:=
 ∀(s:Shared)(us:List Value),K.In s.heap->(us++ds).length=ps.length->BindsTo s fd ⟨us,[]⟩ (ps.zip (us++ds))
theorem Binds.all {K:PySem.W.Frag}{fd:FuncData}{ps:List Str}(h:∀us:List Value,us.length=ps.length->bindArgs fd ⟨us,[]⟩=pure (ps.zip us)):Binds K fd ps []:=fun s us _ hl=>by
 rw[append_nil]at hl⊢
 exact .of_eq (h us hl)
def Passes(CX:Hj)(X:Cx)(E:XK):Prop:=∀(pins:List (Addr×Obj))(σ:St)(H:Hp)(s:Shared)(e:Value)(s':Shared),Inv X pins σ H s->CX X.stack H s E e s'->X.xe e s'
section
variable{X:Cx}{CX:Hj}{k:Nat}{f C:Addr}{fd:FuncData}{ps:List Str}{sp:Sp}{yv:List V}{ds:List Value}{E:XK}{x m:Str}{p pos apos:Pos}{e o:Expr}{es:List Expr}{ta:TE}{t:TA}
theorem CS{pins:List (Addr×Obj)}{σ:St}{H:Hp}{s:Shared}{Q:VK}{us:List Value}{vs:List V}(F:bH X.prog X.w X.K X.mg X.base CX k f fd ps sp)(hr:aY k X.A)(hb:Binds X.K fd ps ds)(hd:Vals yv ds)(hx:Passes CX X E)
  (I:Inv X pins σ H s)(r:Vals vs us)(h:sp (vs++yv) H Q E):wpAny (model X.prog X.w) X.A (call (.ref f) us) (EP X pins σ Q) X.xe s:=by
 have r2:Vals (vs++yv) (us++ds):=r.append hd
 have hl:(us++ds).length=ps.length:=by rw[<-r2.length];exact F.len _ _ _ _ h
 refine wpAny_call (codeAny_mono (F.run X.A X.stack s H ⟨us,[]⟩ (us++ds) (vs++yv) Q E hr I.QQ (hb s us I.pR hl) r2 h) fun r s' hq=>?_)
 cases r with
 |error e=>exact hx pins σ H s e s' I hq
 |ok fl=>
  cases fl with
  |ret u=>exact I.after hq
  |next=>exact False.elim hq
  |brk=>exact False.elim hq
  |cont=>exact False.elim hq
theorem dS(F:bH X.prog X.w X.K X.mg X.base CX k f fd ps sp)(hr:aY k X.A)(hg:Gl X x)(hm:X.mg x=some (.ref f))(hk:keepIn X.K (.ref f)=true)(hb:Binds X.K fd ps ds)(hd:Vals yv ds)(hx:Passes CX X E)
  (ha:PA X (e::es) t)(hdb:(x==("__debug__":Str))=false:=by decide)(he:starEach (e::es) X.env=(false,eval e X.env)::starEach es X.env:=by rfl)(hpl:(backTo pos (starEach es X.env)).any (·.1)=false:=by rfl):
  PE X (.Call (.Name x p) (e::es) [] pos) (UD sp yv E t):=by
 intro pins s σ H Q I h
 refine wpAny_Call_Name_kw (kj I hg hm ?_ hdb)
 refine callWith_K (h₀:=X.base) I.ok.mod.N8 hk (bG (ha pos pins s σ H _ I h) fun us s1 ⟨vs,H1,I1,r,q⟩=>⟨I1.pR,?_⟩) he hpl
 exact CS F hr hb hd hx I1 r q
theorem iM{pl:Sem Bool}(he:PE X o ta)(c:HR X.K C)(hm:Meth X.K C m f)(F:bH X.prog X.w X.K X.mg X.base CX k f fd ps sp)(hr:aY k X.A)(hb:Binds X.K fd ps ds)(hd:Vals yv ds)(hx:Passes CX X E)(ha:PA X (e::es) t)
  (hst:starEach (e::es) X.env=(false,eval e X.env)::starEach es X.env:=by rfl)(hpl:(backTo pos (starEach es X.env)).any (·.1)=false:=by rfl)
  (ht:eval (.Call (.Attribute o m apos) (e::es) [] pos) X.env=(do
   let ov<-eval o X.env
   standAt apos.atName
   let(f,first)<-holding [ov] (getMethod ov m pl)
   callWith pos f first (backTo pos (starEach (e::es) X.env)) (backToKw pos (keywordEach [] X.env))):=by rfl):
  PE X (.Call (.Attribute o m apos) (e::es) [] pos) (Ob C m sp yv E ta t):=by
 intro pins s σ H Q I h
 refine methodCall_KW (pl:=pl) (bG (he pins s σ H _ I h) fun u s1 ⟨x,H1,I1,rx,a,dx,fs,ex,ea,l,q⟩=>?_) ht
 subst ex
 obtain rfl:u=Value.ref a:=rx
 refine wx I1 ea c hm l ?_
 refine callWith_K (first:=[.ref a]) (h₀:=X.base) I.ok.mod.N8 hm.kp (bG (ha pos pins s1 σ H1 _ I1 q) fun us s2 ⟨vs,H2,I2,r,q2⟩=>⟨I2.pR,?_⟩) hst hpl
 exact CS (us:=.ref a::us) (vs:=.ref a::vs) F hr hb hd hx I2 (.cons rfl r) q2
theorem HU{pl:Sem Bool}(he:PE X o ta)(c:HR X.K C)(hm:Meth X.K C m f)(F:bH X.prog X.w X.K X.mg X.base CX k f fd ps sp)(hr:aY k X.A)(hb:Binds X.K fd ps ds)(hd:Vals yv ds)(hx:Passes CX X E)
  (ht:eval (.Call (.Attribute o m apos) [] [] pos) X.env=(do
   let ov<-eval o X.env
   standAt apos.atName
   let(f,first)<-holding [ov] (getMethod ov m pl)
   callWith pos f first (backTo pos (starEach [] X.env)) (backToKw pos (keywordEach [] X.env))):=by rfl):
  PE X (.Call (.Attribute o m apos) [] [] pos) (Ob C m sp yv E ta LS):=by
 intro pins s σ H Q I h
 refine methodCall_KW (pl:=pl) (bG (he pins s σ H _ I h) fun u s1 ⟨x,H1,I1,rx,a,dx,fs,ex,ea,l,q⟩=>?_) ht
 subst ex
 obtain rfl:u=Value.ref a:=rx
 refine wx I1 ea c hm l ?_
 exact PySem.W.callWith_K0 (first:=[.ref a]) I1.pR hm.kp (CS (us:=[.ref a]) (vs:=[.ref a]) F hr hb hd hx I1 (.cons rfl .nil) q)
structure Mk(K:PySem.W.Frag)(C f:Addr):Prop where
 makes:makesIn K C=true
 init:findIn K (.ref C) "__init__"=some (some (.ref f))
 fn:isFn K (.ref f)=true
 kp:keepIn K (.ref C)=true
theorem HV{pins:List (Addr×Obj)}{σ:St}{H:Hp}{s:Shared}{Q:VK}{us:List Value}{vs:List V}(M:Mk X.K C f)(F:bH X.prog X.w X.K X.mg X.base CX k f fd ps sp)(hr:aY (k+1) X.A)(hb:Binds X.K fd ps ds)(hd:Vals yv ds)
  (hx:Passes CX X E)(I:Inv X pins σ H s)(r:Vals vs us)
  (h:∀x dx,H x=none->H dx=none->dx≠x->sp (.ref x::(vs++yv)) (upd (upd H dx (.own x)) x (.ins C dx [])) (fun v H2=>v=.non/\Q (.ref x) H2) E):
  wpAny (model X.prog X.w) X.A (call (.ref C) us) (EP X pins σ Q) X.xe s:=by
 have hq:=h (s.heap.objs.size+1) s.heap.objs.size (I.hok.fresh (Nat.le_succ _)) (I.hok.fresh (le_refl _)) (ne_of_lt (Nat.lt_succ_self _))
 have I2:=Inv.made (C:=C) I
 have r2:Vals (V.ref (s.heap.objs.size+1)::(vs++yv)) (Value.ref (s.heap.objs.size+1)::(us++ds)):=.cons rfl (r.append hd)
 have hl:(Value.ref (s.heap.objs.size+1)::us++ds).length=ps.length:=by
  have e:=r2.length
  rw[F.len _ _ _ _ hq]at e
  exact e.symm
 refine wpAny_call (HQ (f:=f) I.pR M.makes M.init (beq_iff_eq.mp M.fn) (codeAny_mono (F.run _ X.stack _ _ ⟨Value.ref (s.heap.objs.size+1)::us,[]⟩ (Value.ref (s.heap.objs.size+1)::(us++ds)) _ _ E (hr.make C us [])
  (I2.QQ.make C us []) (hb _ (Value.ref (s.heap.objs.size+1)::us) I2.pR hl) r2 hq) fun r s' LU=>?_))
 cases r with
 |error e=>exact hx pins σ _ _ e s' I2 LU
 |ok fl=>
  cases fl with
  |ret u=>
   obtain⟨v,H',I3,rv,ev,q3⟩:=I2.after LU
   subst ev
   exact⟨rv,⟨V.ref (s.heap.objs.size+1),H',I3,rfl,q3⟩⟩
  |next=>exact False.elim LU
  |brk=>exact False.elim LU
  |cont=>exact False.elim LU
theorem LV(M:Mk X.K C f)(F:bH X.prog X.w X.K X.mg X.base CX k f fd ps sp)(hr:aY (k+1) X.A)(hg:Gl X x)(hm:X.mg x=some (.ref C))(hb:Binds X.K fd ps ds)(hd:Vals yv ds)(hx:Passes CX X E)
  (ha:PA X (e::es) t)(hdb:(x==("__debug__":Str))=false:=by decide)(he:starEach (e::es) X.env=(false,eval e X.env)::starEach es X.env:=by rfl)(hpl:(backTo pos (starEach es X.env)).any (·.1)=false:=by rfl):
  PE X (.Call (.Name x p) (e::es) [] pos) (UE C sp yv E t):=by
 intro pins s σ H Q I h
 refine wpAny_Call_Name_kw (kj I hg hm ?_ hdb)
 refine callWith_K (h₀:=X.base) I.ok.mod.N8 M.kp (bG (ha pos pins s σ H _ I h) fun us s1 ⟨vs,H1,I1,r,q⟩=>⟨I1.pR,?_⟩) he hpl
 exact HV M F hr hb hd hx I1 r q
end
structure aw(N P:List Str)(sc:Scope):Prop where
 kind:sc.kind=.function
 co:sc.isCoroutine=false
 gen:sc.isGenerator=false
 nd:N.Nodup
 pre:N.take P.length=P
 par:∀x∈P,sc.names.lookup x=some .local\/sc.names.lookup x=some .cell
 QR:∀y∈sc.names,y.2≠.free
theorem yX{kindOf:Str->Option NameKind}{x:Str}:∀{binds:List (Str×Value)}{m:Str->Option Value},(∀v,(x,v)∉binds)->bindL kindOf binds m x=m x
 |[],_,_=>rfl
 |(n,v)::r,m,h=>by
  unfold bindL
  rw[yX fun w hw=>h w (mem_cons_of_mem _ hw)]
  split
  ·have:x≠n:=by rintro rfl;exact h v mem_cons_self
   simp[this]
  ·rfl
theorem yY{kindOf:Str->Option NameKind}{x:Str}:∀{binds:List (Str×Value)}{m:Str->Option Value},(∀v,(x,v)∉binds)->bindC kindOf binds m x=m x
 |[],_,_=>rfl
 |(n,v)::r,m,h=>by
  unfold bindC
  rw[yY fun w hw=>h w (mem_cons_of_mem _ hw)]
  split
  ·rfl
  ·have:x≠n:=by rintro rfl;exact h v mem_cons_self
   simp[this]
theorem yZ{kindOf:Str->Option NameKind}{x:Str}{v:Value}:∀{P:List Str}{vs:List Value}{i:Nat}{m:Str->Option Value},P.Nodup->P[i]?=some x->vs[i]?=some v->kindOf x=some .local->
  bindL kindOf (P.zip vs) m x=some v
 |[],_,_,_,_,h,_,_=>by simp at h
 |_::_,[],_,_,_,_,h,_=>by simp at h
 |p::P,w::vs,0,m,nd,h1,h2,hk=>by
  simp at h1 h2;subst h1;subst h2
  show bindL kindOf ((p,w)::P.zip vs) m p=_
  unfold bindL
  rw[yX fun v hv=>(nodup_cons.mp nd).1 (of_mem_zip hv).1,if_pos hk]
  simp
 |p::P,w::vs,i+1,m,nd,h1,h2,hk=>by
  show bindL kindOf ((p,w)::P.zip vs) m x=_
  unfold bindL
  exact yZ (i:=i) (nodup_cons.mp nd).2 (by simpa using h1) (by simpa using h2) hk
theorem y0{kindOf:Str->Option NameKind}{x:Str}{v:Value}:∀{P:List Str}{vs:List Value}{i:Nat}{m:Str->Option Value},P.Nodup->P[i]?=some x->vs[i]?=some v->kindOf x≠some .local->
  bindC kindOf (P.zip vs) m x=some v
 |[],_,_,_,_,h,_,_=>by simp at h
 |_::_,[],_,_,_,_,h,_=>by simp at h
 |p::P,w::vs,0,m,nd,h1,h2,hk=>by
  simp at h1 h2;subst h1;subst h2
  show bindC kindOf ((p,w)::P.zip vs) m p=_
  unfold bindC
  rw[yY fun v hv=>(nodup_cons.mp nd).1 (of_mem_zip hv).1,if_neg hk]
  simp
 |p::P,w::vs,i+1,m,nd,h1,h2,hk=>by
  show bindC kindOf ((p,w)::P.zip vs) m x=_
  unfold bindC
  exact y0 (i:=i) (nodup_cons.mp nd).2 (by simpa using h1) (by simpa using h2) hk
def start(N:List Str)(vs:List V):St:=vs.map some++replicate (N.length-vs.length) none
def bA(CX:Hj)(P:Program)(w:World)(K:PySem.W.Frag)(mg:Str->Option Value)(base:Heap)(N:List Str)(qual:Str)(scope:Scope)(f:Addr)(cd:Value)(A:Around)(outer:List Env)(s:Shared)(H:Hp)(E:XK):Cx where
 prog:=P
 w:=w
 K:=K
 mg:=mg
 base:=base
 A:=A.deeper (envOfC qual scope s.heap.objs.size f cd)
 N:=N
 s₀:=s
 H₀:=H
 env:=envOfC qual scope s.heap.objs.size f cd
 outer:=outer
 stack:=envOfC qual scope s.heap.objs.size f cd::outer
 ex:=[]
 calm:=true
 fn:=fun _=>true
 pn:=[]
 xe:=fun e s'=>wpAny (model P w) (A.deeper (envOfC qual scope s.heap.objs.size f cd)) (leaving (envOfC qual scope s.heap.objs.size f cd) e) (fun _ UG=>CX outer H s E e UG) (fun e' UG=>CX outer H s E e' UG) s'
theorem AS{sc:Scope}{n:Nat}{x:Str}(h:sc.names.lookup x=some .cell):∃c,(cellsFrom n sc.names []).lookup x=some c:=by
 have q:=cellsFrom_some sc.names n [] (.inl h)
 exact isSome_iff_exists.mp q
theorem F3{CX:Hj}{P:Program}{w:World}{K:PySem.W.Frag}{mg:Str->Option Value}{base:Heap}{N ps:List Str}{qual:Str}{scope:Scope}{f:Addr}{cd:Value}{A:Around}{outer:List Env}{s s1:Shared}{H:Hp}{E:XK}{us:List Value}{vs:List V}
  (S:aw N ps scope)(hd:A.handled=none)(e0:CQ P w K mg base A outer s H)(hl:vs.length=ps.length)(r:Vals vs us)
  (x:InCallC s s.heap.objs.size (bindL (envOfC qual scope s.heap.objs.size f cd).kindOf (ps.zip us) fun _=>none) (cellsFrom (s.heap.objs.size+1) scope.names []) (bindC (envOfC qual scope s.heap.objs.size f cd).kindOf (ps.zip us) fun _=>none) s1):
  Inv (bA CX P w K mg base N qual scope f cd A outer s H E) [] (start N vs) H s1:=by
 have hpl:ps.length<=N.length:=by have:=congrArg length S.pre;rw[length_take]at this;omega
 obtain⟨h1,tk,rfl,hk⟩:=x.done
 have UH:∀b:Addr,b∉(bA CX P w K mg base N qual scope f cd A outer s H E).ex:=fun b z=>absurd (show b∈([]:List Addr)from z) (by simp)
 refine⟨⟨e0.mod,S.kind,rfl,rfl,le_refl _,fun y z c h1 h2=>?_,fun y hy=>?_,fun y c _ h=>?_,fun _=>hd,Around.frames_deeper e0.frames,.inr ⟨rfl,rfl⟩,fun b z=>absurd z (UH b),e0.bs,e0.Hg,fun b _ _=>UH b,fun b z=>absurd z (UH b),e0.qH,e0.Lc⟩,
  rfl,e0.bare,Un.kept hk,⟨_,x.toInCall.ns,fun i y v h1 h2 h3=>?_⟩,fun y c h=>⟨_,x.cell y c h⟩,e0.hok.fresh (le_refl _),fun y c h=>?_,fun p hp=>absurd (show p∈([]:List (Addr×Obj))from hp) (by simp),e0.hok.kept hk,?_⟩
 ·exact name_of_addr x.apart (PySem.mem_of_lookup h1) (PySem.mem_of_lookup h2)
 ·have hy:scope.names.lookup y=some .cell\/scope.names.lookup y=some .free:=hy
  rcases hy with hy|hy
  ·exact AS hy
  ·exact absurd rfl (S.QR _ (PySem.mem_of_lookup hy))
 ·exact le_of_lt (x.above y c (PySem.mem_of_lookup h))
 ·have hi:i<vs.length:=by
   unfold start at h2
   by_cases hi:i<vs.length
   ·exact hi
   ·rw[getElem?_append_right (by simpa using hi)]at h2
    rw[getElem?_replicate]at h2
    split at h2<;>cases h2
  have ha:vs[i]?=some v:=by
   unfold start at h2
   rw[getElem?_append_left (by simpa using hi),getElem?_map]at h2
   cases e:vs[i]? with
   |none=>rw[e]at h2;cases h2
   |some a=>rw[e]at h2;cases h2;rfl
  obtain⟨u,hu,rv⟩:=r.get ha
  have hp:ps[i]?=some y:=by
   rw[<-S.pre,List.getElem?_take_of_lt (by omega)];exact h1
  have ndP:ps.Nodup:=by rw[<-S.pre];exact S.nd.sublist (List.take_sublist _ _)
  refine⟨u,rv,?_⟩
  rcases S.par y (mem_of_getElem? hp)with k|k
  ·exact .inl ⟨k,yZ ndP hp hu k⟩
  ·obtain⟨c,e⟩:=AS (n:=s.heap.objs.size+1) k
   refine .inr ⟨.inl k,c,e,?_⟩
   have q:=x.cell y c e
   rw[y0 ndP hp hu (by show scope.names.lookup y≠_;rw[k];decide)]at q
   exact q
 ·exact e0.hok.fresh (le_of_lt (x.above y c (PySem.mem_of_lookup h)))
 ·unfold start
  show _=N.length
  rw[length_append,length_map,length_replicate]
  omega
theorem HW{CX:Hj}{P:Program}{w:World}{K:PySem.W.Frag}{mg:Str->Option Value}{base:Heap}{k:Nat}{f:Addr}{name qual:Str}{params:Arguments}{body:List Stmt}{scope:Scope}{dV kV doc pm cdv ct oc:Value}{an od:Option Addr}
  {DX:Array (Option Value)}{N ps:List Str}{sp:Sp}(lk:K.lookup f=some ⟨oc,od,.func (PySem.W.fnOf name qual params body scope dV kV doc pm an cdv ct),DX⟩)(hcd:codeIn K cdv qual=true)(S:aw N ps scope)
  (len:∀vs H Q E,sp vs H Q E->vs.length=ps.length)
  (hbody:∀(A:Around)(outer:List Env)(s:Shared)(H:Hp)(vs:List V)(Q:VK)(E:XK),aY k (A.deeper (envOfC qual scope s.heap.objs.size f cdv))->sp vs H Q E->
   ∃t,nA (bA CX P w K mg base N qual scope f cdv A outer s H E) body t/\t {nx:=fun _ H'=>Q .non H',rt:=Q} (start N vs) H):
  bH P w K mg base CX (k+1) f (PySem.W.fnOf name qual params body scope dV kV doc pm an cdv ct) ps sp:=by
 refine⟨len,fun A outer s H args us vs Q E hr e0 hb r DY=>?_⟩
 have hl:=len _ _ _ _ DY
 have KX:K.In s.heap:=e0.mod.N8.keeps fun b o e=>(e0.bs b o e).1
 have lim:s.heap.NoLimit:=e0.mod.nolimit.keeps fun b o e=>(e0.bs b o e).1
 have hkind:∀y∈ps.zip us,scope.names.lookup y.1=some .local\/(scope.names.lookup y.1=some .cell/\((cellsFrom (s.heap.objs.size+1) scope.names []).lookup y.1).isSome=true):=fun⟨n,v⟩ hy=>by
  rcases S.par n (of_mem_zip hy).1 with q|q
  ·exact .inl q
  ·exact .inr ⟨q,cellsFrom_some _ _ _ (.inl q)⟩
 refine codeAny_call_function hr.depth (KX _ _ lk) rfl S.co S.gen rfl (PySem.W.codeRec_of KX hcd) (hb _ _ _ _ ?_)
 refine wpAny_newFunctionEnv_cells S.kind hkind fun env he s1 x=>?_
 subst he
 refine⟨lim.keeps x.toInCall.keep,codeAny_func ?_⟩
 obtain⟨t,ht,hq⟩:=hbody A outer s H vs Q E (hr.deeper _) DY
 have I:Inv (bA CX P w K mg base N qual scope f cdv A outer s H E) [] (start N vs) H s1:=F3 S hr.hd e0 hl r x
 refine wpAny_mono (ht [] s1 (start N vs) H _ I hq) (fun fl s' hs=>?_) fun e s' hs=>hs
 have fin:∀{σ':St}{H':Hp}{v:V}{u:Value},Inv (bA CX P w K mg base N qual scope f cdv A outer s H E) [] σ' H' s'->RelV v u->Q v H'->CE outer P w H s Q u s':=
  fun{σ' H' v u} J rv q=>⟨v,H',J.os,J.bare,J.base,J.hok,rv,q⟩
 cases fl with
 |ret u=>
  obtain⟨v,σ',H',J,rv,q⟩:=hs
  exact fin J rv q
 |next=>
  obtain⟨σ',H',J,q⟩:=hs
  exact fin (v:=V.non) (u:=Value.none) J rfl q
 |brk=>
  obtain⟨_,_,_,q⟩:=hs
  exact False.elim q
 |cont=>
  obtain⟨_,_,_,q⟩:=hs
  exact False.elim q
end L2
namespace L2
open PySem PySem.Spec PyProof.Rows
section
variable{X:Cx}{x:Str}{p pos:Pos}{e:Expr}{es:List Expr}{t:TA}{id T:String}{r:List V->Hp->VK->Prop}
def Y8(r:List V->Hp->VK->Prop)(t:TA):TE:=fun σ H Q=>t σ H fun vs H1=>r vs H1 Q
theorem je(hc:lE X (.builtin id) r)(hg:Gl X x)(hm:X.mg x=none)(hv:bootBuiltins x=some (.builtin id))(ha:PA X (e::es) t)(hn:x≠"__name__":=by decide)(hdb:(x==("__debug__":Str))=false:=by decide)
  (he:starEach (e::es) X.env=(false,eval e X.env)::starEach es X.env:=by rfl)(hpl:(backTo pos (starEach es X.env)).any (·.1)=false:=by rfl):PE X (.Call (.Name x p) (e::es) [] pos) (Y8 r t):=by
 intro pins s σ H Q I h
 refine wpAny_Call_Name_kw (jN I hg hm hv ?_ hn hdb)
 exact PyProof.Rows.callWith_builtin1 (bG (ha pos pins s σ H _ I h) fun us s1 ⟨vs,H1,I1,r1,q1⟩=>hc pins s1 σ H1 vs us Q I1 r1 q1) he hpl
theorem lG(hc:lE X (.type T) r)(hg:Gl X x)(hm:X.mg x=none)(hv:bootBuiltins x=some (.type T))(ha:PA X (e::es) t)(hn:x≠"__name__":=by decide)(hdb:(x==("__debug__":Str))=false:=by decide)
  (he:starEach (e::es) X.env=(false,eval e X.env)::starEach es X.env:=by rfl)(hpl:(backTo pos (starEach es X.env)).any (·.1)=false:=by rfl):PE X (.Call (.Name x p) (e::es) [] pos) (Y8 r t):=by
 intro pins s σ H Q I h
 refine wpAny_Call_Name_kw (jN I hg hm hv ?_ hn hdb)
 exact PyProof.Rows.callWith_type1 (bG (ha pos pins s σ H _ I h) fun us s1 ⟨vs,H1,I1,r1,q1⟩=>hc pins s1 σ H1 vs us Q I1 r1 q1) he hpl
end
end L2
namespace HT
open PySem PyProof.Rows
section
open PySem.SeqAt
open PySem.AutoSeq1 (wpAny_loadPart')
open PySem.MeetsSeq PySem.MeetsSeq2 PySem.MeetsSeq3
end
section
variable{prog:Program}{w:World}{A:Around}{E:Value->Shared->Prop}{s:Shared}
def wy(n d:Nat):Option Int->Nat
 |none=>d
 |some v=>if v<0 then(v+(n:Int)).toNat else min v.toNat n
theorem oJ(n d:Nat):wy n d none=d:=rfl
theorem rm(n d k:Nat):wy n d (some (k:Int))=min k n:=by
 show(if(k:Int)<0 then((k:Int)+(n:Int)).toNat else min (k:Int).toNat n)=min k n
 rw[if_neg (by omega),toNat_natCast]
end
end HT
namespace L2
open PySem PySem.Spec PyProof.Rows
abbrev TO:=St->Hp->(Option Int->Hp->Prop)->Prop
def PO(X:Cx)(e:Option Expr)(t:TO):Prop:=
 ∀(pins:List (Addr×Obj))(s:Shared)(σ:St)(H:Hp)(Q:Option Int->Hp->Prop),Inv X pins σ H s->t σ H Q->
  wpAny (model X.prog X.w) X.A (evalPart e X.env) (fun u s'=>∃o H',Inv X pins σ H' s'/\IsPart u o/\Q o H') X.xe s
def LW:TO:=fun _ H Q=>Q none H
def UI(t:TE):TO:=fun σ H Q=>t σ H fun x H1=>∃i,x=.int i/\Q (some i) H1
theorem intsAre_of{ns:List Int}:∀{us:List Value},Vals (ns.map V.int) us->IntsAre us ns:=by
 induction ns with
 |nil=>intro us r;rw[map_nil]at r;cases r;exact .nil
 |cons n ns ih=>
  intro us r
  rw[map_cons]at r
  cases r with
  |cons r1 r2=>
   obtain⟨t,e⟩:=r1
   subst e
   exact .cons n t (ih r2)
section
variable{X:Cx}{e:Expr}{te:TE}{lo hi:Option Expr}{tl th:TO}{pos p2:Pos}
theorem DZ:PO X none LW:=by
 intro pins s σ H Q I h
 rw[evalPart_none]
 exact wpAny_pure ⟨none,H,I,.none,h⟩
theorem D0(h:PE X e te):PO X (some e) (UI te):=by
 intro pins s σ H Q I hw
 rw[evalPart_some]
 refine bG (h pins s σ H _ I hw) fun u s1 ⟨x,H1,I1,r1,q1⟩=>?_
 obtain⟨i,rfl,q⟩:=q1
 obtain⟨t,rfl⟩:=r1
 exact⟨some i,H1,I1,.int i t,q⟩
def Y9(X:Cx)(r:V->Option Int->Option Int->Hp->VK->Prop):Prop:=
 ∀(pins:List (Addr×Obj))(s:Shared)(σ:St)(H:Hp)(x:V)(v vl vu:Value)(lo hi:Option Int)(sl:Addr)(Q:VK),Inv X pins σ H s->RelV x v->s.heap.IsSliceOf sl vl vu .none->IsPart vl lo->IsPart vu hi->r x lo hi H Q->
  ∃T id,typeLookup (.type T) "__getitem__"=pure (some (.builtin id))/\s.TypeIs v T/\wpAny (model X.prog X.w) X.A (getItem v (.ref sl)) (EP X pins σ Q) X.xe s
def tSl(r:V->Option Int->Option Int->Hp->VK->Prop)(te:TE)(tl th:TO):TE:=fun σ H Q=>te σ H fun x H1=>tl σ H1 fun l H2=>th σ H2 fun u H3=>r x l u H3 Q
theorem wz{r:V->Option Int->Option Int->Hp->VK->Prop}(hr:Y9 X r)(he:PE X e te)(hl:PO X lo tl)(hu:PO X hi th):PE X (.Subscript e (.Slice lo hi none p2) pos) (tSl r te tl th):=by
 intro pins s σ H Q I h
 refine Subscript_ (bG (he pins s σ H _ I h) fun v s1 ⟨x,H1,I1,r1,q1⟩=>?_)
 refine wpAny_Slice (bG (hl pins s1 σ H1 _ I1 q1) fun vl s2 ⟨l,H2,I2,pl,q2⟩=>bG (hu pins s2 σ H2 _ I2 q2) fun vu s3 ⟨u,H3,I3,pu,q3⟩=>?_)
 rw[evalPart_none]
 refine wpAny_pure ?_
 have I4:Inv X pins σ H3 {s3 with heap:=s3.heap.push {cls:=.type "slice",data:=.fields #[vl,vu,.none]}}:=I3.kept (t':=s3.toks) fun b ob q=>Heap.get?_push_of_some _ q
 obtain⟨T,id,hT,ht,hg⟩:=hr pins {s3 with heap:=s3.heap.push {cls:=.type "slice",data:=.fields #[vl,vu,.none]}} σ H3 x v vl vu l u s3.heap.objs.size Q I4 r1 (Heap.IsSliceOf.new ..) pl pu q3
 show wpAny (model X.prog X.w) X.A (subscriptTail e (.Slice lo hi none p2) v (.ref s3.heap.objs.size)) (EP X pins σ Q) X.xe {s3 with heap:=s3.heap.push {cls:=.type "slice",data:=.fields #[vl,vu,.none]}}
 exact tail_any (ops:=[.ref s3.heap.objs.size,v]) ht hT hg (by with_unfolding_all rfl)
def yw(xs:List V)(lo hi:Option Int):List V:=(xs.drop (HT.wy xs.length 0 lo)).take (HT.wy xs.length xs.length hi-HT.wy xs.length 0 lo)
theorem AU(xs:List V)(lo hi:Option Int):(yw xs lo hi).length<=xs.length:=by
 unfold yw
 rw[length_take,length_drop]
 omega
end
end L2
namespace L2
open PySem PySem.Spec PyProof.Rows
def qZ(n:Nat)(i:Int):Option Nat:=if 0<=i then(if i<n then some i.toNat else none)else if-(n:Int)<=i then some (i+n).toNat else none
def iN{α:Type}(xs:List α)(i:Int):Option α:=(qZ xs.length i).bind fun j=>xs[j]?
theorem D1{n:Nat}{i:Int}{j:Nat}(h:qZ n i=some j):seqIndex? i n=some j/\j<n/\ -(n:Int)<=i/\i<n:=by
 unfold qZ at h
 by_cases h0:0<=i
 ·rw[if_pos h0]at h
  by_cases h1:i<n
  ·rw[if_pos h1]at h
   have e:i.toNat=j:=Option.some.inj h
   exact⟨by rw[seqIndex_of h0 h1,e],by omega,by omega,h1⟩
  ·rw[if_neg h1]at h;cases h
 ·rw[if_neg h0]at h
  by_cases h1: -(n:Int)<=i
  ·rw[if_pos h1]at h
   have e:(i+n).toNat=j:=Option.some.inj h
   exact⟨by rw[seqIndex_neg (by omega) h1,e],by omega,h1,by omega⟩
  ·rw[if_neg h1]at h;cases h
theorem zH{α:Type}{xs:List α}{i:Int}{v:α}(h:iN xs i=some v):∃j,seqIndex? i xs.length=some j/\xs[j]?=some v/\j<xs.length/\ -(xs.length:Int)<=i/\i<xs.length:=by
 unfold iN at h
 cases e:qZ xs.length i with
 |none=>rw[e]at h;cases h
 |some j=>
  rw[e]at h
  obtain⟨h1,h2,h3,h4⟩:=D1 e
  exact⟨j,h1,h,h2,h3,h4⟩
theorem iO{α:Type}{xs:List α}{j:Nat}{v:α}(h:xs[j]?=some v):iN xs (j:Int)=some v:=by
 have hj:j<xs.length:=(List.getElem?_eq_some_iff.mp h).1
 have e:qZ xs.length (j:Int)=some j:=by
  unfold qZ
  rw[if_pos (by omega),if_pos (by omega)];simp
 unfold iN;rw[e];exact h
theorem wA{α:Type}(xs:List α)(v:α):iN (xs++[v]) (-1)=some v:=by
 have hl:(xs++[v]).length=xs.length+1:=by simp
 have e:qZ (xs++[v]).length (-1)=some xs.length:=by
  unfold qZ
  rw[hl,if_neg (by decide),if_pos (by omega)]
  congr 1
  omega
 unfold iN
 rw[e]
 show(xs++[v])[xs.length]?=some v
 simp
def rn(b:Expr):Prop:=∀o i,subscripted b false o i=operate [o,i] (getItem o i)
def Ld(X:Cx)(r:R2):Prop:=
 ∀(value slice:Expr)(pins:List (Addr×Obj))(s:Shared)(σ:St)(H:Hp)(x y:V)(v u:Value)(Q:VK),Inv X pins σ H s->RelV x v->RelV y u->r x y H Q->
  subscripted slice false v u=operate [v,u] (getItem v u)->wpAny (model X.prog X.w) X.A (subscriptTail value slice v u) (EP X pins σ Q) X.xe s
def Oc(X:Cx)(id:String)(r:V->List V->Hp->VK->Prop):Prop:=
 ∀(pins:List (Addr×Obj))(s:Shared)(σ:St)(H:Hp)(x:V)(xs:List V)(v:Value)(us:List Value)(Q:VK),Inv X pins σ H s->RelV x v->Vals xs us->r x xs H Q->
  wpAny (model X.prog X.w) X.A (call (.builtin id) (v::us)) (EP X pins σ Q) X.xe s
section
variable{X:Cx}{a b:Expr}{ta tb:TE}{pos:Pos}
theorem Ld.or {r r':R2}(h:Ld X r)(h':Ld X r'):Ld X (fun x y H Q=>r x y H Q\/r' x y H Q):=by
 intro value slice pins s σ H x y v u Q I rx ry q hs
 rcases q with q|q
 ·exact h value slice pins s σ H x y v u Q I rx ry q hs
 ·exact h' value slice pins s σ H x y v u Q I rx ry q hs
theorem gP{r:R2}(hr:Ld X r)(ha:PE X a ta)(hb:PE X b tb)(hs:rn b):PE X (.Subscript a b pos) (Uu r ta tb):=by
 intro pins s σ H Q I h
 exact Subscript_ (QK ha hb I h fun v u s2 x y H2 I2 rx ry q=>hr a b pins s2 σ H2 x y v u Q I2 rx ry q (hs _ _))
def QS(K:PySem.W.Frag):R2:=fun x y H Q=>∃p xs i v,x=.ref p/\y=.int i/\cV K H p xs/\iN xs i=some v/\Q v H
def UJ(K:PySem.W.Frag):R2:=fun x y H Q=>∃p xs i v,x=.ref p/\y=.int i/\AQ K H p xs/\iN xs i=some v/\Q v H
def UK:R2:=fun x y H Q=>∃z i c,x=.str z/\y=.int i/\z.length<=sizeLine/\iN z.cps.toList i=some c/\Q (.str ⟨#[c]⟩) H
theorem dE:Ld X (QS X.K):=by
 intro value slice pins s σ H x y v u Q I rx ry h hs
 obtain⟨p,xs,i,z,rfl,rfl,hq,he,q⟩:=h
 cases rx
 obtain⟨t,rfl⟩:=ry
 obtain⟨its,r,pl,hz⟩:=I.list hq
 obtain⟨j,h1,h2,h3,h4,h5⟩:=zH he
 obtain⟨w,ew,nE⟩:=r.get h2
 have hl:=r.length
 have hn:=tW
 have fin:EP X pins σ Q w s:=⟨z,H,I,nE,q⟩
 by_cases h0:0<=i
 ·have hj:i.toNat=j:=by
   rw[seqIndex_of h0 h5]at h1
   exact Option.some.inj h1
  exact item_listR pl.isList h0 (by omega) (by rw[hj];simpa using ew) fin hs
 ·have hj:(i+(its.toArray.size:Int)).toNat=j:=by
   rw[seqIndex_neg (by omega) h4]at h1
   rw[size_toArray,<-hl]
   exact Option.some.inj h1
  exact subscriptTail_builtinR (x:=w) pl.isList.typeIs slot_list_getitem.lookup
   (wpAny_getItem_list_neg (Q:=fun r s'=>r=w/\EP X pins σ Q r s') pl.isList (by omega) (by rw[size_toArray]<;>omega) (by omega) (by rw[hj];simpa using ew) ⟨rfl,fin⟩) hs
theorem zI:Ld X (UJ X.K):=by
 intro value slice pins s σ H x y v u Q I rx ry h hs
 obtain⟨p,xs,i,z,rfl,rfl,hq,he,q⟩:=h
 cases rx
 obtain⟨t,rfl⟩:=ry
 obtain⟨its,r,pl,hz⟩:=I.tuple hq
 obtain⟨j,h1,h2,h3,h4,h5⟩:=zH he
 obtain⟨w,ew,nE⟩:=r.get h2
 have hl:=r.length
 have hn:=tW
 have fin:EP X pins σ Q w s:=⟨z,H,I,nE,q⟩
 exact subscriptTail_builtinR (x:=w) pl.typeIs slot_tuple_getitem.lookup
  (getItem_tuple (j:=j) (Q:=fun r s'=>r=w/\EP X pins σ Q r s') pl (by omega) (by omega) (by rw[size_toArray,<-hl];exact h1) (by simpa using ew) ⟨rfl,fin⟩) hs
theorem QT:Ld X UK:=by
 intro value slice pins s σ H x y v u Q I rx ry h hs
 obtain⟨z,i,c,rfl,rfl,hz,he,q⟩:=h
 obtain⟨t,rfl⟩:=rx
 obtain⟨t',rfl⟩:=ry
 obtain⟨j,h1,h2,h3,h4,h5⟩:=zH he
 have hl:z.cps.toList.length=z.length:=by simp[Str.length]
 rw[hl]at h1 h4 h5
 have hn:=tW
 exact tail_any (typeIs_str s z t) slot_str_getitem.lookup (getItem_str (c:=c) (by
  have e1:decide (i< -(2^63:Int))=false:=decide_eq_false (by omega)
  have e2:decide (i>=2^63)=false:=decide_eq_false (by omega)
  rw[e1,e2,Bool.or_false]) (by rw[h1];simpa using h2) ⟨.str ⟨#[c]⟩,H,I.tok _,⟨_,rfl⟩,q⟩) hs
def rIx(K:PySem.W.Frag):R2:=fun x y H Q=>QS K x y H Q\/UJ K x y H Q\/UK x y H Q
theorem QU:Ld X (rIx X.K):=dE.or (zI.or QT)
theorem CT(its:List Value)(n j:Nat)(u:Value):Obj.mapSeq (·.setIfInBounds j u) {cls:=.type "list",data:=.seq its.toArray n}={cls:=.type "list",data:=.seq (its.set j u).toArray n}:=by
 simp[Obj.mapSeq]
theorem Inv.lst {pins:List (Addr×Obj)}{σ:St}{H:Hp}{s:Shared}{p:Addr}{xs:List V}(I:Inv X pins σ H s)(h:H p=some (.lst xs)):
  ∃(its:List Value)(n:Nat),Vals xs its/\s.heap.get? p=some {cls:=.type "list",data:=.seq its.toArray n}/\xs.length<=sizeLine:=by
 obtain⟨z,its,n,r,e⟩:=I.hok p _ h
 exact⟨its,n,r,e,z⟩
theorem Inv.QV {pins:List (Addr×Obj)}{σ:St}{H:Hp}{s:Shared}{p:Addr}{xs ys:List V}{its its':List Value}{n n':Nat}{f:Obj->Obj}(I:Inv X pins σ H s)(h:H p=some (.lst xs))
  (ho:s.heap.get? p=some {cls:=.type "list",data:=.seq its.toArray n})(hf:f {cls:=.type "list",data:=.seq its.toArray n}={cls:=.type "list",data:=.seq its'.toArray n'})(r:Vals ys its')(hz:ys.length<=sizeLine)(t:Nat):
  Inv X pins σ (upd H p (.lst ys)) {s with heap:=s.heap.update p f,toks:=t}:=by
 have e:(s.heap.update p f).get? p=some {cls:=.type "list",data:=.seq its'.toArray n'}:=by
  rw[Heap.get?_update_self f ho (by rw[hf]<;>rfl),hf]
 refine I.write (x:=p) (e:=p) (by rw[h];trivial) (.inl rfl) (fun b u hb q=>(Heap.get?_update_other _ _ (Ne.symm hb)).trans q) ⟨_,e⟩ ?_
 exact⟨hz,its',n',r,e⟩
def UL:V->V->V->Hp->(Hp->Prop)->Prop:=fun o i v H Q=>∃p xs k j,o=.ref p/\i=.int k/\H p=some (.lst xs)/\qZ xs.length k=some j/\Q (upd H p (.lst (xs.set j v)))
theorem set_list:Uk X UL:=by
 intro pins s σ H o i v ov iv u Q I ro ri rv h
 obtain⟨p,xs,k,j,rfl,rfl,hp,hj,q⟩:=h
 cases ro
 obtain⟨t,rfl⟩:=ri
 obtain⟨its,n,r,ho,hz⟩:=I.lst hp
 obtain⟨h1,h2,h3,h4⟩:=D1 hj
 have hl:=r.length
 have hn:=tW
 have I':Inv X pins σ (upd H p (.lst (xs.set j v))) {s with heap:=s.heap.update p (Obj.mapSeq (·.setIfInBounds j u))}:=
  I.QV hp ho (CT its n j u) (r.set rv j) (by rw[length_set];exact hz) s.toks
 by_cases h0:0<=k
 ·have hk:k.toNat=j:=by
   rw[seqIndex_of h0 h4]at h1
   exact Option.some.inj h1
  exact PySem.W.ki_setAt ho h0 (by omega) (by rw[size_toArray,<-hl];exact h4) (by rw[hk];exact⟨_,I',q⟩)
 ·have hk:(k+(its.toArray.size:Int)).toNat=j:=by
   rw[seqIndex_neg (by omega) h3]at h1
   rw[size_toArray,<-hl]
   exact Option.some.inj h1
  exact PySem.W.ki_setBack ho (by omega) (by rw[size_toArray,<-hl];exact h3) (by omega) (by rw[hk];exact⟨_,I',q⟩)
theorem zJ(lo hi:Option Int)(n:Nat):(sliceBounds lo hi none n).1=((HT.wy n 0 lo:Nat):Int)/\(sliceBounds lo hi none n).2.1=((HT.wy n n hi:Nat):Int)/\(sliceBounds lo hi none n).2.2=1:=by
 refine⟨?_,?_,rfl⟩
 ·cases lo with
  |none=>simp[sliceBounds,HT.wy]
  |some i=>
   simp only [sliceBounds,HT.wy,getD_none,show(1:Int)>0 by decide,if_true]
   by_cases h:i<0
   ·simp only [h,if_true]<;>omega
   ·simp only [h,if_false]<;>omega
 ·cases hi with
  |none=>simp[sliceBounds,HT.wy]
  |some i=>
   simp only [sliceBounds,HT.wy,getD_none,show(1:Int)>0 by decide,if_true]
   by_cases h:i<0
   ·simp only [h,if_true]<;>omega
   ·simp only [h,if_false]<;>omega
theorem yx(its:List Value)(lo hi:Option Int):slicePick its.toArray lo hi none=((its.drop (HT.wy its.length 0 lo)).take (HT.wy its.length its.length hi-HT.wy its.length 0 lo)).toArray:=by
 obtain⟨h1,h2,h3⟩:=zJ lo hi its.toArray.size
 unfold slicePick
 rw[h1,h2,h3]
 simp only [sliceRange_one,pick_run,size_toArray]<;>rfl
def Za(K:PySem.W.Frag):V->Option Int->Option Int->Hp->VK->Prop:=fun x lo hi H Q=>∃a xs,x=.ref a/\cV K H a xs/\∀p,H p=none->Q (.ref p) (upd H p (.lst (yw xs lo hi)))
theorem D2:Y9 X (Za X.K):=by
 intro pins s σ H x v vl vu lo hi sl Q I rx hs pl pu h
 obtain⟨a,xs,rfl,hx,q⟩:=h
 cases rx
 obtain⟨its,r,ht,hz⟩:=I.list hx
 have hlen:=r.length
 refine⟨"list",_,slot_list_getitem.lookup,ht.isList.typeIs,?_⟩
 refine wpAny_getItem_list_slice ht.isList hs pl pu .none (by simp) ?_ (by rw[size_toArray]<;>omega)
 rw[yx,<-hlen]
 refine⟨.ref s.heap.objs.size,_,I.laid (t':=s.toks) (o:=.lst (yw xs lo hi)) (fun b ob q=>Heap.get?_push_of_some _ q) (le_refl _) ?_,rfl,q _ (I.hok.fresh (le_refl _))⟩
 exact⟨le_trans (AU xs lo hi) hz,_,0,(r.drop (HT.wy xs.length 0 lo)).take (HT.wy xs.length xs.length hi-HT.wy xs.length 0 lo),Heap.get?_push_size _ rfl⟩
theorem mz:lE X (.builtin "len") (fun xs H Q=>∃p ys,xs=[.ref p]/\(cV X.K H p ys\/AQ X.K H p ys)/\Q (.int ys.length) H):=by
 intro pins s σ H xs us Q I r h
 obtain⟨p,ys,rfl,hq,q⟩:=h
 obtain⟨u,rfl,rx⟩:=vals1 r
 cases rx
 have hn:=tW
 rcases hq with hq|hq
 ·obtain⟨its,r',pl,hz⟩:=I.list hq
  have hlen:=r'.length
  exact Calls.call_len_list pl.isList (by simp only [size_toArray]<;>omega) ⟨.int ys.length,H,I.tok _,⟨s.toks+1,by rw[size_toArray,hlen]⟩,q⟩
 ·obtain⟨its,r',pl,hz⟩:=I.tuple hq
  have hlen:=r'.length
  exact len_tuple pl (by simp only [size_toArray]<;>omega) ⟨.int ys.length,H,I.tok _,⟨s.toks+1,by rw[size_toArray,hlen]⟩,q⟩
theorem mB:lE X (.type "list") (fun xs H Q=>∃p ys,xs=[.ref p]/\(cV X.K H p ys\/AQ X.K H p ys)/\∀l,H l=none->Q (.ref l) (upd H l (.lst ys))):=by
 intro pins s σ H xs us Q I r h
 obtain⟨p,ys,rfl,hq,q⟩:=h
 obtain⟨u,rfl,rx⟩:=vals1 r
 cases rx
 have fin:∀(its:List Value),Vals ys its->ys.length<=sizeLine->∀(h':Heap)(c':Nat),(∀b o',s.heap.get? b=some o'->h'.get? b=some o')->
   h'.get? s.heap.objs.size=some {cls:=.type "list",dict:=none,data:=.seq its.toArray c',slots:=#[]}->EP X pins σ Q (.ref s.heap.objs.size) {s with heap:=h'}:=fun its r' hz h' c' kp e=>
  ⟨.ref s.heap.objs.size,_,I.laid (t':=s.toks) kp (le_refl _) (show bX X.prog X.w _ h' _ (.lst ys)from⟨hz,its,c',r',e⟩),rfl,q _ (I.hok.fresh (le_refl _))⟩
 rcases hq with hq|hq
 ·obtain⟨its,r',pl,hz⟩:=I.list hq
  have hlen:=r'.length
  obtain⟨o,ho,hc,n,hd⟩:=pl.isList
  exact call_list_seq p (.inl rfl) ho hc hd (fun h' c' kp e=>fin its r' hz h' c' kp e) (by simp only [size_toArray]<;>omega)
 ·obtain⟨its,r',pl,hz⟩:=I.tuple hq
  have hlen:=r'.length
  obtain⟨o,ho,hc,n,hd⟩:=pl
  exact call_list_seq p (.inr rfl) ho hc hd (fun h' c' kp e=>fin its r' hz h' c' kp e) (by simp only [size_toArray]<;>omega)
theorem yy:lE X (.type "tuple") (fun xs H Q=>∃p ys,xs=[.ref p]/\((cV X.K H p ys/\∀l,H l=none->Q (.ref l) (upd H l (.tup ys)))\/(AQ X.K H p ys/\Q (.ref p) H))):=by
 intro pins s σ H xs us Q I r h
 obtain⟨p,ys,rfl,h⟩:=h
 obtain⟨u,rfl,rx⟩:=vals1 r
 cases rx
 rcases h with⟨hq,q⟩|⟨hq,q⟩
 ·obtain⟨its,r',pl,hz⟩:=I.list hq
  have hlen:=r'.length
  refine call_tuple_list pl.isList (fun h' kp=>?_) (by simp only [size_toArray]<;>omega)
  have I1:Inv X pins σ H {s with heap:=h'}:=I.kept (t':=s.toks) kp
  have I2:Inv X pins σ (upd H h'.objs.size (.tup ys)) {s with heap:=h'.push {cls:=.type "tuple",data:=.seq its.toArray}}:=
   I1.laid (t':=s.toks) (fun b o e=>Heap.get?_push_of_some _ e) (le_refl _) (show bX X.prog X.w _ _ _ (.tup ys)from⟨hz,its,r',IsTup.new _ _⟩)
  exact⟨.ref h'.objs.size,_,I2,rfl,q _ (I1.hok.fresh (le_refl _))⟩
 ·obtain⟨its,r',pl,hz⟩:=I.tuple hq
  exact call_tuple_same pl ⟨.ref p,H,I,rfl,q⟩
def Zb(K:PySem.W.Frag)(T:String)(x:V)(H:Hp):Prop:=match x with
 |.str _=>T="str"
 |.int _=>T="int"
 |.ref p=>(T="list"/\∃xs,cV K H p xs)\/(T="tuple"/\∃o,K.lookup p=some o/\o.cls=.type "tuple"/\o.dict=none)\/
   (T="dict"/\((∃kvs,H p=some (.dK kvs))\/∃kvs,H p=some (.dT kvs)))\/(T="set"/\∃S n,H p=some (.set S n))
 |_=>False
theorem HX{pins:List (Addr×Obj)}{σ:St}{H:Hp}{s:Shared}{T:String}{x:V}{v:Value}(I:Inv X pins σ H s)(r:RelV x v)(ty:Zb X.K T x H):
  s.TypeIs v T/\∀a,v=.ref a->∃ob,s.heap.get? a=some ob/\ob.dict=none:=by
 cases x with
 |str z=>
  obtain⟨t,rfl⟩:=r
  cases (show T="str" from ty)
  exact⟨typeIs_str s z t,fun _ e=>nomatch e⟩
 |int i=>
  obtain⟨t,rfl⟩:=r
  cases (show T="int" from ty)
  exact⟨typeIs_int s i t,fun _ e=>nomatch e⟩
 |ref p=>
  cases r
  rcases ty with⟨rfl,xs,hq⟩|⟨rfl,o,hk,hc,hd⟩|⟨rfl,hk⟩|⟨rfl,S,n,hk⟩
  ·obtain⟨its,_,pl,_⟩:=I.list hq
   refine⟨pl.isList.typeIs,fun a e=>?_⟩
   cases e
   obtain⟨o,n,e,c,hd,_⟩:=pl
   exact⟨o,e,hd⟩
  ·refine⟨⟨o,I.pR p o hk,hc⟩,fun a e=>?_⟩
   cases e
   exact⟨o,I.pR _ o hk,hd⟩
  ·have z:∃o,s.heap.get? p=some o/\o.ExactDict:=by
    rcases hk with⟨kvs,hk⟩|⟨kvs,hk⟩
    ·obtain⟨_,_,_,_,o,_,_,e,ex,_⟩:=I.hok p _ hk
     exact⟨o,e,ex⟩
    ·obtain⟨_,_,_,_,o,_,_,e,ex,_⟩:=I.hok p _ hk
     exact⟨o,e,ex⟩
   obtain⟨o,e,ex⟩:=z
   refine⟨⟨o,e,ex.1⟩,fun a e2=>?_⟩
   cases e2
   exact⟨o,e,ex.2.1⟩
  ·obtain⟨o,_,_,_,e,ex,_⟩:=I.hok p _ hk
   refine⟨⟨o,e,ex.1⟩,fun a e2=>?_⟩
   cases e2
   exact⟨o,e,ex.2.1⟩
 |_=>exact False.elim ty
def Zc(K:PySem.W.Frag)(T:String)(r:V->List V->Hp->VK->Prop)(to:TE):TE:=fun σ H Q=>to σ H fun x H1=>Zb K T x H1/\r x [] H1 Q
def tBM(K:PySem.W.Frag)(T:String)(r:V->List V->Hp->VK->Prop)(to:TE)(t:TA):TE:=fun σ H Q=>to σ H fun x H1=>Zb K T x H1/\t σ H1 fun xs H2=>r x xs H2 Q
variable{o e:Expr}{es:List Expr}{to:TE}{t:TA}{name:Str}{apos aL:Pos}{T id:String}{r:V->List V->Hp->VK->Prop}
theorem zK(pa:PlainAttrs T)(slot:Slot T name id)(hty:typeOf (.builtin id)=pure (.type "method_descriptor"))(hm:Oc X id r)(ho:PE X o to)
  (hbase:attributeBase o name X.env (eval o X.env)=eval o X.env:=by rfl)(hline:(apos.endLine==aL.line)=true:=by rfl):PE X (.Call (.Attribute o name apos) [] [] aL) (Zc X.K T r to):=by
 intro pins s σ H Q I h
 refine wpAny_Call_method0_late hbase hline (bG (ho pins s σ H _ I h) fun v s1 ⟨x,H1,I1,r1,ty,q1⟩=>?_)
 obtain⟨h1,h2⟩:=HX I1 r1 ty
 exact⟨T,id,pa,slot,hty,h1,h2,Calls.callWith_builtin rfl (PySem.evalArgs_none (hm pins s1 σ H1 x [] v [] Q I1 r1 .nil q1))⟩
theorem nG(pa:PlainAttrs T)(slot:Slot T name id)(hty:typeOf (.builtin id)=pure (.type "method_descriptor"))(hm:Oc X id r)(ho:PE X o to)(ha:PA X (e::es) t)
  (hbase:attributeBase o name X.env (eval o X.env)=eval o X.env:=by rfl)
  (hfew:((backTo aL (starEach (e::es) X.env)).all (fun x=> !x.1)&&(backToKw aL (keywordEach [] X.env)).all (fun x=>x.1.isSome)
   &&decide ((e::es).length+([]:List Keyword).length+(if([]:List Keyword).isEmpty then 0 else 1)<30))=true:=by rfl)
  (hline:(apos.endLine==aL.line)=true:=by rfl)(hs:starEach (e::es) X.env=(false,eval e X.env)::starEach es X.env:=by rfl)(hplain:(backTo aL (starEach es X.env)).any (·.1)=false:=by rfl):
  PE X (.Call (.Attribute o name apos) (e::es) [] aL) (tBM X.K T r to t):=by
 intro pins s σ H Q I h
 refine wpAny_Call_method_late hbase hfew hline rfl (bG (ho pins s σ H _ I h) fun v s1 ⟨x,H1,I1,r1,ty,q1⟩=>?_)
 obtain⟨h1,h2⟩:=HX I1 r1 ty
 refine⟨T,id,pa,slot,hty,h1,h2,?_⟩
 have hA:=ha aL pins s1 σ H1 _ I1 q1
 rw[hs]at hA⊢
 refine Calls.callWith_builtin (by show(false||(backTo aL (starEach es X.env)).any (·.1))=false;rw[hplain]<;>rfl) (Calls.evalArgs_plain ?_)
 exact bG hA fun us s2 ⟨vs,H2,I2,r2,q2⟩=>hm pins s2 σ H2 x vs v us Q I2 r1 r2 q2
end
end L2
namespace L2
open PySem PySem.Spec PyProof.Rows
def Zd(X:Cx)(id:String)(r:V->List V->Hp->VK->Prop):Prop:=
 ∀(pins:List (Addr×Obj))(s:Shared)(σ:St)(H:Hp)(x:V)(xs:List V)(v:Value)(us:List Value)(Q:VK),Inv X pins σ H s->RelV x v->Vals xs us->r x xs H Q->
  wpAny (model X.prog X.w) X.A (call (.builtin id) (v::us)) (EP X pins σ Q) X.xe s
theorem Vals.one:∀{x:V}{us:List Value},Vals [x] us->∃u,us=[u]/\RelV x u
 |_,_,.cons r .nil=>⟨_,rfl,r⟩
theorem Vals.zero:∀{us:List Value},Vals [] us->us=[]
 |_,.nil=>rfl
theorem Vals.dropLast {xs:List V}{us:List Value}(h:Vals xs us):Vals xs.dropLast us.dropLast:=by
 induction h with
 |nil=>exact .nil
 |cons r t ih=>
  cases t with
  |nil=>exact .nil
  |cons q t'=>exact .cons r ih
theorem Vals.reverse {xs:List V}{us:List Value}(h:Vals xs us):Vals xs.reverse us.reverse:=by
 induction h with
 |nil=>exact .nil
 |cons r t ih=>rw[reverse_cons,reverse_cons];exact Vals.append ih (.cons r .nil)
theorem Vals.rep {xs:List V}{us:List Value}(h:Vals xs us):∀k:Nat,Vals (replicate k xs).flatten (replicate k us).flatten
 |0=>.nil
 |k+1=>by
  rw[replicate_succ,replicate_succ,flatten_cons,flatten_cons]
  exact Vals.append h (Vals.rep h k)
theorem CU{α:Type}(l:List α):l.eraseIdx (l.length-1)=l.dropLast:=by
 induction l with
 |nil=>rfl
 |cons a r ih=>
  cases r with
  |nil=>rfl
  |cons b r=>
   have e:(a::b::r).length-1=((b::r).length-1)+1:=by
    have h1:(a::b::r).length=r.length+2:=rfl
    have h2:(b::r).length=r.length+1:=rfl
    omega
   rw[e,List.eraseIdx_cons_succ,ih]
   all_goals rfl
theorem foldl_rep(its:List Value):∀(k:Nat)(acc:List Value),
  foldl (fun x1 x2=>x1++x2) acc.toArray (replicate k its.toArray)=(acc++(replicate k its).flatten).toArray
 |0,acc=>by simp
 |k+1,acc=>by
  have e:acc.toArray++its.toArray=(acc++its).toArray:=by simp
  have e2:(acc++its)++(replicate k its).flatten=acc++(replicate (k+1) its).flatten:=by
   rw[replicate_succ,flatten_cons,List.append_assoc]
  rw[<-e2,<-foldl_rep its k (acc++its),<-e,replicate_succ,foldl_cons]
section
variable{X:Cx}{pins:List (Addr×Obj)}{σ:St}{H:Hp}{s:Shared}{l b:Addr}{xs ys zs:List V}
theorem Inv.QW {its its':List Value}{n:Nat}{f:Array Value->Array Value}{t':Nat}(I:Inv X pins σ H s)(hH:H l=some (.lst xs))
  (e:s.heap.get? l=some {cls:=.type "list",data:=.seq its.toArray n})(hf:f its.toArray=its'.toArray)(hv:Vals ys its')(hz:ys.length<=sizeLine):
  Inv X pins σ (upd H l (.lst ys)) {s with heap:=s.heap.update l (Obj.mapSeq f),toks:=t'}:=by
 have q:=PySem.IsL.update e f
 rw[hf]at q
 refine I.write (x:=l) (e:=l) (by rw[hH];exact trivial) (.inl rfl) (fun b' u hb hu=>(Heap.get?_update_other s.heap (Obj.mapSeq f) (Ne.symm hb)).trans hu) ⟨_,q⟩ ?_
 exact⟨hz,its',_,hv,q⟩
theorem Inv.UM {its:List Value}{t':Nat}(I:Inv X pins σ H s)(hv:Vals ys its)(hz:ys.length<=sizeLine):
  Inv X pins σ (upd H s.heap.objs.size (.lst ys)) {s with heap:=s.heap.push {cls:=.type "list",data:=.seq its.toArray},toks:=t'}:=
 I.laid (fun _ _ q=>Heap.get?_push_of_some _ q) (le_refl _) ⟨hz,its,0,hv,Heap.get?_push_size _ rfl⟩
theorem Inv.fresh (I:Inv X pins σ H s):H s.heap.objs.size=none:=I.hok.fresh (le_refl _)
theorem Inv.LX (I:Inv X pins σ H s)(hH:H l=some (.lst xs)):xs.length<=sizeLine/\∃(its:List Value)(n:Nat),Vals xs its/\xs.length=its.length/\s.heap.get? l=some {cls:=.type "list",data:=.seq its.toArray n}:=by
 obtain⟨z,its,n,r,e⟩:=I.hok l _ hH
 exact⟨z,its,n,r,r.length,e⟩
theorem HY{n:Nat}(h:n<=sizeLine):Builtin.List.listTooLong n=false:=by
 unfold Builtin.List.listTooLong
 exact decide_eq_false (by omega)
end
section
variable{X:Cx}
def LY:V->List V->Hp->VK->Prop:=fun x vs H Q=>∃l xs y,x=.ref l/\vs=[y]/\H l=some (.lst xs)/\xs.length<sizeLine/\Q .non (upd H l (.lst (xs++[y])))
theorem dO:Zd X "list.append" LY:=by
 intro pins s σ H x vs v us Q I rx rv h
 obtain⟨l,xs,y,rfl,rfl,hH,hz,q⟩:=h
 cases rx
 obtain⟨u,rfl,ru⟩:=rv.one
 obtain⟨z,its,n,r,hl,e⟩:=I.LX hH
 refine call_meets F.slot_list_append ⟨_,e,rfl⟩ F.entry_list_append (F.args_list_append_2 _ _) (PySem.list_append l its.toArray n u (by rw[size_toArray];omega)) ⟨e,?_⟩
 refine⟨.non,_,I.QW (its':=its++[u]) hH e (by simp) (r.append (.cons ru .nil)) ?_,rfl,q⟩
 rw[length_append,length_singleton]
 omega
def Ze:V->List V->Hp->VK->Prop:=fun x vs H Q=>∃l xs y,x=.ref l/\vs=[]/\H l=some (.lst xs)/\xs[xs.length-1]?=some y/\Q y (upd H l (.lst xs.dropLast))
theorem HZ:Zd X "list.pop" Ze:=by
 intro pins s σ H x vs v us Q I rx rv h
 obtain⟨l,xs,y,rfl,rfl,hH,hy,q⟩:=h
 cases rx
 have Zf:=rv.zero
 subst Zf
 obtain⟨z,its,n,r,hl,e⟩:=I.LX hH
 obtain⟨u,hu,ru⟩:=r.get hy
 have Zg:its.toArray[its.toArray.size-1]?=some u:=by
  show its.toArray[its.length-1]?=some u
  rw[<-Array.getElem?_toList,<-hl]
  exact hu
 refine call_meets F.slot_list_pop ⟨_,e,rfl⟩ F.entry_list_pop (F.args_list_pop_1 _) (MeetsSeq.list_pop_last l its.toArray n u Zg (by rw[size_toArray];omega)) ⟨e,?_⟩
 refine⟨y,_,I.QW (its':=its.dropLast) hH e ?_ r.dropLast ?_,ru,q⟩
 ·show its.toArray.eraseIdxIfInBounds (its.toArray.size-1)=its.dropLast.toArray
  rw[size_toArray,List.eraseIdxIfInBounds_toArray,CU]
 ·rw[List.length_dropLast]
  omega
def Ia:V->List V->Hp->VK->Prop:=fun x vs H Q=>∃l xs,x=.ref l/\vs=[]/\H l=some (.lst xs)/\Q .non (upd H l (.lst xs.reverse))
theorem CV:Zd X "list.reverse" Ia:=by
 intro pins s σ H x vs v us Q I rx rv h
 obtain⟨l,xs,rfl,rfl,hH,q⟩:=h
 cases rx
 have Zf:=rv.zero
 subst Zf
 obtain⟨z,its,n,r,hl,e⟩:=I.LX hH
 refine call_meets F.slot_list_reverse ⟨_,e,rfl⟩ F.entry_list_reverse (F.args_list_reverse_1 _) (AutoSeq1.list_reverse_list_0 l its.toArray n (by rw[size_toArray];omega)) ⟨e,?_⟩
 refine⟨.non,_,I.QW (its':=its.reverse) hH e (by simp) r.reverse ?_,rfl,q⟩
 rw[length_reverse]
 omega
def Zh:R2:=fun x y H Q=>∃l k xs,x=.ref l/\y=.int k/\H l=some (.lst xs)/\ -(2^63)<=k/\k<2^63/\xs.length*k.toNat<=sizeLine/\
 ∀p,H p=none->Q (.ref p) (upd H p (.lst (replicate k.toNat xs).flatten))
theorem len_rep{α:Type}(xs:List α)(k:Nat):(replicate k xs).flatten.length=k*xs.length:=by
 induction k with
 |zero=>simp
 |succ k ih=>rw[replicate_succ,flatten_cons,length_append,ih,succ_mul,Nat.add_comm]
theorem QX:tP X (binaryOp .Mult) Zh:=by
 intro pins s σ H x y v u Q I rx ry h
 obtain⟨l,k,xs,rfl,rfl,hH,h1,h2,hz,q⟩:=h
 cases rx
 obtain⟨t,rfl⟩:=ry
 obtain⟨z,its,n,r,hl,e⟩:=I.LX hH
 have hlen:its.toArray.size*k.toNat<=sizeLine:=by rw[size_toArray,<-hl];exact hz
 have Zi:¬its.toArray.size*k.toNat>(2^63-1)/8:=by
  have:(sizeLine:Nat)<=(2^63-1)/8:=by decide
  omega
 have hfit:¬(!Builtin.List.listFitsIndex k)=true:=by
  rw[fitsIndex_both h1 h2]
  exact Bool.false_ne_true
 have UN:¬Builtin.List.listTooLong (its.toArray.size*k.toNat)=true:=by
  rw[HY hlen]
  exact Bool.false_ne_true
 have hnew:foldl (fun x1 x2=>x1++x2) #[] (replicate (if its.toArray.isEmpty=true then 0 else k.toNat) its.toArray)=(replicate k.toNat its).flatten.toArray:=by
  have f0:∀m:Nat,foldl (fun x1 x2=>x1++x2) #[] (replicate m its.toArray)=(replicate m its).flatten.toArray:=fun m=>by
   have:=foldl_rep its m []
   rw[nil_append]at this
   exact this
  rw[f0]
  cases its with
  |nil=>simp
  |cons a r'=>rw[if_neg (by simp)]
 refine wpAny_binaryOp_repeat_ref (T:="list") (U:="int") (by decide) ⟨_,e,rfl⟩ (fun s'=>typeIs_int s' k t) noFill_list_mul F.fills_int_mul F.slot_int_rmul repeat_list F.slot_int_index.lookup
  (call_meets F.slot_int_rmul (typeIs_int s k t) F.entry_int_rmul (F.args_int_rmul_2 _ _) (int___rmul___int_list k t l its.toArray n)
   ⟨e,rfl,⟨_,e,rfl⟩,call_meets F.slot_list_mul ⟨_,e,rfl⟩ F.entry_list_mul (F.args_list_mul_2 _ _) (AutoListH.list___mul___list_int_3 l its.toArray n k t hfit Zi UN) ⟨e,?_⟩⟩)
 rw[hnew]
 exact⟨.ref _,_,I.UM (t':=s.toks) (r.rep k.toNat) (by rw[len_rep,Nat.mul_comm];exact hz),rfl,q _ I.fresh⟩
end
section
variable{prog:Program}{w:World}{A:Around}{E:Value->Shared->Prop}{s:Shared}
set_option maxRecDepth 100000 in
end
end L2
namespace Att
open PySem PySem.W PySem.Calls PyProof.Rows
theorem vo{P:Params}{h:Heap}:∀(ns:List Int)(vs:List Value),WellAll P h vs (ns.map WData.int)->IntsAre vs ns:=by
 intro ns
 induction ns with
 |nil=>
  intro vs w
  rw[map_nil]at w
  cases w
  exact .nil
 |cons n ns ih=>
  intro vs w
  rw[map_cons]at w
  cases w with
  |cons a b=>
   cases a
   exact .cons _ _ (ih _ b)
theorem F4{l:OpenLaw}{n:Nat}(hn:l.most=some n){P:Params}{h:Heap}{args:List WData}{vals:List Value}
  (hpre:l.row.toRowW.claim.pre args=true)(UO:WellAll P h vals args):
  ∃a vs ns,vals=[Value.ref a]/\args=[WData.list (ns.map WData.int)]/\h.get? a=some {cls:=.type "list",data:=.seq vs.toArray}/\IntsAre vs ns/\ns.length<=n:=by
 have hsh:WShape.hasAll [] args [.list .int]=true:=(pre_splitW hpre).1
 have hc:l.pre.holds [] {args:=args}=true:=(pre_splitW hpre).2
 obtain⟨d,r,rfl,h1,h2⟩:=hasAllW_cons hsh
 obtain rfl:=hasAllW_nil h2
 obtain⟨xs,rfl,h3⟩:=hasW_list h1
 obtain⟨ns,rfl⟩:=items_int h3
 have hlen:ns.length<=n:=by
  unfold OpenLaw.pre at hc
  have h4:(WTm.not (.lt (.lit (.int (n:Int))) (.len (.arg 0)))).holds [] {args:=[.list (ns.map .int)]}=true:=by
   have h4:=(holds_andW hc).1
   rw[hn]at h4
   exact h4
  have h5:=condW_of h4 (w_not (w_lt w_lit (w_len_list (w_arg rfl))))
  rw[length_map]at h5
  refine Nat.le_of_not_lt fun q=>?_
  have q':(n:Int)<((ns.length:Nat):Int):=by omega
  first
   |(rw[decide_eq_true q']at h5;exact absurd h5 (by decide))
   |(simp at h5;omega)
 cases UO with
 |cons w1 w2=>
  cases w2
  cases w1 with
  |list ho hall=>exact⟨_,_,ns,rfl,rfl,ho,vo ns _ hall,hlen⟩
theorem F5(l:OpenLaw)(args:List WData):l.row.toRowW.claim.post args (.bool true) args=true:=
 postW_of (r:=l.row.toRowW) (X:=(true==true))
  (show WShape.has [] (.bool true) .bool=true by first|rfl|decide|simp[WShape.has,WShape.arms,WShape.armsAll])
  (show(WTm.eq .res (.lit (.bool true))).value [] {args:=args,res:=some (.bool true),after:=args}=some (.bool (true==true))from w_eq_bool (w_res rfl) w_lit) rfl
theorem AV{l:OpenLaw}{n:Nat}{q:Program}{loose:List Str}{XP:(Str->Option Value)->Heap->Prop}{YP:World->Heap->Prop}{d:DefRec}
  (hn:l.most=some n)(UQ:d.params.defaults=[])
  (call:∀(w:World)(s₀ s₁:Shared)(mg mb:Str->Option Value)(fa:Addr)(o:Obj)(pm cd doc:Value)(a:Addr)(vs:List Value)(ns:List Int),
   Ground q loose [] XP w s₀ mg mb s₁.heap->YP w s₁.heap->
   s₁.heap.get? fa=some o->o.data=.func (docDef d.name d.params d.body d.scope pm cd doc)->s₁.heap.CodeRec cd d.name->mg d.name=some (.ref fa)->
   s₁.heap.get? a=some {cls:=.type "list",data:=.seq vs.toArray}->IntsAre vs ns->ns.length<=n->s₁.gens=#[]->
   codeAny (model l.prog w) callerA (.call (.ref fa) ⟨[.ref a],[]⟩) (fun r s'=>r=.ok (.ret (.bool true))/\OldK s₁.heap s'.heap/\s'.os=s₁.os/\AllBare s'.gens) s₁):
  WalkO q loose XP YP l.row.toRowW d [] (fun f vs=>PySem.call f vs):=by
 intro w s₀ s₁ mg mb G Y fa o pm cd doc dV kV ho hd hcd hD hmg hg args vals as hpre hlay hrd UO hlo
 obtain rfl:dV=.none:=Dflts.none hD UQ
 obtain rfl:kV=.none:=Dflts.noKw hD
 obtain⟨a,vs,ns,rfl,rfl,hobj,hints,hlen⟩:=F4 hn hpre UO
 refine enter_call (codeAny_mono (call w s₀ s₁ mg mb fa o pm cd doc a vs ns G Y ho (fd_plain hd) hcd hmg hobj hints hlen hg) fun r s' hq=>?_)
 obtain⟨rfl,h2,h3,h4⟩:=hq
 exact⟨.inl ⟨.bool true,.bool true,[],rfl,fun _=>rfl,.bool true,F5 l _,fun _=>⟨Pairwise.nil,fun _ hm=>(nomatch hm)⟩⟩,h2,h3,h4⟩
section
variable{prog:Program}{w:World}{A:Around}{E:Value->Shared->Prop}{s:Shared}{K:Frag}
def ledger(h:Heap)(L d:Addr):List (Addr×Obj):=(range h.objs.size).filterMap fun a=>if a=L\/a=d then none else(h.get? a).map fun o=>(a,o)
end
end Att
namespace L2
open PySem PySem.Spec PyProof.Rows
theorem y6:∀{vs:List Value}{ns:List Int},IntsAre vs ns->Vals (ns.map V.int) vs
 |_,_,.nil=>.nil
 |_,_,.cons n t h=>.cons ⟨t,rfl⟩ (y6 h)
def QY(H:Hp):Prop:=∀b,H b=none\/∃o xs,H b=some (.ym o (.lst xs))
theorem Ib{P:Program}{w:World}{K:PySem.W.Frag}{mg mb:Str->Option Value}{CX:Hj}{k:Nat}{fa a:Addr}{fd:FuncData}{x:Str}{sp:Sp}{s₁:Shared}{vs:List Value}{ns:List Int}
  (KX:K.In s₁.heap)(hns:s₁.heap.Ns mainGlobals mg)(hb:s₁.heap.Ns builtinsNs mb)(UR:∀x:Str,x≠"__name__"->mb x=bootBuiltins x)(hlim:s₁.heap.NoLimit)(hg:s₁.gens=#[])
  (ha:s₁.heap.get? a=some {cls:=.type "list",data:=.seq vs.toArray})(hi:IntsAre vs ns)(hl:ns.length<=sizeLine)(hr:aY k callerA)
  (F:∀base:Heap,K.In base->base.Ns mainGlobals mg->bH P w K mg base CX k fa fd [x] sp)(hbind:∀(s:Shared)(u:Value),BindsTo s fd ⟨[u],[]⟩ [(x,u)])
  (DY:∀H:Hp,QY H->cV K H a (ns.map V.int)->sp [.ref a] H (fun v _=>v=.bl true) fun _ _ _=>False)
  (Zj:∀H e s',CX [] H s₁ (fun _ _ _=>False) e s'->False):
  codeAny (model P w) callerA (.call (.ref fa) ⟨[.ref a],[]⟩) (fun r s'=>r=.ok (.ret (.bool true))/\OldK s₁.heap s'.heap/\s'.os=s₁.os/\AllBare s'.gens) s₁:=by
 have rv:=y6 hi
 have Zk:=hi.length
 have core:∀H:Hp,QY H->cV K H a (ns.map V.int)->mw P w H s₁.heap->(∀b,H b≠none->b=a)->(H a≠none->K.lookup a=none)->
   codeAny (model P w) callerA (.call (.ref fa) ⟨[.ref a],[]⟩) (fun r s'=>r=.ok (.ret (.bool true))/\OldK s₁.heap s'.heap/\s'.os=s₁.os/\AllBare s'.gens) s₁:=by
  intro H hO hS hok hA hK
  have D3:∀{b:Addr}{o:Obj},s₁.heap.get? b=some o->H b=none->(zE s₁.heap H).get? b=some o:=fun e n=>Ht e n
  have UH:∀{b:Addr}{o:Obj}{es:Array DictEntry}{ep:Nat},s₁.heap.get? b=some o->o.data=.dict es ep->H b=none:=fun{b o es ep} e d=>by
   cases q:H b with
   |none=>rfl
   |some u=>
    have e':b=a:=hA b (by rw[q];simp)
    subst e'
    rw[ha]at e;cases e
    have d':Data.seq vs.toArray _=Data.dict es ep:=d
    cases d'
  have XS:∀{b:Addr}{m:Str->Option Value},s₁.heap.Ns b m->(zE s₁.heap H).Ns b m:=fun{b m}⟨o,es,ep,e,d,r⟩=>⟨o,es,ep,D3 e (UH e d),d,r⟩
  have hKb:K.In (zE s₁.heap H):=fun b o e=>D3 (KX b o e) (by
   cases q:H b with
   |none=>rfl
   |some u=>
    have e':b=a:=hA b (by rw[q];simp)
    subst e'
    rw[hK (by rw[q];simp)]at e;cases e)
  have hM:Mod K mg (zE s₁.heap H):=⟨hKb,XS hns,⟨mb,XS hb,UR⟩,let⟨mc,h1,h2⟩:=hlim;⟨mc,XS h1,h2⟩⟩
  have e0:CQ P w K mg (zE s₁.heap H) callerA [] s₁ H:=⟨rfl,hM,fun b o e=>LA e,le_of_eq (FI _ _),trivial,fun b hb=>absurd (show b∈([]:List Addr)from hb) (by simp),hok,.of_eq hg⟩
  refine codeAny_mono ((F _ hKb (XS hns)).run callerA [] s₁ H ⟨[.ref a],[]⟩ [.ref a] [.ref a] _ _ hr e0 (hbind s₁ (.ref a)) (.cons rfl .nil) (DY H hO hS)) fun r s' h=>?_
  cases r with
  |error e=>exact(Zj H e s' h).elim
  |ok fl=>
   cases fl with
   |next=>exact False.elim h
   |brk=>exact False.elim h
   |cont=>exact False.elim h
   |ret u=>
    obtain⟨v,H',os,bare,un,Zl,r',q⟩:=h
    have q':v=.bl true:=q
    subst q'
    obtain rfl:u=Value.bool true:=r'
    refine⟨rfl,OldK.of_keep fun b o e=>?_,os,bare⟩
    cases q:H b with
    |none=>exact un.keep b o e q (by intro z;exact absurd (show b∈([]:List Addr)from z) (by simp)) (by simp)
    |some u=>
     rcases hO b with z|⟨ob,xs,z⟩
     ·rw[q]at z;cases z
     ·have z2:=un.tV b ob _ z
      obtain⟨e1,_⟩:=hok b _ z
      obtain⟨e2,_⟩:=Zl b _ z2
      rw[e]at e1;cases e1
      exact e2
 cases hk:K.lookup a with
 |some o=>
  have e:=KX a o hk
  rw[ha]at e
  cases e
  refine core (fun _=>none) (fun _=>.inl rfl) (.inr ⟨_,vs.toArray,_,hk,rfl,rfl,rfl,by rw[size_toArray,Zk];exact hl,by simpa using rv⟩) (fun b u z=>by have z':(none:Option HO)=some u:=z;cases z') (fun b z=>absurd rfl z) fun z=>absurd rfl z
 |none=>
  refine core (fun b=>if b=a then some (.ym {cls:=.type "list",data:=.seq vs.toArray} (.lst (ns.map V.int)))else none) (fun b=>?_) (.inl (.inr ⟨{cls:=.type "list",data:=.seq vs.toArray},if_pos rfl⟩)) (fun b u z=>?_) (fun b z=>?_) fun _=>hk
  ·by_cases hb:b=a
   ·exact .inr ⟨_,_,if_pos hb⟩
   ·exact .inl (if_neg hb)
  ·by_cases hb:b=a
   ·have z':=(if_pos hb).symm.trans z
    cases z'
    subst hb
    exact⟨ha,by rw[length_map];exact hl,vs,_,rv,ha⟩
   ·have z':=(if_neg hb).symm.trans z
    cases z'
  ·by_cases hb:b=a
   ·exact hb
   ·exact absurd (if_neg hb) z
end L2
namespace L2
open PySem PySem.Spec PyProof.Rows
abbrev KOf{K:PySem.W.Frag}{h:Heap}(_:K.In h):PySem.W.Frag:=K
theorem LZ{l:PySem.W.OpenLaw}{n k:Nat}{q:Program}{loose:List Str}{XP:(Str->Option Value)->Heap->Prop}{YP:World->Heap->Prop}{d:DefRec}{K:Params->PySem.W.Frag}{CX:World->Hj}{sp:World->Sp}{x:Str}
  (hn:l.most=some n)(hn2:n<=sizeLine)(UQ:d.params.defaults=[])(hr:aY k callerA)
  (hY:∀(w:World)(h:Heap),YP w h->(K w.params).In h)
  (F:∀(w:World)(mg:Str->Option Value)(fa:Addr)(h:Heap),(K w.params).In h->h.Ns mainGlobals mg->mg d.name=some (.ref fa)->
   ∃fd:FuncData,(∀(s:Shared)(u:Value),BindsTo s fd ⟨[u],[]⟩ [(x,u)])/\
    ∀base:Heap,(K w.params).In base->base.Ns mainGlobals mg->bH l.prog w (K w.params) mg base (CX w) k fa fd [x] (sp w))
  (DY:∀(w:World)(H:Hp)(a:Addr)(ns:List Int),ns.length<=n->QY H->cV (K w.params) H a (ns.map V.int)->sp w [.ref a] H (fun v _=>v=.bl true) fun _ _ _=>False)
  (Zj:∀(w:World)(H:Hp)(s:Shared)(e:Value)(s':Shared),CX w [] H s (fun _ _ _=>False) e s'->False):
  PySem.W.WalkO q loose XP YP l.row.toRowW d [] (fun f vs=>PySem.call f vs):=by
 refine Att.AV hn UQ fun w s₀ s₁ mg mb fa o pm cd doc a vs ns G Y ho hd hcd hmg hobj hints hlen hg=>?_
 have KX:=hY w _ Y
 obtain⟨fd,hb,hF⟩:=F w mg fa _ KX G.T.g hmg
 exact Ib KX G.T.g G.T.b G.T.builtins G.T.nolimit hg hobj hints (le_trans hlen hn2) hr hF hb (fun H hO hS=>DY w H a ns hlen hO hS) fun H e s'=>Zj w H s₁ e s'
end L2
namespace L2
open PySem PySem.Spec PyProof.Rows
def inClass(s:Stmt)(j:Nat):Stmt:=match s with
 |.ClassDef _ _ _ body _ _ _ _ _ _ _=>body.getD j (.Pass ⟨0,0,0,0⟩)
 |_=>.Pass ⟨0,0,0,0⟩
def dU(s:Stmt):Arguments:=match s with
 |.FunctionDef _ a _ _ _ _ _ _ _ _=>a
 |_=>{posonlyargs:=[],args:=[],vararg:=none,kwonlyargs:=[],kw_defaults:=[],kwarg:=none,defaults:=[]}
def bx(s:Stmt):List Stmt:=match s with
 |.FunctionDef _ _ b _ _ _ _ _ _ _=>b
 |_=>[]
def aa(s:Stmt):Scope:=match s with
 |.FunctionDef _ _ _ _ _ _ sc _ _ _=>sc
 |_=>{kind:=.function,names:=[],isGenerator:=false,isCoroutine:=false}
abbrev kh:Hj:=fun _ _ _ _ _ _=>False
abbrev E0:XK:=fun _ _ _=>False
theorem nH{X:Cx}:Passes kh X E0:=fun _ _ _ _ _ _ _ h=>h.elim
structure zL(K:PySem.W.Frag)(x qual:Str)(st:Stmt)(f:Addr)(fd:FuncData):Prop where
 ex:∃(oc:Value)(od:Option Addr)(kV doc pm:Value)(an:Option Addr)(cdv ct:Value)(DX:Array (Option Value)),
  fd=PySem.W.fnOf x qual (dU st) (bx st) (aa st) .none kV doc pm an cdv ct/\K.lookup f=some ⟨oc,od,.func fd,DX⟩/\codeIn K cdv qual=true
 kp:keepIn K (.ref f)=true
section
variable{P:Program}{w:World}{K:PySem.W.Frag}{mg:Str->Option Value}{base:Heap}
theorem zL.ok {x qual:Str}{st:Stmt}{f:Addr}{fd:FuncData}{N ps:List Str}{k:Nat}{sp:Sp}(F:zL K x qual st f fd)(S:aw N ps (aa st))(len:∀vs H Q E,sp vs H Q E->vs.length=ps.length)
  (hbody:∀(cdv:Value)(A:Around)(outer:List Env)(s:Shared)(H:Hp)(vs:List V)(Q:VK)(E:XK),aY k (A.deeper (envOfC qual (aa st) s.heap.objs.size f cdv))->sp vs H Q E->
   ∃t,nA (bA kh P w K mg base N qual (aa st) f cdv A outer s H E).DU (bx st) t/\t {nx:=fun _ H'=>Q .non H',rt:=Q} (start N vs) H):bH P w K mg base kh (k+1) f fd ps sp:=by
 obtain⟨oc,od,kV,doc,pm,an,cdv,ct,DX,rfl,lk,hcd⟩:=F.ex
 refine HW lk hcd S len fun A outer s H vs Q E hr DY=>?_
 obtain⟨t,h,q⟩:=hbody cdv A outer s H vs Q E hr DY
 exact⟨t,h.DU,q⟩
theorem zL.binds {x qual:Str}{st:Stmt}{f:Addr}{fd:FuncData}{ps:List Str}(F:zL K x qual st f fd)
  (h:∀(kV doc pm:Value)(an:Option Addr)(cdv ct:Value)(us:List Value),us.length=ps.length->bindArgs (PySem.W.fnOf x qual (dU st) (bx st) (aa st) .none kV doc pm an cdv ct) ⟨us,[]⟩=pure (ps.zip us)):Binds K fd ps []:=by
 obtain⟨oc,od,kV,doc,pm,an,cdv,ct,DX,rfl,lk,hcd⟩:=F.ex
 exact .all (h kV doc pm an cdv ct)
theorem CW{x qual:Str}{st:Stmt}{f:Addr}{oc:Value}{od an:Option Addr}{DX:Array (Option Value)}{kV doc pm cdv ct:Value}(l:K.lookup f=some ⟨oc,od,.func (PySem.W.fnOf x qual (dU st) (bx st) (aa st) .none kV doc pm an cdv ct),DX⟩)
  (c:codeIn K cdv qual=true)(k:keepIn K (.ref f)=true):zL K x qual st f (PySem.W.fnOf x qual (dU st) (bx st) (aa st) .none kV doc pm an cdv ct):=⟨⟨oc,od,kV,doc,pm,an,cdv,ct,DX,rfl,l,c⟩,k⟩
end
theorem rq{A:Around}{k:Nat}(hr:aY k A):A.units+1<cLine:=Nat.lt_of_le_of_lt (Nat.add_le_add_left (by decide:1<=64) _) hr.units
section
variable{X:Cx}
theorem pv(i:Nat){x:Str}{pos:Pos}(hN:X.N[i]?=some x:=by rfl)(hv:yV X.env.scope x:=by first|exact Or.inl rfl|exact Or.inr (Or.inl rfl)|exact Or.inr (Or.inr rfl))(hd:(x==("__debug__":Str))=false:=by decide)
  (hcd:(x==("__classdict__":Str))=false:=by decide):PE X (.Name x pos) (LD i):=jk hN hv hd hcd
end
theorem t8{A B:Prop}(h:B):if false=true then A else B:=by
 rw[if_neg Bool.false_ne_true]
 exact h
theorem vp{A B:Prop}(h:A):if true=true then A else B:=by
 rw[if_pos rfl]
 exact h
def aC(H H':Hp):Prop:=∀b o,H b=some o->H' b=some o
theorem aC.refl (H:Hp):aC H H:=fun _ _ h=>h
theorem aC.trans {H H1 H2:Hp}(a:aC H H1)(b:aC H1 H2):aC H H2:=fun c o h=>b c o (a c o h)
theorem aC.free {H H':Hp}(e:aC H H'){l:Addr}(h:H' l=Option.none):H l=Option.none:=by
 cases q:H l with
 |none=>rfl
 |some o=>
  rw[e l o q]at h
  cases h
theorem aC.seq {K:PySem.W.Frag}{H H':Hp}{a:Addr}{xs:List V}(e:aC H H')(h:cV K H a xs):cV K H' a xs:=by
 rcases h with(h|⟨o,h⟩)|h
 ·exact .inl (.inl (e _ _ h))
 ·exact .inl (.inr ⟨o,e _ _ h⟩)
 ·exact .inr h
end L2
set_option maxHeartbeats 4000000
namespace L2
open PySem PySem.Spec PyProof.Rows
section
variable{κ:Type}[DecidableEq κ]
def du(kvs:List (κ×V))(k:κ):Option V:=(kvs.find? fun kv=>decide (kv.1=k)).map (·.2)
def putK(kvs:List (κ×V))(k:κ)(v:V):List (κ×V):=
 if(kvs.any fun kv=>decide (kv.1=k))=true then kvs.map (fun kv=>if kv.1=k then(kv.1,v)else kv)else kvs++[(k,v)]
def aed(kvs:List (κ×V))(k:κ):List (κ×V):=kvs.filter fun kv=>decide (kv.1≠k)
theorem eO{p:κ×V}{r:List (κ×V)}{k:κ}(e:p.1=k):du (p::r) k=some p.2:=by simp[du,find?_cons,e]
theorem eQ{p:κ×V}{r:List (κ×V)}{k:κ}(e:¬p.1=k):du (p::r) k=du r k:=by simp[du,find?_cons,e]
theorem rz(k:κ):∀kvs:List (κ×V),(kvs.any fun kv=>decide (kv.1=k))=(du kvs k).isSome
 |[]=>rfl
 |p::r=>by
  rw[any_cons]
  by_cases e:p.1=k
  ·simp only [eO e,decide_eq_true e,Bool.true_or,isSome_some]
  ·rw[eQ e,decide_eq_false e,Bool.false_or];exact rz k r
theorem AW(k j:κ)(y:V):∀kvs:List (κ×V),du (kvs.map fun kv=>if kv.1=k then(kv.1,y)else kv) j=(du kvs j).map fun x=>if j=k then y else x
 |[]=>rfl
 |p::r=>by
  have ih:=AW k j y r
  rw[map_cons]
  by_cases h:p.1=k
  ·rw[if_pos h]
   by_cases e:p.1=j
   ·rw[eO (p:=(p.1,y)) e,eO e,map_some,if_pos (e.symm.trans h)]
   ·rw[eQ (p:=(p.1,y)) e,eQ e,ih]
  ·rw[if_neg h]
   by_cases e:p.1=j
   ·rw[eO (p:=p) e,eO e,map_some,if_neg (fun z=>h (e.trans z))]
   ·rw[eQ (p:=p) e,eQ e,ih]
theorem y7(k j:κ)(y:V):∀kvs:List (κ×V),du kvs k=none->du (kvs++[(k,y)]) j=if j=k then some y else du kvs j
 |[],_=>by
  by_cases e:k=j
  ·rw[if_pos e.symm];exact eO (p:=(k,y)) e
  ·rw[if_neg (fun z=>e z.symm)];exact eQ (p:=(k,y)) e
 |p::r,hn=>by
  rw[cons_append]
  have hk:¬p.1=k:=fun z=>by rw[eO z]at hn;cases hn
  rw[eQ hk]at hn
  have ih:=y7 k j y r hn
  by_cases e:p.1=j
  ·rw[eO e,eO e,if_neg (fun z=>hk (e.trans z))]
  ·rw[eQ e,eQ e,ih]
theorem jR(kvs:List (κ×V))(k j:κ)(y:V):du (putK kvs k y) j=if j=k then some y else du kvs j:=by
 unfold putK
 by_cases a:(kvs.any fun kv=>decide (kv.1=k))=true
 ·rw[if_pos a,AW]
  rw[rz]at a
  by_cases e:j=k
  ·obtain⟨x,hx⟩:=isSome_iff_exists.mp a
   rw[if_pos e,e,hx,map_some,if_pos rfl]
  ·rw[if_neg e]
   cases du kvs j with
   |none=>rfl
   |some x=>rw[map_some,if_neg e]
 ·rw[if_neg a]
  refine y7 k j y kvs ?_
  rw[rz]at a
  cases q:du kvs k with
  |none=>rfl
  |some x=>rw[q]at a;exact(a rfl).elim
theorem gy(kvs:List (κ×V))(k:κ)(v:V):(putK kvs k v).length<=kvs.length+1:=by
 unfold putK
 split
 ·rw[length_map];omega
 ·rw[length_append,length_cons,length_nil];omega
theorem oh.t9 {o:Option V}{u:Option Value}(r:oh o u):o.isSome=u.isSome:=by
 cases o with
 |none=>cases u with
  |none=>rfl
  |some _=>exact(show False from r).elim
 |some _=>cases u with
  |none=>exact(show False from r).elim
  |some _=>rfl
theorem oh.getD {o:Option V}{u:Option Value}{d:V}{d':Value}(r:oh o u)(rd:RelV d d'):RelV (o.getD d) (u.getD d'):=by
 cases o with
 |none=>cases u with
  |none=>exact rd
  |some _=>exact(show False from r).elim
 |some _=>cases u with
  |none=>exact(show False from r).elim
  |some _=>exact r
theorem KV.val {kvs:List (κ×V)}{vs:List (κ×Value)}(r:KV kvs vs)(k:κ):oh (du kvs k) (valueAt vs k):=by
 unfold KV at r
 induction r with
 |nil=>exact True.intro
 | @cons p q ps qs h t ih=>
  obtain⟨h1,h2⟩:=h
  by_cases e:p.1=k
  ·have e':q.1=k:=h1.symm.trans e
   have b:valueAt (q::qs) k=some q.2:=by simp[valueAt,find?_cons,e']
   rw[eO e,b];exact h2
  ·have e':¬q.1=k:=fun z=>e (h1.trans z)
   have b:valueAt (q::qs) k=valueAt qs k:=by simp[valueAt,find?_cons,e']
   rw[eQ e,b];exact ih
theorem KV.any {kvs:List (κ×V)}{vs:List (κ×Value)}(r:KV kvs vs)(k:κ):(kvs.any fun kv=>decide (kv.1=k))=vs.any fun kv=>decide (kv.1=k):=by
 unfold KV at r
 induction r with
 |nil=>rfl
 |cons h t ih=>rw[any_cons,any_cons,ih,h.1]
theorem KV.QZ {kvs:List (κ×V)}{vs:List (κ×Value)}(r:KV kvs vs)(k:κ){y:V}{u:Value}(ry:RelV y u):
  KV (kvs.map fun kv=>if kv.1=k then(kv.1,y)else kv) (vs.map fun kv=>if kv.1=k then(kv.1,u)else kv):=by
 unfold KV at r⊢
 induction r with
 |nil=>exact .nil
 | @cons p q ps qs h t ih=>
  rw[map_cons,map_cons]
  refine .cons ?_ ih
  obtain⟨h1,h2⟩:=h
  by_cases e:p.1=k
  ·rw[if_pos e,if_pos (h1.symm.trans e)];exact⟨h1,ry⟩
  ·rw[if_neg e,if_neg (fun z=>e (h1.trans z))];exact⟨h1,h2⟩
theorem KV.put {kvs:List (κ×V)}{vs:List (κ×Value)}(r:KV kvs vs)(k:κ){y:V}{u:Value}(ry:RelV y u):KV (putK kvs k y) (stored vs k u):=by
 unfold putK stored
 rw[r.any k]
 by_cases e:(vs.any fun kv=>decide (kv.1=k))=true
 ·rw[if_pos e,if_pos e];exact r.QZ k ry
 ·rw[if_neg e,if_neg e];exact Paired.snoc r ⟨rfl,ry⟩
theorem KV.length {kvs:List (κ×V)}{vs:List (κ×Value)}(r:KV kvs vs):kvs.length=vs.length:=Paired.length r
end
theorem AX{P:Program}{w:World}{k:Key}{u:Value}(r:RelV (kV k) u):(cY P w).is k u=true:=by
 cases k with
 |inl i=>obtain⟨t,e⟩:=(show∃t,u=Value.int i t from r);subst e;exact AL P w i t
 |inr x=>obtain⟨t,e⟩:=(show∃t,u=Value.str x t from r);subst e;exact AM P w x t
theorem y8{P:Program}{w:World}:∀{ks:List Key}{us:List Value},Vals (ks.map kV) us->ItemsAre (cY P w) ks us
 |[],_,r=>by rw[map_nil]at r;cases r;exact .nil
 |k::ks,_,r=>by
  rw[map_cons]at r
  cases r with
  |cons h t=>exact .cons (AX h) (y8 t)
abbrev KT(H:Hp):List (List Key×V)->List (List Key×Addr×Value)->Prop:=Paired fun p q=>p.1=q.1/\H q.2.1=some (.tup (p.1.map kV))/\RelV p.2 q.2.2
theorem KT.val {H:Hp}{kvs:List (List Key×V)}{xs:List (List Key×Addr×Value)}(r:KT H kvs xs)(k:List Key):oh (du kvs k) ((atKey xs k).map (·.2)):=by
 induction r with
 |nil=>exact True.intro
 | @cons p q ps qs h t ih=>
  obtain⟨h1,_,h2⟩:=h
  by_cases e:p.1=k
  ·have e':q.1=k:=h1.symm.trans e
   have b:atKey (q::qs) k=some q.2:=by simp[atKey,find?_cons,e']
   rw[eO e,b];exact h2
  ·have e':¬q.1=k:=fun z=>e (h1.trans z)
   have b:atKey (q::qs) k=atKey qs k:=by simp[atKey,find?_cons,e']
   rw[eQ e,b];exact ih
theorem KT.QZ {H:Hp}{kvs:List (List Key×V)}{xs:List (List Key×Addr×Value)}(r:KT H kvs xs)(k:List Key){y:V}{u:Value}(ry:RelV y u):
  KT H (kvs.map fun kv=>if kv.1=k then(kv.1,y)else kv) (xs.map (putAt k u)):=by
 induction r with
 |nil=>exact .nil
 | @cons p q ps qs h t ih=>
  rw[map_cons,map_cons]
  refine .cons ?_ ih
  obtain⟨h1,h2,h3⟩:=h
  unfold putAt
  by_cases e:p.1=k
  ·rw[if_pos e,if_pos (h1.symm.trans e)];exact⟨h1,h2,ry⟩
  ·rw[if_neg e,if_neg (fun z=>e (h1.trans z))];exact⟨h1,h2,h3⟩
theorem KT.put {H:Hp}{kvs:List (List Key×V)}{xs:List (List Key×Addr×Value)}(r:KT H kvs xs)(k:List Key){b:Addr}{y:V}{u:Value}(hb:H b=some (.tup (k.map kV)))(ry:RelV y u):
  KT H (putK kvs k y) (storedH xs k b u):=by
 have e:(kvs.any fun kv=>decide (kv.1=k))=(atKey xs k).isSome:=by
  rw[rz,(r.val k).t9,isSome_map]
 unfold putK storedH
 rw[e]
 by_cases q:(atKey xs k).isSome=true
 ·rw[if_pos q,if_pos q];exact r.QZ k ry
 ·rw[if_neg q,if_neg q];exact Paired.snoc r ⟨rfl,hb,ry⟩
theorem KT.keeps {H H':Hp}{kvs:List (List Key×V)}{xs:List (List Key×Addr×Value)}(r:KT H kvs xs)(ht:∀b ys,H b=some (.tup ys)->H' b=some (.tup ys)):KT H' kvs xs:=
 Paired.Qu r fun _ _ z=>⟨z.1,ht _ _ z.2.1,z.2.2⟩
section
variable{P:Program}{w:World}{H:Hp}{h:Heap}{a:Addr}
theorem Oe{u:HO}(ok:mw P w H h)(e:Rd H a u):bX P w H h a u:=e.ok ok
theorem y9{kvs:List (Key×V)}(ok:mw P w H h)(e:Rd H a (.dK kvs)):kvs.length<=sizeLine/\(a==sysModules)=false/\∃vs,KV kvs vs/\h.DictOf (cY P w) a vs:=
 show bX P w H h a (.dK kvs)from Oe ok e
theorem UT{kvs:List (Key×V)}(ok:mw P w H h)(e:H a=some (.dK kvs)):kvs.length<=sizeLine/\(a==sysModules)=false/\∃vs,KV kvs vs/\h.DictOf (cY P w) a vs:=y9 ok (.inl e)
theorem wB{ks:List Key}(ok:mw P w H h)(e:H a=some (.tup (ks.map kV))):(tupleKind (cY P w)).is h ks a:=by
 obtain⟨_,its,r,o,h1,h2,n,h3⟩:=(show bX P w H h a (.tup (ks.map kV))from ok a _ e)
 exact⟨o,its.toArray,n,h1,h2,h3,by simpa using y8 r⟩
theorem wC{kvs:List (List Key×V)}(ok:mw P w H h)(e:Rd H a (.dT kvs)):kvs.length<=sizeLine/\(a==sysModules)=false/\
  ∃xs,KT H kvs xs/\h.DictOfH (tupleKind (cY P w)) a xs:=by
 obtain⟨z,y,xs,r,o,es,ep,h1,h2,h3,h4,h5⟩:=(show bX P w H h a (.dT kvs)from Oe ok e)
 refine⟨z,y,xs,r,o,es,ep,h1,h2,h3,h4,fun x hx=>?_,h5⟩
 have all:∀{l:List (List Key×V)}{m:List (List Key×Addr×Value)},KT H l m->∀x∈m,(tupleKind (cY P w)).is h x.1 x.2.1:=by
  intro l m q
  induction q with
  |nil=>intro x hx;exact nomatch hx
  | @cons p q ps qs hq t ih=>
   intro x hx
   rcases mem_cons.mp hx with e|hx
   ·subst e
    exact wB ok (by rw[<-hq.1];exact hq.2.1)
   ·exact ih x hx
 exact all r x hx
theorem UU{kvs:List (List Key×V)}(ok:mw P w H h)(e:H a=some (.dT kvs)):kvs.length<=sizeLine/\(a==sysModules)=false/\
  ∃xs,KT H kvs xs/\h.DictOfH (tupleKind (cY P w)) a xs:=wC ok (.inl e)
end
def mE(H:Hp)(a:Addr)(y:V)(r:Option V):Prop:=
 (∃kvs k,Rd H a (.dK kvs)/\y=kV k/\r=du kvs k)\/∃kvs k b,Rd H a (.dT kvs)/\y=.ref b/\H b=some (.tup (k.map kV))/\r=du kvs k
def AY(H:Hp)(a:Addr)(y v:V)(H':Hp):Prop:=
 (∃kvs k,H a=some (.dK kvs)/\y=kV k/\kvs.length<sizeLine/\H'=upd H a (.dK (putK kvs k v)))\/
 ∃kvs k b,H a=some (.dT kvs)/\y=.ref b/\H b=some (.tup (k.map kV))/\kvs.length<sizeLine/\H'=upd H a (.dT (putK kvs k v))
theorem mE.t {H:Hp}{a b:Addr}{kvs:List (List Key×V)}{k:List Key}(e:H a=some (.dT kvs))(eb:H b=some (.tup (k.map kV))):mE H a (.ref b) (du kvs k):=.inr ⟨kvs,k,b,.inl e,rfl,eb,rfl⟩
theorem AY.t {H:Hp}{a b:Addr}{kvs:List (List Key×V)}{k:List Key}{v:V}(e:H a=some (.dT kvs))(eb:H b=some (.tup (k.map kV)))(hl:kvs.length<sizeLine):
  AY H a (.ref b) v (upd H a (.dT (putK kvs k v))):=.inr ⟨kvs,k,b,e,rfl,eb,hl,rfl⟩
section
variable{X:Cx}{pins:List (Addr×Obj)}{σ:St}{H:Hp}{s:Shared}{a:Addr}{y v:V}{u r:Value}{o:Option V}{A:Around}{E:Value->Shared->Prop}
theorem Inv.big (I:Inv X pins σ H s):sysModules<s.heap.objs.size:=by
 have h:mainGlobals<s.heap.objs.size:=(I.mod.glob.keeps I.bk).lt
 exact Nat.lt_trans (by decide) h
theorem F6{Q:Value->Shared->Prop}(hu:A.units+1<cLine)(I:Inv X pins σ H s)(g:mE H a y (some v))(ry:RelV y u)(h:∀w' s',Inv X pins σ H s'->RelV v w'->Q w' s'):
  wpAny (model X.prog X.w) A (getItem (.ref a) u) Q E s:=by
 rcases g with⟨kvs,k,e,ey,l⟩|⟨kvs,k,b,e,ey,eb,l⟩
 ·subst ey
  obtain⟨z,hd,vs,rel,dd⟩:=y9 I.hok e
  obtain⟨w',hw,nE⟩:=oh.some_of (v:=v) (o:=valueAt vs k) (by rw[l];exact rel.val k)
  exact wpAny_getItem_of (AX ry) dd.mapOf hw (h w' _ (I.tok _) nE)
 ·subst ey
  cases (show u=Value.ref b from ry)
  obtain⟨z,hd,xs,rel,dd⟩:=wC I.hok e
  obtain⟨w',hw,nE⟩:=oh.some_of (v:=v) (o:=(atKey xs k).map (·.2)) (by rw[l];exact rel.val k)
  obtain⟨p,hp,XT⟩:=Option.map_eq_some_iff.mp hw
  refine wpAny_getItem_heap (tupleKind_room_in1 hu) (wB I.hok eb) dd hp ?_
  rw[XT]
  exact h w' _ (I.tok _) nE
theorem L4{Q:Value->Shared->Prop}(hu:A.units+1<cLine)(I:Inv X pins σ H s)(g:mE H a y o)(ry:RelV y u)(h:∀s',Inv X pins σ H s'->Q (.bool (!o.isSome)) s'):
  wpAny (model X.prog X.w) A (compareOp .NotIn u (.ref a)) Q E s:=by
 rcases g with⟨kvs,k,e,ey,l⟩|⟨kvs,k,b,e,ey,eb,l⟩
 ·subst ey
  obtain⟨z,hd,vs,rel,dd⟩:=y9 I.hok e
  refine wpAny_notIn_of (AX ry) hd dd.mapOf ?_
  rw[<-(rel.val k).t9,<-l]
  exact h _ (I.tok _)
 ·subst ey
  cases (show u=Value.ref b from ry)
  obtain⟨z,hd,xs,rel,dd⟩:=wC I.hok e
  refine wpAny_notIn_heap (tupleKind_room_in1 hu) (wB I.hok eb) hd dd ?_
  have q:=(rel.val k).t9
  rw[isSome_map]at q
  rw[<-q,<-l]
  exact h _ (I.tok _)
theorem D4{h':Heap}{t':Nat}{ob:HO}(I:Inv X pins σ H s)(mu:Ub (H a))(hs:Heap.SameBut a s.heap h')(he:∃q,h'.get? a=some q)(new:bX X.prog X.w (upd H a ob) h' a ob):
  Inv X pins σ (upd H a ob) {s with heap:=h',toks:=t'}:=
 I.write (x:=a) (e:=a) mu (.inl rfl) (fun b q hb z=>(hs.2 b hb).trans z) he new
theorem Q0{P:Program}{w:World}{H':Hp}{h':Heap}{kvs:List (Key×V)}{vs:List (Key×Value)}(z:kvs.length<=sizeLine)(hd:(a==sysModules)=false)(rel:KV kvs vs)(dd:h'.DictOf (cY P w) a vs):
  bX P w H' h' a (.dK kvs):=⟨z,hd,vs,rel,dd⟩
theorem F7{H':Hp}{Q:Unit->Shared->Prop}(hu:A.units+1<cLine)(I:Inv X pins σ H s)(g:AY H a y v H')(ry:RelV y u)(rv:RelV v r)(h:∀s',Inv X pins σ H' s'->Q () s'):
  wpAny (model X.prog X.w) A (setItem (.ref a) u r) Q E s:=by
 rcases g with⟨kvs,k,e,ey,l,eH⟩|⟨kvs,k,b,e,ey,eb,l,eH⟩
 ·subst ey eH
  obtain⟨z,hd,vs,rel,dd⟩:=UT I.hok e
  have hz:vs.length<=sizeLine:=by rw[<-rel.length];exact z
  have hl:(putK kvs k v).length<=sizeLine:=by have:=gy kvs k v;omega
  refine wpAny_setItem_pairs (hsz:=hz) (AX ry) dd fun h' XU hs=>h _ ?_
  have he:∃q,h'.get? a=some q:=let⟨q,_,_,hq,_⟩:=XU;⟨q,hq⟩
  exact D4 I (by rw[e];exact True.intro) hs he (Q0 hl hd (rel.put k rv) XU)
 ·subst ey eH
  cases (show u=Value.ref b from ry)
  obtain⟨z,hd,xs,rel,dd⟩:=UU I.hok e
  have hz:xs.length<=sizeLine:=by rw[<-Paired.length rel];exact z
  have hl:(putK kvs k v).length<=sizeLine:=by have:=gy kvs k v;omega
  refine wpAny_setItem_heap (hsz:=hz) (tupleKind_room_in1 hu) (wB I.hok eb) dd fun h' XU hs=>h _ ?_
  obtain⟨q,es,ep,hq,h2,h3,h4,_,h5⟩:=XU
  refine D4 I (by rw[e];exact True.intro) hs ⟨q,hq⟩ ⟨hl,hd,_,(rel.put k eb rv).keeps fun c ys ec=>?_,q,es,ep,hq,h2,h3,h4,h5⟩
  rw[ae (bD ec e (fun z=>nomatch z))]
  exact ec
end
def UW(i:Expr):Prop:=∀ov iv,subscripted i false ov iv=operate [ov,iv] (getItem ov iv)
theorem L5{prog:Program}{w:World}{A:Around}{E:Value->Shared->Prop}{s:Shared}{env:Env}{value slice:Expr}{pos:Pos}{T id:String}{Q:Value->Shared->Prop}
  (hl:typeLookup (.type T) "__getitem__"=pure (some (.builtin id)))(hs:UW slice)
  (h:wpAny (model prog w) A (eval value env) (fun o s₁=>wpAny (model prog w) A (eval slice env) (fun i s₂=>s₂.TypeIs o T/\wpAny (model prog w) A (getItem o i) Q E s₂) E s₁) E s):
  wpAny (model prog w) A (eval (.Subscript value slice pos) env) Q E s:=by
 refine Subscript_ (wpAny_mono h (fun o s₁ h₁=>wpAny_mono h₁ (fun i s₂ h₂=>?_) fun _ _ x=>x) fun _ _ x=>x)
 obtain⟨hT,h₂⟩:=h₂
 unfold subscriptTail
 refine wpAny_bind ?_
 rw[getitemInPython_of_ne hT.not_modules]
 refine wpAny_bind (wpAny_specialOf hT hl ?_)
 have fin:wpAny (model prog w) A (subscripted slice false o i) (fun r s₃=>wpAny (model prog w) A (letTemporaryGo value o r>>=fun _=>pure r) Q E s₃) E s₂:=by
  rw[hs o i]
  exact wpAny_operating (wpAny_mono h₂ (fun r s₃ h₃=>wpAny_bind (wpAny_letTemporaryGo (wpAny_pure h₃))) fun _ _ x=>x)
 first
  |exact wpAny_pure (wpAny_bind fin)
  |exact wpAny_bind (wpAny_pure (wpAny_bind fin))
  |exact wpAny_bind fin
theorem AZ{X:Cx}{pins:List (Addr×Obj)}{σ:St}{H:Hp}{s:Shared}{a:Addr}{y:V}{o:Option V}(I:Inv X pins σ H s)(g:mE H a y o):s.TypeIs (.ref a) "dict":=by
 rcases g with⟨kvs,k,e,_,_⟩|⟨kvs,k,b,e,_,_,_⟩
 ·obtain⟨_,_,vs,_,dd⟩:=y9 I.hok e
  exact dd.typeIs
 ·obtain⟨_,_,xs,_,dd⟩:=wC I.hok e
  exact dd.typeIs
def UX(td ty:TE):TE:=fun σ H Q=>td σ H fun x H1=>ty σ H1 fun y H2=>∃a v,x=.ref a/\mE H2 a y (some v)/\Q v H2
def L6(ty td:TE):TE:=fun σ H Q=>ty σ H fun y H1=>td σ H1 fun x H2=>∃a o,x=.ref a/\mE H2 a y o/\Q (.bl (!o.isSome)) H2
def UY(td ty tv:TE):TS:=fun D σ H=>tv σ H fun v H1=>td σ H1 fun x H2=>ty σ H2 fun y H3=>∃a H4,x=.ref a/\AY H3 a y v H4/\D.nx σ H4
section
variable{X:Cx}{o i e value:Expr}{pos pos' Y5:Pos}{td ty tv:TE}
theorem zM(hu:X.A.units+1<cLine)(ho:PE X o td)(hi:PE X i ty)(hs:UW i):PE X (.Subscript o i pos) (UX td ty):=by
 intro pins s σ H Q I h
 refine L5 PySem.F.slot_dict_getitem.lookup hs (bG (ho pins s σ H _ I h) fun u s1 ⟨x,H1,I1,rx,q1⟩=>bG (hi pins s1 σ H1 _ I1 q1) fun iv s2 ⟨y,H2,I2,ry,a,v,ex,g,q2⟩=>?_)
 subst ex
 obtain rfl:u=Value.ref a:=rx
 exact⟨AZ I2 g,F6 hu I2 g ry fun w' s3 I3 nE=>⟨v,H2,I3,nE,q2⟩⟩
theorem uc(hu:X.A.units+1<cLine)(hi:PE X i ty)(ho:PE X o td):PC X .NotIn i o (L6 ty td):=by
 intro pins s σ H Q I h
 refine bG (hi pins s σ H _ I h) fun iv s1 ⟨y,H1,I1,ry,q1⟩=>bG (ho pins s1 σ H1 _ I1 q1) fun u s2 ⟨x,H2,I2,rx,a,ov,ex,g,q2⟩=>?_
 subst ex
 obtain rfl:u=Value.ref a:=rx
 exact L4 hu I2 g ry fun s3 I3=>⟨.bl (!ov.isSome),H2,I3,rfl,q2⟩
theorem vM(hu:X.A.units+1<cLine)(ho:PE X o td)(hi:PE X i ty)(hv:PE X value tv)(hs:swapsWith value (some (.Subscript o i pos')) pos.line X.env=pure false):
  PS X (.Assign [.Subscript o i pos'] value pos) (UY td ty tv):=by
 intro pins s σ H D I h
 refine wpAny_Assign_Subscript (bG (hv pins s σ H _ I h) fun r s1 ⟨v,H1,I1,rv,q1⟩=>bG (ho pins s1 σ H1 _ I1 q1) fun u s2 ⟨x,H2,I2,rx,q2⟩=>bG (hi pins s2 σ H2 _ I2 q2) fun iv s3 ⟨y,H3,I3,ry,a,H4,ex,g,q3⟩=>?_) hs
 subst ex
 obtain rfl:u=Value.ref a:=rx
 exact F7 hu I3 g ry rv fun s4 I4=>⟨σ,H4,I4,q3⟩
end
theorem Ic{P:Program}{w:World}{H:Hp}(h:Heap)(hb:sysModules<h.objs.size):bX P w H (h.push {cls:=.type "dict",data:=.dict #[]}) h.objs.size (.dT []):=
 ⟨zero_le _,beq_eq_false_iff_ne.mpr (Ne.symm (ne_of_lt hb)),[],.nil,_,#[],0,Heap.get?_push_size _ rfl,⟨rfl,rfl,rfl⟩,rfl,rfl,List.nodup_nil⟩
def Q1:TE:=fun _ H Q=>∀p,H p=none->Q (.ref p) (upd H p (.dT []))
section
variable{X:Cx}{pos:Pos}
theorem rA:PE X (.Dict [] [] pos) Q1:=fun pins s σ H Q I h=>
 wpAny_Dict_empty ⟨.ref s.heap.objs.size,_,I.laid (a:=s.heap.objs.size) (o:=.dT []) (t':=s.toks) (fun _ _ q=>Heap.get?_push_of_some _ q) (le_refl _) (Ic s.heap I.big),rfl,h _ (I.hok.fresh (le_refl _))⟩
end
end L2
namespace L2
open PySem PySem.Spec PyProof.Rows
variable{X:Cx}
structure M1(X:Cx)(o:Expr)(m:Str)(apos:Pos)(e:Expr)(aL:Pos):Prop where
 base:attributeBase o m X.env (eval o X.env)=eval o X.env
 few:((backTo aL (starEach [e] X.env)).all (fun x=> !x.1)&&(backToKw aL (keywordEach [] X.env)).all (fun x=>x.1.isSome)
  &&decide (([e]:List Expr).length+([]:List Keyword).length+(if([]:List Keyword).isEmpty then 0 else 1)<30))=true
 line:(apos.endLine==aL.line)=true
 trees:backTo aL (starEach [e] X.env)=[(false,eval e X.env)]
def IsD(H:Hp)(a:Addr):Prop:=(∃kvs,Rd H a (.dK kvs))\/∃kvs,Rd H a (.dT kvs)
theorem Q2{X:Cx}{pins:List (Addr×Obj)}{σ:St}{H:Hp}{s:Shared}{a:Addr}(I:Inv X pins σ H s)(d:IsD H a):
  s.TypeIs (.ref a) "dict"/\(∀b,Value.ref a=.ref b->∃ob,s.heap.get? b=some ob/\ob.dict=none)/\(a==sysModules)=false:=by
 rcases d with⟨kvs,e⟩|⟨kvs,e⟩
 ·obtain⟨_,hd,vs,_,dd⟩:=y9 I.hok e
  refine⟨dd.typeIs,fun b q=>?_,hd⟩
  cases q
  obtain⟨ob,_,_,h1,h2,_⟩:=dd
  exact⟨ob,h1,h2.2.1⟩
 ·obtain⟨_,hd,xs,_,dd⟩:=wC I.hok e
  refine⟨dd.typeIs,fun b q=>?_,hd⟩
  cases q
  obtain⟨ob,_,_,h1,h2,_⟩:=dd
  exact⟨ob,h1,h2.2.1⟩
section
variable{X:Cx}{pins:List (Addr×Obj)}{σ:St}{H:Hp}{s:Shared}{a:Addr}{y d:V}{u r:Value}{o:Option V}{A:Around}{E:Value->Shared->Prop}
theorem Q3{Q:Value->Shared->Prop}(hu:A.units+1<cLine)(I:Inv X pins σ H s)(g:mE H a y o)(ry:RelV y u)(h:∀w' s',Inv X pins σ H s'->RelV (o.getD .non) w'->Q w' s'):
  wpAny (model X.prog X.w) A (call (.builtin "dict.get") [.ref a,u]) Q E s:=by
 rcases g with⟨kvs,k,e,ey,l⟩|⟨kvs,k,b,e,ey,eb,l⟩
 ·subst ey
  obtain⟨z,hd,vs,rel,dd⟩:=y9 I.hok e
  refine call_meetsIn slot_dict_get dd.typeIs entry_dict_get (PySem.F.args_dict_get_2 _ _) (meets_dict_get (cY X.prog X.w) a (AX ry) hd) ⟨_,dd.mapOf,h _ _ (I.tok _) ?_⟩
  rw[l]
  exact(rel.val k).getD rfl
 ·subst ey
  cases (show u=Value.ref b from ry)
  obtain⟨z,hd,xs,rel,dd⟩:=wC I.hok e
  refine call_meetsIn slot_dict_get dd.typeIs entry_dict_get (PySem.F.args_dict_get_2 _ _) (meetsH_dict_get (tupleKind (cY X.prog X.w)) a b hd) ⟨tupleKind_room_in1 hu,k,xs,wB I.hok eb,dd,h _ _ (I.tok _) ?_⟩
  rw[l]
  exact(rel.val k).getD rfl
end
def Q4(td ty:TE):TE:=fun σ H Q=>td σ H fun x H1=>∃a,x=.ref a/\IsD H1 a/\ty σ H1 fun y H2=>∃o,mE H2 a y o/\Q (o.getD .non) H2
section
variable{X:Cx}{o e f:Expr}{apos aL:Pos}{td ty tx:TE}
theorem Ie(hu:X.A.units+1<cLine)(ho:PE X o td)(he:PE X e ty)(m:M1 X o "get" apos e aL):PE X (.Call (.Attribute o "get" apos) [e] [] aL) (Q4 td ty):=by
 intro pins s σ H Q I h
 refine wpAny_Call_method m.base m.few m.line PySem.F.plainAttrs_dict slot_dict_get type_dict_get (bG (ho pins s σ H _ I h) fun u s1 ⟨x,H1,I1,rx,a,ex,d,q1⟩=>?_)
 subst ex
 obtain rfl:u=Value.ref a:=rx
 obtain⟨t1,t2,_⟩:=Q2 I1 d
 refine⟨t1,t2,?_⟩
 rw[m.trees]
 refine Calls.callWith_builtin rfl (Calls.evalArgs_plain (Calls.spliced_cons (bG (he pins s1 σ H1 _ I1 q1) fun iv s2 ⟨y,H2,I2,ry,ov,g,q2⟩=>Calls.spliced_nil ?_)))
 exact Q3 hu I2 g ry fun w' s3 I3 nE=>⟨_,H2,I3,nE,q2⟩
end
end L2
namespace DL
open PySem PySem.Spec PyProof.Rows L2
abbrev St:=L2.St
inductive D where
 |non|bl (b:Bool)|int (i:Int)|str (x:Str)|lst (xs:List D)|tup (xs:List D)|exc (n:Str)|fn (n:Str)
 deriving Inhabited
inductive R (α:Type) where
 |ok (a:α)|err (c:Str)|bad
def R.bind {α β:Type}(r:R α)(f:α->R β):R β:=match r with
 |.ok a=>f a
 |.err c=>.err c
 |.bad=>.bad
def R.of {α:Type}:Option α->R α
 |some a=>.ok a
 |none=>.bad
theorem R.aM {α β:Type}(a:α)(f:α->R β):(R.ok a).bind f=f a:=rfl
theorem R.aN {α β:Type}(c:Str)(f:α->R β):(R.err c:R α).bind f=.err c:=rfl
theorem R.kq {α:Type}(a:α):R.of (some a)=.ok a:=rfl
def Good{α:Type}(E:Str->Hp->Prop)(H₀:Hp)(r:R α)(post:α->Prop):Prop:=match r with
 |.ok a=>post a
 |.err c=>∀H',aC H₀ H'->E c H'
 |.bad=>False
theorem Good.bind {α β:Type}{E:Str->Hp->Prop}{H₀:Hp}{r:R α}{k:α->R β}{post:β->Prop}(h:Good E H₀ (r.bind k) post):Good E H₀ r (fun a=>Good E H₀ (k a) post):=by
 cases r with
 |ok a=>exact h
 |err c=>exact h
 |bad=>exact h
theorem Good.mono {α:Type}{E:Str->Hp->Prop}{H₀:Hp}{r:R α}{p q:α->Prop}(h:Good E H₀ r p)(w:∀a,r=.ok a->p a->q a):Good E H₀ r q:=by
 cases r with
 |ok a=>exact w a rfl h
 |err c=>exact h
 |bad=>exact h
theorem Good.D5 {α β:Type}{E:Str->Hp->Prop}{H₀:Hp}{r:R α}{k:α->R β}{p:α->Prop}{q:β->Prop}(h:Good E H₀ r p)(w:∀a,r=.ok a->p a->Good E H₀ (k a) q):Good E H₀ (r.bind k) q:=by
 cases r with
 |ok a=>exact w a rfl h
 |err c=>exact h
 |bad=>exact h
theorem Good.of {α:Type}{E:Str->Hp->Prop}{H₀:Hp}{o:Option α}{p:α->Prop}(h:Good E H₀ (R.of o) p):∃a,o=some a/\p a:=by
 cases o with
 |none=>exact False.elim h
 |some a=>exact⟨a,rfl,h⟩
def KL(K:PySem.W.Frag)(a:Addr)(xs:List V):Prop:=∃(o:Obj)(its:Array Value)(n:Nat),K.lookup a=some o/\o.cls=.type "list"/\o.dict=none/\o.data=.seq its n/\its.size<=sizeLine/\Vals xs its.toList
def KT(K:PySem.W.Frag)(a:Addr)(xs:List V):Prop:=∃(o:Obj)(its:Array Value)(n:Nat),K.lookup a=some o/\o.cls=.type "tuple"/\o.data=.seq its n/\its.size<=sizeLine/\Vals xs its.toList
def vq(K:PySem.W.Frag)(P:Addr->Prop)(H:Hp)(a:Addr)(vs:List V):Prop:=(P a/\Rd H a (.lst vs))\/KL K a vs
def F8(K:PySem.W.Frag)(P:Addr->Prop)(H:Hp)(a:Addr)(vs:List V):Prop:=(P a/\Rd H a (.tup vs))\/KT K a vs
theorem vq.sq {K:PySem.W.Frag}{P:Addr->Prop}{H:Hp}{a:Addr}{vs:List V}(h:vq K P H a vs):cV K H a vs:=h.elim (fun z=>.inl z.2) .inr
theorem F8.sq {K:PySem.W.Frag}{P:Addr->Prop}{H:Hp}{a:Addr}{vs:List V}(h:F8 K P H a vs):AQ K H a vs:=h.elim (fun z=>.inl z.2) .inr
theorem vq.any {K:PySem.W.Frag}{H:Hp}{a:Addr}{vs:List V}(h:cV K H a vs):vq K (fun _=>True) H a vs:=h.elim (fun z=>.inl ⟨trivial,z⟩) .inr
def Ig(a C:Addr):Heap->Prop:=fun h=>∃vs,h.get? a=some {cls:=.ref C,data:=.fields vs}
def Is(K:PySem.W.Frag)(P:Addr->Prop)(H:Hp):D->V->Prop
 |.non,v=>v=.non
 |.bl b,v=>v=.bl b
 |.int i,v=>v=.int i
 |.str x,v=>v=.str x
 |.lst ds,v=>∃a vs,v=.ref a/\vq K P H a vs/\IsL ds vs
 |.tup ds,v=>∃a vs,v=.ref a/\F8 K P H a vs/\IsL ds vs
 |.exc n,v=>∃a C,v=.ref a/\P a/\nsIn K mainGlobals n=some (some (.ref C))/\H a=some (.ext (Ig a C))
 |.fn n,v=>∃a,v=.ref a/\nsIn K mainGlobals n=some (some (.ref a))
where
 IsL:List D->List V->Prop
 |[],vs=>vs=[]
 |d::ds,vs=>∃v r,vs=v::r/\Is K P H d v/\IsL ds r
abbrev IsL(K:PySem.W.Frag)(P:Addr->Prop)(H:Hp):List D->List V->Prop:=Is.IsL K P H
section
variable{K:PySem.W.Frag}{P P':Addr->Prop}{H H':Hp}
structure Ext(P P':Addr->Prop)(H H':Hp):Prop where
 p:∀a o,P a->H a=some o->P' a
 h:∀a o,P a->H a=some o->H' a=some o
theorem Ext.rd (e:Ext P P' H H'){a:Addr}{u:HO}(p:P a)(r:Rd H a u):P' a/\Rd H' a u:=by
 rcases r with r|⟨o,r⟩
 ·exact⟨e.p a _ p r,.inl (e.h a _ p r)⟩
 ·exact⟨e.p a _ p r,.inr ⟨o,e.h a _ p r⟩⟩
theorem vq.ext (e:Ext P P' H H'){a:Addr}{vs:List V}(h:vq K P H a vs):vq K P' H' a vs:=h.elim (fun z=>.inl (e.rd z.1 z.2)) .inr
theorem F8.ext (e:Ext P P' H H'){a:Addr}{vs:List V}(h:F8 K P H a vs):F8 K P' H' a vs:=h.elim (fun z=>.inl (e.rd z.1 z.2)) .inr
mutual
theorem Is.ext (e:Ext P P' H H'):∀(d:D)(v:V),Is K P H d v->Is K P' H' d v
 |.non,_,h=>h
 |.bl _,_,h=>h
 |.int _,_,h=>h
 |.str _,_,h=>h
 |.lst ds,_,⟨a,vs,e1,l,q⟩=>⟨a,vs,e1,l.ext e,IsL.ext e ds vs q⟩
 |.tup ds,_,⟨a,vs,e1,l,q⟩=>⟨a,vs,e1,l.ext e,IsL.ext e ds vs q⟩
 |.exc n,_,⟨a,C,e1,p,c,q⟩=>⟨a,C,e1,e.p a _ p q,c,e.h a _ p q⟩
 |.fn _,_,h=>h
theorem IsL.ext (e:Ext P P' H H'):∀(ds:List D)(vs:List V),IsL K P H ds vs->IsL K P' H' ds vs
 |[],_,h=>h
 |d::ds,_,⟨v,r,e1,p,q⟩=>⟨v,r,e1,Is.ext e d v p,IsL.ext e ds r q⟩
end
theorem Ext.same (s:aC H H'):Ext P P H H':=⟨fun _ _ p _=>p,fun a o _ h=>s a o h⟩
theorem Is.same (s:aC H H'){d:D}{v:V}(h:Is K P H d v):Is K P H' d v:=Is.ext (.same s) d v h
theorem IsL.same (s:aC H H'){d:List D}{v:List V}(h:IsL K P H d v):IsL K P H' d v:=IsL.ext (.same s) d v h
theorem Is.weak {d:D}{v:V}(h:Is K P H d v):Is K (fun _=>True) H d v:=Is.ext ⟨fun _ _ _ _=>trivial,fun _ _ _ q=>q⟩ d v h
theorem IsL.weak {d:List D}{v:List V}(h:IsL K P H d v):IsL K (fun _=>True) H d v:=IsL.ext ⟨fun _ _ _ _=>trivial,fun _ _ _ q=>q⟩ d v h
def toV:D->Option V
 |.non=>some .non
 |.bl b=>some (.bl b)
 |.int i=>some (.int i)
 |.str x=>some (.str x)
 |_=>none
theorem Is.sc {d:D}{z:V}(h:toV d=some z):Is K P H d z:=by
 cases d with
 |non=>cases h;rfl
 |bl b=>cases h;rfl
 |int b=>cases h;rfl
 |str b=>cases h;rfl
 |lst b=>cases h
 |exc _=>cases h
 |fn _=>cases h
 |tup b=>cases h
theorem Is.Og {d:D}{z v:V}(h:toV d=some z)(i:Is K P H d v):v=z:=by
 cases d with
 |non=>cases h;exact i
 |bl b=>cases h;exact i
 |int b=>cases h;exact i
 |str b=>cases h;exact i
 |lst b=>cases h
 |exc _=>cases h
 |fn _=>cases h
 |tup b=>cases h
theorem IsL.length:∀{ds:List D}{vs:List V},IsL K P H ds vs->vs.length=ds.length
 |[],_,h=>by subst h;rfl
 |d::ds,_,⟨v,r,e,_,q⟩=>by subst e;simp[IsL.length q]
theorem IsL.get:∀{ds:List D}{vs:List V}{i:Nat}{d:D},IsL K P H ds vs->ds[i]?=some d->∃v,vs[i]?=some v/\Is K P H d v
 |[],_,_,_,_,e=>by simp at e
 |d::ds,_,0,_,⟨v,r,e,p,q⟩,e2=>by subst e;simp at e2;subst e2;exact⟨v,rfl,p⟩
 |d::ds,_,i+1,_,⟨v,r,e,p,q⟩,e2=>by
  subst e
  obtain⟨v',h1,h2⟩:=IsL.get (i:=i) q (by simpa using e2)
  exact⟨v',by simpa using h1,h2⟩
theorem IsL.app:∀{ds es:List D}{vs ws:List V},IsL K P H ds vs->IsL K P H es ws->IsL K P H (ds++es) (vs++ws)
 |[],_,_,_,h,q=>by
  have h':_=[]:=h
  subst h';exact q
 |d::ds,_,_,_,⟨v,r,e,p,q⟩,q2=>by subst e;exact⟨v,_,rfl,p,IsL.app q q2⟩
theorem IsL.one {d:D}{v:V}(h:Is K P H d v):IsL K P H [d] [v]:=⟨v,[],rfl,h,rfl⟩
theorem IsL.cons {d:D}{v:V}{ds:List D}{vs:List V}(h:Is K P H d v)(q:IsL K P H ds vs):IsL K P H (d::ds) (v::vs):=⟨v,vs,rfl,h,q⟩
theorem IsL.drop:∀{ds:List D}{vs:List V}(n:Nat),IsL K P H ds vs->IsL K P H (ds.drop n) (vs.drop n)
 |_,_,0,h=>h
 |[],_,n+1,h=>by
  have h':_=[]:=h
  subst h';exact rfl
 |d::ds,_,n+1,⟨v,r,e,p,q⟩=>by subst e;exact IsL.drop n q
theorem IsL.take:∀{ds:List D}{vs:List V}(n:Nat),IsL K P H ds vs->IsL K P H (ds.take n) (vs.take n)
 |_,_,0,_=>rfl
 |[],_,n+1,h=>by
  have h':_=[]:=h
  subst h';exact rfl
 |d::ds,_,n+1,⟨v,r,e,p,q⟩=>by subst e;exact⟨v,_,rfl,p,IsL.take n q⟩
theorem IsL.set:∀{ds:List D}{vs:List V}{d:D}{v:V}(i:Nat),IsL K P H ds vs->Is K P H d v->IsL K P H (ds.set i d) (vs.set i v)
 |[],_,_,_,_,h,_=>by
  have h':_=[]:=h
  subst h';exact rfl
 |d::ds,_,_,_,0,⟨v,r,e,p,q⟩,h=>by subst e;exact⟨_,_,rfl,h,q⟩
 |d::ds,_,_,_,i+1,⟨v,r,e,p,q⟩,h=>by subst e;exact⟨v,_,rfl,p,IsL.set i q h⟩
end
abbrev L7:=Int×Int×List Int
inductive Ct where
 |ls (nss:List (List Int))|tp (nss:List (List Int))|dk (ks:List Int)|tq (n:Int) (ns:List Int)|tr (ts:List L7)
instance:Coe (List (List Int)) Ct:=⟨Ct.ls⟩
inductive Sl where
 |no|val (d:D)|own (xs:List D)|raw (v:V)|deep (c:Ct)
abbrev DE:=List Sl
structure Gh where
 P₀:Addr->Prop
 H₀:Hp
def Gh.P (g:Gh)(os:List Addr)(a:Addr):Prop:=(g.P₀ a\/g.H₀ a=none)/\a∉os
structure AD(hd:List V->HO)(H:Hp)(os:List Addr)(a:Addr)(as:List Addr)(nss:List (List Int)):Prop where
 ma:a∈os
 ha:H a=some (hd (as.map V.ref))
 len:as.length=nss.length
 nd:(a::as).Nodup
 it:∀(k:Nat)(b:Addr)(ns:List Int),as[k]?=some b->nss[k]?=some ns->b∈os/\H b=some (.lst (ns.map V.int))
theorem AD.mem {hd:List V->HO}{H:Hp}{os:List Addr}{a:Addr}{as:List Addr}{nss:List (List Int)}(d:AD hd H os a as nss):∀x∈a::as,x∈os/\∃o,H x=some o:=fun x hx=>by
 rcases mem_cons.mp hx with rfl|hx
 ·exact⟨d.ma,_,d.ha⟩
 ·obtain⟨k,hk,rfl⟩:=getElem_of_mem hx
  have Zm:k<nss.length:=by rw[<-d.len];exact hk
  have q:=d.it k _ _ (getElem?_eq_getElem hk) (getElem?_eq_getElem Zm)
  exact⟨q.1,_,q.2⟩
theorem AD.to {hd:List V->HO}{H H':Hp}{os gO:List Addr}{a:Addr}{as:List Addr}{nss:List (List Int)}(d:AD hd H os a as nss)(h:∀x∈a::as,x∈gO/\H' x=H x):AD hd H' gO a as nss:=
 ⟨(h a (by simp)).1,by rw[(h a (by simp)).2];exact d.ha,d.len,d.nd,fun k b ns e1 e2=>by
  have q:=d.it k b ns e1 e2
  have hb:=h b (mem_cons_of_mem _ (mem_of_getElem? e1))
  exact⟨hb.1,by rw[hb.2];exact q.2⟩⟩
def UZ(H:Hp)(as:List Addr)(t:L7)(v:V):Prop:=∃b c,v=.ref b/\b∈as/\c∈as/\H b=some (.tup [.int t.1,.int t.2.1,.ref c])/\H c=some (.lst (t.2.2.map V.int))
structure Q5(H:Hp)(os:List Addr)(a:Addr)(as:List Addr)(ts:List L7):Prop where
 ma:a∈os
 na:a∉as
 mem:∀x∈as,x∈os/\∃o,H x=some o
 at_:∃vs,H a=some (.lst vs)/\vs.length=ts.length/\∀(k:Nat)(t:L7)(v:V),ts[k]?=some t->vs[k]?=some v->UZ H as t v
theorem UZ.to {H H':Hp}{as as':List Addr}{t:L7}{v:V}(d:UZ H as t v)(h:∀x∈as,x∈as'/\H' x=H x):UZ H' as' t v:=by
 obtain⟨b,c,e,h1,h2,h3,h4⟩:=d
 exact⟨b,c,e,(h b h1).1,(h c h2).1,by rw[(h b h1).2];exact h3,by rw[(h c h2).2];exact h4⟩
theorem Q5.to {H H':Hp}{os gO:List Addr}{a:Addr}{as:List Addr}{ts:List L7}(d:Q5 H os a as ts)(h:∀x∈a::as,x∈gO/\H' x=H x):Q5 H' gO a as ts:=by
 obtain⟨vs,h1,h2,h3⟩:=d.at_
 refine⟨(h a (by simp)).1,d.na,fun x hx=>?_,vs,by rw[(h a (by simp)).2];exact h1,h2,fun k t v e1 e2=>(h3 k t v e1 e2).to fun x hx=>⟨hx,(h x (mem_cons_of_mem _ hx)).2⟩⟩
 obtain⟨q1,o,q2⟩:=d.mem x hx
 have q:=h x (mem_cons_of_mem _ hx)
 exact⟨q.1,o,by rw[q.2];exact q2⟩
def kvT(ks:List Int):List (Key×V):=ks.map fun k=>(Sum.inl k,V.bl true)
abbrev Dp(H:Hp)(os:List Addr)(a:Addr)(as:List Addr)(c:Ct):Prop:=match c with
 |.ls nss=>AD HO.lst H os a as nss
 |.tp nss=>AD HO.tup H os a as nss
 |.dk ks=>a∈os/\as=[]/\H a=some (.dK (kvT ks))
 |.tq n ns=>∃b,as=[b]/\a∈os/\b∈os/\a≠b/\H a=some (.tup [.int n,.ref b])/\H b=some (.lst (ns.map V.int))
 |.tr ts=>Q5 H os a as ts
theorem Dp.mem {H:Hp}{os:List Addr}{a:Addr}{as:List Addr}{c:Ct}(d:Dp H os a as c):∀x∈a::as,x∈os/\∃o,H x=some o:=by
 cases c with
 |ls nss=>exact AD.mem d
 |tp nss=>exact AD.mem d
 |dk ks=>
  obtain⟨h1,rfl,h2⟩:=d
  intro x hx
  rcases mem_cons.mp hx with rfl|hx
  ·exact⟨h1,_,h2⟩
  ·cases hx
 |tq n ns=>
  obtain⟨b,rfl,h1,h2,h3,h4,h5⟩:=d
  intro x hx
  rcases mem_cons.mp hx with rfl|hx
  ·exact⟨h1,_,h4⟩
  ·rcases mem_cons.mp hx with rfl|hx
   ·exact⟨h2,_,h5⟩
   ·cases hx
 |tr ts=>
  have d':Q5 H os a as ts:=d
  intro x hx
  rcases mem_cons.mp hx with rfl|hx
  ·obtain⟨vs,h1,_⟩:=d'.at_
   exact⟨d'.ma,_,h1⟩
  ·exact d'.mem x hx
theorem Dp.to {H H':Hp}{os gO:List Addr}{a:Addr}{as:List Addr}{c:Ct}(d:Dp H os a as c)(h:∀x∈a::as,x∈gO/\H' x=H x):Dp H' gO a as c:=by
 cases c with
 |ls nss=>exact AD.to d h
 |tp nss=>exact AD.to d h
 |dk ks=>
  obtain⟨h1,rfl,h2⟩:=d
  exact⟨(h a (by simp)).1,rfl,by rw[(h a (by simp)).2];exact h2⟩
 |tq n ns=>
  obtain⟨b,rfl,h1,h2,h3,h4,h5⟩:=d
  exact⟨b,rfl,(h a (by simp)).1,(h b (by simp)).1,h3,by rw[(h a (by simp)).2];exact h4,by rw[(h b (by simp)).2];exact h5⟩
 |tr ts=>exact Q5.to d h
theorem Dp.ma {H:Hp}{os:List Addr}{a:Addr}{as:List Addr}{nss:List (List Int)}(d:Dp H os a as (.ls nss)):a∈os:=AD.ma d
theorem Dp.ha {H:Hp}{os:List Addr}{a:Addr}{as:List Addr}{nss:List (List Int)}(d:Dp H os a as (.ls nss)):H a=some (.lst (as.map V.ref)):=AD.ha d
theorem Dp.len {H:Hp}{os:List Addr}{a:Addr}{as:List Addr}{nss:List (List Int)}(d:Dp H os a as (.ls nss)):as.length=nss.length:=AD.len d
theorem Dp.nd {H:Hp}{os:List Addr}{a:Addr}{as:List Addr}{nss:List (List Int)}(d:Dp H os a as (.ls nss)):(a::as).Nodup:=AD.nd d
theorem Dp.it {H:Hp}{os:List Addr}{a:Addr}{as:List Addr}{nss:List (List Int)}(d:Dp H os a as (.ls nss)):∀(k:Nat)(b:Addr)(ns:List Int),as[k]?=some b->nss[k]?=some ns->b∈os/\H b=some (.lst (ns.map V.int)):=AD.it d
structure To(A:Nat->List Addr)(env:DE)(σ:St)(H:Hp)(os:List Addr):Prop where
 dp:∀(i:Nat)(nss:Ct),env[i]?=some (.deep nss)->∃a as,A i=a::as/\σ[i]?=some (some (.ref a))/\Dp H os a as nss
 ow:∀(i:Nat)(nss:Ct)(j:Nat)(xs:List D)(b:Addr),env[i]?=some (.deep nss)->env[j]?=some (.own xs)->σ[j]?=some (some (.ref b))->b∉A i
 dj:∀(i j:Nat)(nss qp:Ct),i≠j->env[i]?=some (.deep nss)->env[j]?=some (.deep qp)->∀x∈A i,x∉A j
theorem To.mem {A:Nat->List Addr}{env:DE}{σ:St}{H:Hp}{os:List Addr}(d:To A env σ H os){i:Nat}{nss:Ct}(e:env[i]?=some (.deep nss)):∀x∈A i,x∈os/\∃o,H x=some o:=fun x hx=>by
 obtain⟨a,as,h1,_,h3⟩:=d.dp i nss e
 rw[h1]at hx
 exact h3.mem x hx
theorem To.to {A:Nat->List Addr}{env yz:DE}{σ σ':St}{H H':Hp}{os gO:List Addr}(d:To A env σ H os)
  (hd:∀(j:Nat)(nss:Ct),yz[j]?=some (.deep nss)->env[j]?=some (.deep nss)/\σ'[j]?=σ[j]?)
  (ho:∀(j:Nat)(xs:List D)(b:Addr),yz[j]?=some (.own xs)->σ'[j]?=some (some (.ref b))->(∃ys,env[j]?=some (.own ys)/\σ[j]?=some (some (.ref b)))\/b∉os)
  (hH:∀(i:Nat)(nss:Ct),env[i]?=some (.deep nss)->∀x∈A i,x∈gO/\H' x=H x):To A yz σ' H' gO where
 dp i nss e:=by
  obtain⟨e',q⟩:=hd i nss e
  obtain⟨a,as,h1,h2,h3⟩:=d.dp i nss e'
  exact⟨a,as,h1,by rw[q];exact h2,h3.to fun x hx=>hH i nss e' x (by rw[h1];exact hx)⟩
 ow i nss j xs b e1 e2 e3:=by
  obtain⟨F9,_⟩:=hd i nss e1
  rcases ho j xs b e2 e3 with⟨ys,q1,q2⟩|q
  ·exact d.ow i nss j ys b F9 q1 q2
  ·exact fun z=>q (d.mem F9 b z).1
 dj i j nss qp hij e1 e2:=d.dj i j nss qp hij (hd i nss e1).1 (hd j qp e2).1
def A0(env:DE)(σ:St)(H:Hp)(os:List Addr):Prop:=∃A,To A env σ H os
theorem A0.none {env:DE}{σ:St}{H:Hp}{os:List Addr}(h:∀(i:Nat)(nss:Ct),env[i]?≠some (.deep nss)):A0 env σ H os:=
 ⟨fun _=>[],fun i nss e=>(h i nss e).elim,fun i nss _ _ _ e=>(h i nss e).elim,fun i _ nss _ _ e=>(h i nss e).elim⟩
structure Rel(K:PySem.W.Frag)(g:Gh)(env:DE)(σ:St)(H:Hp)(os:List Addr):Prop where
 len:σ.length=env.length
 ext:aC g.H₀ H
 val:∀(i:Nat)(d:D),env[i]?=some (.val d)->∃v,σ[i]?=some (some v)/\Is K (g.P os) H d v
 own:∀(i:Nat)(xs:List D),env[i]?=some (.own xs)->∃a vs,σ[i]?=some (some (.ref a))/\a∈os/\H a=some (.lst vs)/\IsL K (g.P os) H xs vs
 inj:∀(i j:Nat)(xs ys:List D)(a:Addr),env[i]?=some (.own xs)->env[j]?=some (.own ys)->σ[i]?=some (some (.ref a))->σ[j]?=some (some (.ref a))->i=j
 new:∀a∈os,g.H₀ a=none/\∃o,H a=some o
 raw:∀(i:Nat)(v:V),env[i]?=some (.raw v)->σ[i]?=some (some v)
 Hk:A0 env σ H os
section
variable{K:PySem.W.Frag}{g:Gh}{env:DE}{σ:St}{H H':Hp}{os:List Addr}
theorem Rel.same (r:Rel K g env σ H os)(s:aC H H'):Rel K g env σ H' os:=
 ⟨r.len,r.ext.trans s,fun i d e=>let⟨v,h1,h2⟩:=r.val i d e;⟨v,h1,h2.same s⟩,
  fun i xs e=>let⟨a,vs,h1,h2,h3,h4⟩:=r.own i xs e;⟨a,vs,h1,h2,s a _ h3,h4.same s⟩,r.inj,fun a ha=>⟨(r.new a ha).1,let⟨o,h⟩:=(r.new a ha).2;⟨o,s a o h⟩⟩,r.raw,by
  obtain⟨A,d⟩:=r.Hk
  exact⟨A,d.to (fun j nss e=>⟨e,rfl⟩) (fun j xs b e q=>.inl ⟨xs,e,q⟩) fun i nss e x hx=>by
   obtain⟨q1,o,q2⟩:=d.mem e x hx
   exact⟨q1,by rw[s x o q2,q2]⟩⟩⟩
theorem Rel.fresh (r:Rel K g env σ H os){a:Addr}(h:H a=none):g.P os a:=by
 refine⟨.inr (r.ext.free h),fun hm=>?_⟩
 obtain⟨o,e⟩:=(r.new a hm).2
 rw[h]at e;cases e
theorem aF{p:Addr}(h:H p=none)(o:HO):aC H (upd H p o):=fun b u q=>by rw[ae (ao q h)];exact q
theorem Rel.set (r:Rel K g env σ H os)(i:Nat){d:D}{v:V}(h:Is K (g.P os) H d v):Rel K g (env.set i (.val d)) (σ.set i (some v)) H os:=by
 refine⟨by simp[r.len],r.ext,fun j d' e=>?_,fun j xs e=>?_,fun j k xs ys a e1 e2 e3 e4=>?_,r.new,fun j w e=>?_,?_⟩
 ·by_cases hj:i=j
  ·subst hj
   have hi:i<env.length:=by
    have:=(List.getElem?_eq_some_iff.mp e).1
    simpa using this
   rw[getElem?_set_self hi]at e
   cases e
   exact⟨v,by rw[getElem?_set_self (by rw[r.len];exact hi)],h⟩
  ·rw[getElem?_set_ne hj]at e
   obtain⟨v',h1,h2⟩:=r.val j d' e
   exact⟨v',by rw[getElem?_set_ne hj];exact h1,h2⟩
 ·by_cases hj:i=j
  ·subst hj
   have hi:i<env.length:=by
    have:=(List.getElem?_eq_some_iff.mp e).1
    simpa using this
   rw[getElem?_set_self hi]at e
   cases e
  ·rw[getElem?_set_ne hj]at e
   obtain⟨a,vs,h1,h2⟩:=r.own j xs e
   exact⟨a,vs,by rw[getElem?_set_ne hj];exact h1,h2⟩
 ·have f:∀(j:Nat)(xs:List D),(env.set i (Sl.val d))[j]?=some (.own xs)->i≠j:=fun j xs e hj=>by
   subst hj
   have hi:i<env.length:=by
    have:=(List.getElem?_eq_some_iff.mp e).1
    simpa using this
   rw[getElem?_set_self hi]at e
   cases e
  have hj:=f j xs e1
  have hk:=f k ys e2
  rw[getElem?_set_ne hj]at e1 e3
  rw[getElem?_set_ne hk]at e2 e4
  exact r.inj j k xs ys a e1 e2 e3 e4
 ·by_cases hj:i=j
  ·subst hj
   have hi:i<env.length:=by
    have:=(List.getElem?_eq_some_iff.mp e).1
    simpa using this
   rw[getElem?_set_self hi]at e
   cases e
  ·rw[getElem?_set_ne hj]at e⊢
   exact r.raw j w e
 ·obtain⟨A,dd⟩:=r.Hk
  have f:∀(j:Nat)(sl:Sl),(env.set i (Sl.val d))[j]?=some sl->(∀d',sl≠.val d')->i≠j/\env[j]?=some sl:=fun j sl q hn=>by
   by_cases hj:i=j
   ·subst hj
    have hi:i<env.length:=by
     have:=(List.getElem?_eq_some_iff.mp q).1
     simpa using this
    rw[getElem?_set_self hi]at q
    exact(hn d (Option.some.inj q).symm).elim
   ·rw[getElem?_set_ne hj]at q
    exact⟨hj,q⟩
  refine⟨A,dd.to (fun j nss q=>?_) (fun j xs b q z=>?_) fun j nss q x hx=>⟨(dd.mem q x hx).1,rfl⟩⟩
  ·obtain⟨hj,q⟩:=f j _ q (fun _ z=>nomatch z)
   exact⟨q,by rw[getElem?_set_ne hj]⟩
  ·obtain⟨hj,q⟩:=f j _ q (fun _ z=>nomatch z)
   rw[getElem?_set_ne hj]at z
   exact .inl ⟨xs,q,z⟩
theorem Rel.apart (r:Rel K g env σ H os){a:Addr}(s:aC H H')(hn:H a=none):Ext (g.P os) (g.P (a::os)) H H':=
 ⟨fun b o p e=>⟨p.1,fun hm=>by
  rcases mem_cons.mp hm with z|z
  ·rw[z,hn]at e;cases e
  ·exact p.2 z⟩,fun b o _ e=>s b o e⟩
theorem aZ{α:Type}{l:List α}{i:Nat}{x y:α}(e:(l.set i x)[i]?=some y):y=x:=by
 have hi:i<l.length:=by
  have:=(List.getElem?_eq_some_iff.mp e).1
  simpa using this
 rw[getElem?_set_self hi]at e
 cases e;rfl
theorem za{α:Type}{l:List α}{i j:Nat}{x y:α}(e:(l.set i x)[j]?=some y):j<l.length:=by
 have:=(List.getElem?_eq_some_iff.mp e).1
 simpa using this
theorem Rel.Zn (r:Rel K g env σ H os)(s:aC H H')(i:Nat){xs:List D}{vs:List V}{a:Addr}(hn:H a=none)(hH:H' a=some (.lst vs))(h:IsL K (g.P (a::os)) H' xs vs):
  Rel K g (env.set i (.own xs)) (σ.set i (some (.ref a))) H' (a::os):=by
 have ap:=r.apart s hn
 have old:∀(j:Nat)(ys:List D),env[j]?=some (.own ys)->σ[j]?=some (some (.ref a))->False:=fun j ys e q=>by
  obtain⟨b,ws,h1,h2,h3,_⟩:=r.own j ys e
  rw[q]at h1
  cases h1
  rw[hn]at h3;cases h3
 refine⟨by simp[r.len],r.ext.trans s,fun j d' e=>?_,fun j ys e=>?_,fun j k ys zs b e1 e2 e3 e4=>?_,fun b hb=>?_,fun j w e=>?_,?_⟩
 ·by_cases hj:i=j
  ·subst hj
   exact nomatch aZ e
  ·rw[getElem?_set_ne hj]at e
   obtain⟨v,h1,h2⟩:=r.val j d' e
   exact⟨v,by rw[getElem?_set_ne hj];exact h1,Is.ext ap _ _ h2⟩
 ·by_cases hj:i=j
  ·subst hj
   have hi:=za e
   have e':=aZ e
   cases e'
   exact⟨a,vs,by rw[getElem?_set_self (by rw[r.len];exact hi)],by simp,hH,h⟩
  ·rw[getElem?_set_ne hj]at e
   obtain⟨b,ws,h1,h2,h3,h4⟩:=r.own j ys e
   exact⟨b,ws,by rw[getElem?_set_ne hj];exact h1,mem_cons_of_mem _ h2,s _ _ h3,IsL.ext ap _ _ h4⟩
 ·by_cases hj:i=j
  ·subst hj
   by_cases hk:i=k
   ·exact hk
   ·have e3':=aZ e3
    cases e3'
    rw[getElem?_set_ne hk]at e2 e4
    exact(old k zs e2 e4).elim
  ·by_cases hk:i=k
   ·subst hk
    have e4':=aZ e4
    cases e4'
    rw[getElem?_set_ne hj]at e1 e3
    exact(old j ys e1 e3).elim
   ·rw[getElem?_set_ne hj]at e1 e3
    rw[getElem?_set_ne hk]at e2 e4
    exact r.inj j k ys zs b e1 e2 e3 e4
 ·rcases mem_cons.mp hb with rfl|hb
  ·exact⟨r.ext.free hn,_,hH⟩
  ·obtain⟨h1,o,h2⟩:=r.new b hb
   exact⟨h1,o,s _ _ h2⟩
 ·by_cases hj:i=j
  ·subst hj
   exact nomatch aZ e
  ·rw[getElem?_set_ne hj]at e⊢
   exact r.raw j w e
 ·obtain⟨A,dd⟩:=r.Hk
  have f:∀(j:Nat)(sl:Sl),(env.set i (Sl.own xs))[j]?=some sl->i≠j->env[j]?=some sl:=fun j sl q hj=>by
   rwa [getElem?_set_ne hj]at q
  refine⟨A,dd.to (fun j nss q=>?_) (fun j ys b q z=>?_) fun j nss q x hx=>?_⟩
  ·by_cases hj:i=j
   ·subst hj
    exact nomatch aZ q
   ·exact⟨f j _ q hj,by rw[getElem?_set_ne hj]⟩
  ·by_cases hj:i=j
   ·subst hj
    have z':=aZ z
    cases z'
    exact .inr fun hm=>by
     obtain⟨o,ho⟩:=(r.new a hm).2
     rw[hn]at ho
     cases ho
   ·rw[getElem?_set_ne hj]at z
    exact .inl ⟨ys,f j _ q hj,z⟩
  ·obtain⟨q1,o,q2⟩:=dd.mem q x hx
   exact⟨mem_cons_of_mem _ q1,by rw[s x o q2,q2]⟩
theorem Rel.mut (r:Rel K g env σ H os){i:Nat}{xs Zo:List D}{AE:List V}{a:Addr}(e:env[i]?=some (.own xs))(hσ:σ[i]?=some (some (.ref a)))(ha:a∈os)(h:IsL K (g.P os) H Zo AE):
  Rel K g (env.set i (.own Zo)) σ (upd H a (.lst AE)) os:=by
 have ex:Ext (g.P os) (g.P os) H (upd H a (.lst AE)):=⟨fun _ _ p _=>p,fun b o p q=>by rw[ae (fun z=>p.2 (by rw[z];exact ha))];exact q⟩
 refine⟨by simp[r.len],fun b o q=>?_,fun j d' e'=>?_,fun j ys e'=>?_,fun j k ys zs b e1 e2 e3 e4=>?_,fun b hb=>?_,fun j w e'=>?_,?_⟩
 ·rw[ae (fun z=>by rw[z,(r.new a ha).1]at q;cases q)]
  exact r.ext b o q
 ·by_cases hj:i=j
  ·subst hj
   exact nomatch aZ e'
  ·rw[getElem?_set_ne hj]at e'
   obtain⟨v,h1,h2⟩:=r.val j d' e'
   exact⟨v,h1,Is.ext ex _ _ h2⟩
 ·by_cases hj:i=j
  ·subst hj
   have e2:=aZ e'
   cases e2
   exact⟨a,AE,hσ,ha,ak,IsL.ext ex _ _ h⟩
  ·rw[getElem?_set_ne hj]at e'
   obtain⟨b,ws,h1,h2,h3,h4⟩:=r.own j ys e'
   have hb:b≠a:=fun z=>by
    subst z
    exact hj (r.inj i j xs ys b e e' hσ h1)
   exact⟨b,ws,h1,h2,by rw[ae hb];exact h3,IsL.ext ex _ _ h4⟩
 ·have f:∀(j:Nat)(ys:List D),(env.set i (Sl.own Zo))[j]?=some (.own ys)->∃ys',env[j]?=some (.own ys'):=fun j ys q=>by
   by_cases hj:i=j
   ·subst hj;exact⟨xs,e⟩
   ·rw[getElem?_set_ne hj]at q;exact⟨ys,q⟩
  obtain⟨y1,f1⟩:=f j ys e1
  obtain⟨y2,f2⟩:=f k zs e2
  exact r.inj j k y1 y2 b f1 f2 e3 e4
 ·obtain⟨h1,o,h2⟩:=r.new b hb
  refine⟨h1,?_⟩
  by_cases z:b=a
  ·exact⟨_,by rw[z];exact ak⟩
  ·exact⟨o,by rw[ae z];exact h2⟩
 ·by_cases hj:i=j
  ·subst hj
   exact nomatch aZ e'
  ·rw[getElem?_set_ne hj]at e'
   exact r.raw j w e'
 ·obtain⟨A,dd⟩:=r.Hk
  refine⟨A,dd.to (fun j nss q=>?_) (fun j ys b q z=>?_) fun j nss q x hx=>⟨(dd.mem q x hx).1,?_⟩⟩
  ·by_cases hj:i=j
   ·subst hj
    exact nomatch aZ q
   ·rw[getElem?_set_ne hj]at q
    exact⟨q,rfl⟩
  ·by_cases hj:i=j
   ·subst hj
    exact .inl ⟨xs,e,z⟩
   ·rw[getElem?_set_ne hj]at q
    exact .inl ⟨ys,q,z⟩
  ·have hxa:x≠a:=fun z=>dd.ow j nss i xs a q e hσ (by rw[<-z];exact hx)
   rw[ae hxa]
end
section
variable(K:PySem.W.Frag)(E:Str->Hp->Prop)
def tD(f:DE->R D):TE:=fun σ H Q=>∃g env os,Rel K g env σ H os/\Good E g.H₀ (f env) fun d=>∀v H',aC H H'->Is K (g.P os) H' d v->Q v H'
def tB(f:DE->R D):TE:=fun σ H Q=>∃g env os,Rel K g env σ H os/\Good E g.H₀ (f env) fun d=>∀v H',aC H H'->Is K (fun _=>True) H' d v->Q v H'
def tF(f:DE->R (List D)):TE:=fun σ H Q=>∃g env os,Rel K g env σ H os/\Good E g.H₀ (f env) fun xs=>∀a vs H',aC H H'->H a=none->H' a=some (.lst vs)->IsL K (g.P (a::os)) H' xs vs->Q (.ref a) H'
def tL(f:DE->R (List D)):TE:=fun σ H Q=>∃g env os,Rel K g env σ H os/\Good E g.H₀ (f env) fun xs=>∀a vs H',aC H H'->cV K H' a vs->IsL K (g.P os) H' xs vs->Q (.ref a) H'
def tT(f:DE->R Bool):TT:=fun σ H Q=>∃g env os,Rel K g env σ H os/\Good E g.H₀ (f env) fun b=>∀H',aC H H'->Q b H'
def Ga(f:DE->R (List D)):TA:=fun σ H Q=>∃g env os,Rel K g env σ H os/\Good E g.H₀ (f env) fun ds=>∀vs H',aC H H'->IsL K (g.P os) H' ds vs->Q vs H'
def qo(f:DE->R (List D)):TA:=fun σ H Q=>∃g env os,Rel K g env σ H os/\Good E g.H₀ (f env) fun ds=>∀vs H',aC H H'->IsL K (fun _=>True) H' ds vs->Q vs H'
end
inductive Out where
 |nx (e:DE)|bk (e:DE)|ct (e:DE)|rt (d:D)|oH (xs:List D)|AF (nss:List (List Int))|D6 (nss:List (List Int))|Gb (q:Int×List Int)|Gd (c:Ct)
structure rB(H:Hp)(os:List Addr)(H':Hp)(gO:List Addr):Prop where
 own:∀a∈gO,a∈os\/H a=none
 grow:∀a,H' a=none->H a=none
 keep:∀a o,a∉os->H a=some o->H' a=some o
theorem rB.refl (H:Hp)(os:List Addr):rB H os H os:=⟨fun _ h=>.inl h,fun _ h=>h,fun _ _ _ h=>h⟩
theorem rB.same {H H':Hp}(s:aC H H')(os:List Addr):rB H os H' os:=⟨fun _ h=>.inl h,fun _ h=>s.free h,fun _ _ _ h=>s _ _ h⟩
theorem rB.trans {H H1 H2:Hp}{os U0 Tp:List Addr}(a:rB H os H1 U0)(b:rB H1 U0 H2 Tp):rB H os H2 Tp where
 own:=fun x h=>(b.own x h).elim (fun z=>a.own x z) fun z=>.inr (a.grow x z)
 grow:=fun x h=>a.grow x (b.grow x h)
 keep:=fun x o hn h=>b.keep x o (fun z=>(a.own x z).elim hn fun q=>by rw[h]at q;cases q) (a.keep x o hn h)
theorem rB.ext {g:Gh}{H H':Hp}{os gO:List Addr}(s:rB H os H' gO):Ext (g.P os) (g.P gO) H H':=
 ⟨fun a o p h=>⟨p.1,fun z=>(s.own a z).elim p.2 fun q=>by rw[h]at q;cases q⟩,fun a o p h=>s.keep a o p.2 h⟩
structure Ih(hd:List V->HO)(H₀ H:Hp)(a:Addr)(as:List Addr)(nss:List (List Int)):Prop where
 fr:∀b∈a::as,H₀ b=none
 nd:(a::as).Nodup
 len:as.length=nss.length
 ha:H a=some (hd (as.map V.ref))
 it:∀(k:Nat)(b:Addr)(ns:List Int),as[k]?=some b->nss[k]?=some ns->H b=some (.lst (ns.map V.int))
theorem Ih.back {hd:List V->HO}{H₀ H1 H:Hp}{a:Addr}{as:List Addr}{nss:List (List Int)}(d:Ih hd H1 H a as nss)(s:aC H₀ H1):Ih hd H₀ H a as nss:=⟨fun b hb=>s.free (d.fr b hb),d.nd,d.len,d.ha,d.it⟩
abbrev Q6:=Ih HO.lst
abbrev Zp:=Ih HO.tup
structure Zq(H₀ H:Hp)(a b:Addr)(q:Int×List Int):Prop where
 fa:H₀ a=none
 fb:H₀ b=none
 ne:a≠b
 ha:H a=some (.tup [.int q.1,.ref b])
 hb:H b=some (.lst (q.2.map V.int))
def Zr(H₀ H:Hp)(a:Addr)(c:Ct):Prop:=∃as,(∀x∈a::as,H₀ x=none)/\Dp H (a::as) a as c
def dW(K:PySem.W.Frag)(g:Gh)(H:Hp)(os:List Addr)(De:Ends):Out->Prop
 |.nx e=>∀σ' H' gO,Rel K g e σ' H' gO->rB H os H' gO->De.nx σ' H'
 |.bk e=>∀σ' H' gO,Rel K g e σ' H' gO->rB H os H' gO->De.bk σ' H'
 |.ct e=>∀σ' H' gO,Rel K g e σ' H' gO->rB H os H' gO->De.ct σ' H'
 |.rt d=>∀v H',aC g.H₀ H'->Is K (g.P []) H' d v->De.rt v H'
 |.oH xs=>∀a vs H',aC g.H₀ H'->g.H₀ a=none->H' a=some (.lst vs)->IsL K (g.P [a]) H' xs vs->De.rt (.ref a) H'
 |.D6 nss=>∀(a:Addr)(as:List Addr)(H':Hp),aC g.H₀ H'->Zp g.H₀ H' a as nss->De.rt (.ref a) H'
 |.Gb q=>∀(a b:Addr)(H':Hp),aC g.H₀ H'->Zq g.H₀ H' a b q->De.rt (.ref a) H'
 |.AF nss=>∀(a:Addr)(as:List Addr)(H':Hp),aC g.H₀ H'->Q6 g.H₀ H' a as nss->De.rt (.ref a) H'
 |.Gd c=>∀(a:Addr)(H':Hp),aC g.H₀ H'->Zr g.H₀ H' a c->De.rt (.ref a) H'
theorem dW.step {K:PySem.W.Frag}{g:Gh}{H H1:Hp}{os U0:List Addr}{De:Ends}(s:rB H os H1 U0):∀{o:Out},dW K g H os De o->dW K g H1 U0 De o
 |.nx e,h=>fun σ' H' gO r z=>h σ' H' gO r (s.trans z)
 |.bk e,h=>fun σ' H' gO r z=>h σ' H' gO r (s.trans z)
 |.ct e,h=>fun σ' H' gO r z=>h σ' H' gO r (s.trans z)
 |.rt d,h=>h
 |.oH xs,h=>h
 |.D6 xs,h=>h
 |.Gb xs,h=>h
 |.AF xs,h=>h
 |.Gd xs,h=>h
def tS(K:PySem.W.Frag)(E:Str->Hp->Prop)(f:DE->R Out):TS:=fun De σ H=>∃g env os,Rel K g env σ H os/\Good E g.H₀ (f env) (dW K g H os De)
section
variable{X:Cx}{E:Str->Hp->Prop}{pos:Pos}
theorem imp{e:Expr}{t t':TE}(h:PE X e t)(w:∀σ H Q,t' σ H Q->t σ H Q):PE X e t':=fun pins s σ H Q I q=>h pins s σ H Q I (w σ H Q q)
theorem L8{e:Expr}{t t':TT}(h:PT X e t)(w:∀σ H Q,t' σ H Q->t σ H Q):PT X e t':=fun pins s σ H Q I q=>h pins s σ H Q I (w σ H Q q)
theorem U1{e:Expr}{t t':TT}(h:PW X e t)(w:∀σ H Q,t' σ H Q->t σ H Q):PW X e t':=fun wh pins s σ H Q I q=>h wh pins s σ H Q I (w σ H Q q)
theorem Ii{e:List Expr}{t t':TA}(h:PA X e t)(w:∀σ H Q,t' σ H Q->t σ H Q):PA X e t':=fun pos pins s σ H Q I q=>h pos pins s σ H Q I (w σ H Q q)
theorem oi{e:Stmt}{t t':TS}(h:PS X e t)(w:∀De σ H,t' De σ H->t De σ H):PS X e t':=fun pins s σ H Q I q=>h pins s σ H Q I (w Q σ H q)
theorem Oh{e:List Stmt}{t t':TS}(h:nA X e t)(w:∀De σ H,t' De σ H->t De σ H):nA X e t':=fun pins s σ H Q I q=>h pins s σ H Q I (w Q σ H q)
def ck(i:Nat)(env:DE):R D:=match env[i]? with
 |some (.val d)=>.ok d
 |_=>.bad
def dT(t:L7):D:=.tup [.int t.1,.int t.2.1,.lst (t.2.2.map .int)]
def br(i:Nat)(env:DE):R D:=match env[i]? with
 |some (.val d)=>.ok d
 |some (.own xs)=>.ok (.lst xs)
 |some (.deep (.ls nss))=>.ok (.lst (nss.map fun ns=>.lst (ns.map .int)))
 |some (.deep (.tp nss))=>.ok (.tup (nss.map fun ns=>.lst (ns.map .int)))
 |some (.deep (.tq n ns))=>.ok (.tup [.int n,.lst (ns.map .int)])
 |some (.deep (.tr ts))=>.ok (.lst (ts.map dT))
 |_=>.bad
theorem bW{K:PySem.W.Frag}{P:Addr->Prop}{H:Hp}:∀(ns:List Int),IsL K P H (ns.map D.int) (ns.map V.int)
 |[]=>rfl
 |n::ns=>⟨_,_,rfl,rfl,bW ns⟩
theorem wD{K:PySem.W.Frag}{H:Hp}{os:List Addr}:∀{as:List Addr}{nss:List (List Int)},as.length=nss.length->(∀(k:Nat)(b:Addr)(ns:List Int),as[k]?=some b->nss[k]?=some ns->b∈os/\H b=some (.lst (ns.map V.int)))->IsL K (fun _=>True) H (nss.map fun ns=>.lst (ns.map D.int)) (as.map V.ref)
 |[],[],_,_=>rfl
 |[],_::_,h,_=>by simp at h
 |_::_,[],h,_=>by simp at h
 |a::as,ns::nss,h,hi=>⟨_,_,rfl,⟨a,_,rfl,.inl ⟨trivial,.inl (hi 0 a ns rfl rfl).2⟩,bW ns⟩,wD (by simpa using h) fun k b ms e1 e2=>hi (k+1) b ms e1 e2⟩
theorem A5{K:PySem.W.Frag}{P:Addr->Prop}{H:Hp}{as:List Addr}(hp:∀x∈as,P x):∀{ts:List L7}{vs:List V},vs.length=ts.length->(∀(k:Nat)(t:L7)(v:V),ts[k]?=some t->vs[k]?=some v->UZ H as t v)->IsL K P H (ts.map dT) vs
 |[],[],_,_=>rfl
 |[],_::_,h,_=>by simp at h
 |_::_,[],h,_=>by simp at h
 |t::ts,v::vs,h,hi=>by
  obtain⟨b,c,rfl,h1,h2,h3,h4⟩:=hi 0 t v rfl rfl
  exact⟨_,_,rfl,⟨b,_,rfl,.inl ⟨hp b h1,.inl h3⟩,⟨_,_,rfl,rfl,⟨_,_,rfl,rfl,⟨_,_,rfl,⟨c,_,rfl,.inl ⟨hp c h2,.inl h4⟩,bW t.2.2⟩,rfl⟩⟩⟩⟩,A5 hp (by simpa using h) fun k t v e1 e2=>hi (k+1) t v e1 e2⟩
def tQ(i:Nat)(env:DE):R (List D):=match env[i]? with
 |some (.val (.lst xs))=>.ok xs
 |some (.own xs)=>.ok xs
 |_=>.bad
theorem nD(i:Nat){x:Str}(hN:X.N[i]?=some x:=by rfl)(hv:yV X.env.scope x:=by first|exact Or.inl rfl|exact Or.inr (Or.inl rfl)|exact Or.inr (Or.inr rfl))(hd:(x==("__debug__":Str))=false:=by decide)
  (hcd:(x==("__classdict__":Str))=false:=by decide):PE X (.Name x pos) (tD X.K E (ck i)):=imp (jk hN hv hd hcd) fun σ H Q ⟨g,env,os,r,m⟩=>by
 unfold ck at m
 cases e:env[i]? with
 |none=>rw[e]at m;exact m.elim
 |some sl=>
  cases sl with
  |no=>rw[e]at m;exact m.elim
  |raw _=>rw[e]at m;exact m.elim
  |deep _=>rw[e]at m;exact m.elim
  |own xs=>rw[e]at m;exact m.elim
  |val d=>
   rw[e]at m
   obtain⟨v,h1,h2⟩:=r.val i d e
   exact⟨v,h1,m v H (aC.refl H) h2⟩
theorem nB(i:Nat){x:Str}(hN:X.N[i]?=some x:=by rfl)(hv:yV X.env.scope x:=by first|exact Or.inl rfl|exact Or.inr (Or.inl rfl)|exact Or.inr (Or.inr rfl))(hd:(x==("__debug__":Str))=false:=by decide)
  (hcd:(x==("__classdict__":Str))=false:=by decide):PE X (.Name x pos) (tB X.K E (br i)):=imp (jk hN hv hd hcd) fun σ H Q ⟨g,env,os,r,m⟩=>by
 unfold br at m
 cases e:env[i]? with
 |none=>rw[e]at m;exact m.elim
 |some sl=>
  cases sl with
  |no=>rw[e]at m;exact m.elim
  |raw _=>rw[e]at m;exact m.elim
  |own xs=>
   rw[e]at m
   obtain⟨a,vs,h1,_,h3,h4⟩:=r.own i xs e
   exact⟨.ref a,h1,m _ H (aC.refl H) ⟨a,vs,rfl,.inl ⟨trivial,.inl h3⟩,h4.weak⟩⟩
  |deep c=>
   obtain⟨A,dd⟩:=r.Hk
   obtain⟨a,as,_,h1,h3⟩:=dd.dp i c e
   cases c with
   |ls nss=>
    rw[e]at m
    exact⟨.ref a,h1,m _ H (aC.refl H) ⟨a,_,rfl,.inl ⟨trivial,.inl h3.ha⟩,wD h3.len h3.it⟩⟩
   |tp nss=>
    rw[e]at m
    have h4:AD HO.tup H os a as nss:=h3
    exact⟨.ref a,h1,m _ H (aC.refl H) ⟨a,_,rfl,.inl ⟨trivial,.inl h4.ha⟩,wD h4.len h4.it⟩⟩
   |dk ks=>rw[e]at m;exact m.elim
   |tq n ns=>
    rw[e]at m
    obtain⟨b,_,_,_,_,h4,h5⟩:=h3
    exact⟨.ref a,h1,m _ H (aC.refl H) ⟨a,_,rfl,.inl ⟨trivial,.inl h4⟩,⟨_,_,rfl,rfl,⟨_,_,rfl,⟨b,_,rfl,.inl ⟨trivial,.inl h5⟩,bW ns⟩,rfl⟩⟩⟩⟩
   |tr ts=>
    rw[e]at m
    have h4:Q5 H os a as ts:=h3
    obtain⟨vs,q1,q2,q3⟩:=h4.at_
    exact⟨.ref a,h1,m _ H (aC.refl H) ⟨a,_,rfl,.inl ⟨trivial,.inl q1⟩,A5 (fun _ _=>trivial) q2 q3⟩⟩
  |val d=>
   rw[e]at m
   obtain⟨v,h1,h2⟩:=r.val i d e
   exact⟨v,h1,m v H (aC.refl H) h2.weak⟩
theorem nL(i:Nat){x:Str}(hN:X.N[i]?=some x:=by rfl)(hv:yV X.env.scope x:=by first|exact Or.inl rfl|exact Or.inr (Or.inl rfl)|exact Or.inr (Or.inr rfl))(hd:(x==("__debug__":Str))=false:=by decide)
  (hcd:(x==("__classdict__":Str))=false:=by decide):PE X (.Name x pos) (tL X.K E (tQ i)):=imp (jk hN hv hd hcd) fun σ H Q ⟨g,env,os,r,m⟩=>by
 unfold tQ at m
 cases e:env[i]? with
 |none=>rw[e]at m;exact m.elim
 |some sl=>
  cases sl with
  |no=>rw[e]at m;exact m.elim
  |raw _=>rw[e]at m;exact m.elim
  |deep _=>rw[e]at m;exact m.elim
  |own xs=>
   rw[e]at m
   obtain⟨a,vs,h1,_,h3,h4⟩:=r.own i xs e
   exact⟨.ref a,h1,m _ _ H (aC.refl H) (cV.of h3) h4⟩
  |val d=>
   cases d with
   |lst xs=>
    rw[e]at m
    obtain⟨v,h1,a,vs,rfl,h3,h4⟩:=r.val i _ e
    exact⟨_,h1,m _ _ H (aC.refl H) h3.sq h4⟩
   |non=>rw[e]at m;exact m.elim
   |bl _=>rw[e]at m;exact m.elim
   |int _=>rw[e]at m;exact m.elim
   |str _=>rw[e]at m;exact m.elim
   |exc _=>rw[e]at m;exact m.elim
   |fn _=>rw[e]at m;exact m.elim
   |tup _=>rw[e]at m;exact m.elim
theorem cI{i j}:PE X (.Constant (.int i) j pos) (tD X.K E fun _=>.ok (.int i)):=imp gK fun σ H Q ⟨g,env,os,r,m⟩=>m _ H (aC.refl H) rfl
theorem XW{i j}:PE X (.Constant (.bool i) j pos) (tD X.K E fun _=>.ok (.bl i)):=imp Ug fun σ H Q ⟨g,env,os,r,m⟩=>m _ H (aC.refl H) rfl
theorem cN{j}:PE X (.Constant .none j pos) (tD X.K E fun _=>.ok .non):=imp Hv fun σ H Q ⟨g,env,os,r,m⟩=>m _ H (aC.refl H) rfl
theorem cS{i j}:PE X (.Constant (.str i) j pos) (tD X.K E fun _=>.ok (.str i)):=imp Hw fun σ H Q ⟨g,env,os,r,m⟩=>m _ H (aC.refl H) rfl
theorem PE.aD {e:Expr}{f:DE->R D}(h:PE X e (tD X.K E f)):PE X e (tB X.K E f):=imp h fun σ H Q ⟨g,env,os,r,m⟩=>⟨g,env,os,r,m.mono fun d _ q v H' s i=>q v H' s i.weak⟩
theorem PE.jz {e:Expr}{f:DE->R (List D)}(h:PE X e (tF X.K E f)):PE X e (tD X.K E fun env=>(f env).bind fun xs=>.ok (.lst xs)):=imp h fun σ H Q ⟨g,env,os,r,m⟩=>⟨g,env,os,r,m.bind.mono fun d _ q a vs H' s hn hH i=>by
 refine q _ H' s ⟨a,vs,rfl,.inl ⟨r.fresh hn,.inl hH⟩,IsL.ext ⟨fun b o p _=>⟨p.1,fun z=>p.2 (mem_cons_of_mem _ z)⟩,fun _ _ _ q=>q⟩ _ _ i⟩⟩
theorem PE.rC {e:Expr}{f:DE->R (List D)}(h:PE X e (tF X.K E f)):PE X e (tL X.K E f):=imp h fun σ H Q ⟨g,env,os,r,m⟩=>⟨g,env,os,r,m.mono fun d _ q a vs H' s hn hH i=>
 q _ vs H' s (cV.of hH) (IsL.ext ⟨fun b o p _=>⟨p.1,fun z=>p.2 (mem_cons_of_mem _ z)⟩,fun _ _ _ q=>q⟩ _ _ i)⟩
def uU:D->R (List D)
 |.lst xs=>.ok xs
 |_=>.bad
theorem PE.Zs {e:Expr}{f:DE->R D}(h:PE X e (tD X.K E f)):PE X e (tL X.K E fun env=>(f env).bind uU):=imp h fun σ H Q ⟨g,env,os,r,m⟩=>⟨g,env,os,r,m.bind.mono fun d _ q v H' s i=>by
 cases d with
 |lst xs=>
  obtain⟨a,vs,rfl,h3,h4⟩:=i
  exact q a vs H' s h3.sq h4
 |non=>exact q.elim
 |bl _=>exact q.elim
 |int _=>exact q.elim
 |str _=>exact q.elim
 |exc _=>exact q.elim
 |fn _=>exact q.elim
 |tup _=>exact q.elim⟩
abbrev Tr:Addr->Prop:=fun _=>True
def om(X:Cx)(r:R2)(k:D->D->Option D):Prop:=∀x y d,k x y=some d->∃z,toV d=some z/\∀H v w (Q:VK),Is X.K Tr H x v->Is X.K Tr H y w->Q z H->r v w H Q
theorem aW{op:Operator}{r:R2}{a b:Expr}{fa fb:DE->R D}{k:D->D->Option D}(ho:tP X (binaryOp op) r)(hk:om X r k)(ha:PE X a (tB X.K E fa))(hb:PE X b (tB X.K E fb)):
  PE X (.BinOp a op b pos) (tD X.K E fun env=>(fa env).bind fun x=>(fb env).bind fun y=>R.of (k x y)):=
 imp (rh ho ha hb) fun σ H Q ⟨g,env,os,r,m⟩=>⟨g,env,os,r,m.bind.mono fun x _ m1 v H1 s1 i1=>⟨g,env,os,r.same s1,m1.bind.mono fun y _ m2 w H2 s2 i2=>by
  obtain⟨d,e,q⟩:=m2.of
  obtain⟨z,hz,hk⟩:=hk x y d e
  exact hk H2 v w Q (i1.same s2) i2 (q z H2 (s1.trans s2) (Is.sc hz))⟩⟩
theorem Ge{op:CmpOp}{r:R2}{a b:Expr}{fa fb:DE->R D}{k:D->D->Option D}(ho:tP X (compareOp op) r)(hk:om X r k)(ha:PE X a (tB X.K E fa))(hb:PE X b (tB X.K E fb))(hm:behindInMarks op b=false):
  PE X (.Compare a [op] [b] pos) (tD X.K E fun env=>(fa env).bind fun x=>(fb env).bind fun y=>R.of (k x y)):=
 imp (LP ho ha hb hm) fun σ H Q ⟨g,env,os,r,m⟩=>⟨g,env,os,r,m.bind.mono fun x _ m1 v H1 s1 i1=>⟨g,env,os,r.same s1,m1.bind.mono fun y _ m2 w H2 s2 i2=>by
  obtain⟨d,e,q⟩:=m2.of
  obtain⟨z,hz,hk⟩:=hk x y d e
  exact hk H2 v w Q (i1.same s2) i2 (q z H2 (s1.trans s2) (Is.sc hz))⟩⟩
def mr:D->R Bool
 |.bl b=>.ok b
 |_=>.bad
theorem cX{op:CmpOp}{r:R2}{a b:Expr}{fa fb:DE->R D}{k:D->D->Option D}(ho:tP X (compareOp op) r)(hk:om X r k)(ha:PE X a (tB X.K E fa))(hb:PE X b (tB X.K E fb))(hm:behindInMarks op b=false):
  PT X (.Compare a [op] [b] pos) (tT X.K E fun env=>(fa env).bind fun x=>(fb env).bind fun y=>(R.of (k x y)).bind mr):=
 L8 (iK ho ha hb hm) fun σ H Q ⟨g,env,os,r,m⟩=>⟨g,env,os,r,m.bind.mono fun x _ m1 v H1 s1 i1=>⟨g,env,os,r.same s1,m1.bind.mono fun y _ m2 w H2 s2 i2=>by
  obtain⟨d,e,q⟩:=m2.bind.of
  obtain⟨z,hz,hk⟩:=hk x y d e
  refine hk H2 v w _ (i1.same s2) i2 ?_
  cases d with
  |bl b=>
   cases hz
   exact⟨b,rfl,q H2 (s1.trans s2)⟩
  |non=>exact q.elim
  |lst _=>exact q.elim
  |int _=>exact q.elim
  |str _=>exact q.elim
  |exc _=>exact q.elim
  |fn _=>exact q.elim
  |tup _=>exact q.elim⟩⟩
def U3(X:Cx)(r:V->Hp->VK->Prop)(k:D->Option D):Prop:=∀x d,k x=some d->∃z,toV d=some z/\∀H v (Q:VK),Is X.K Tr H x v->Q z H->r v H Q
theorem Le{op:UnaryOp}{r:V->Hp->VK->Prop}{a:Expr}{fa:DE->R D}{k:D->Option D}(ho:Ut X (unaryOp op) r)(hk:U3 X r k)(ha:PE X a (tB X.K E fa)):
  PE X (.UnaryOp op a pos) (tD X.K E fun env=>(fa env).bind fun x=>R.of (k x)):=
 imp (DW ho ha) fun σ H Q ⟨g,env,os,r,m⟩=>⟨g,env,os,r,m.bind.mono fun x _ m1 v H1 s1 i1=>by
  obtain⟨d,e,q⟩:=m1.of
  obtain⟨z,hz,hk⟩:=hk x d e
  exact hk H1 v Q i1 (q z H1 s1 (Is.sc hz))⟩
def mG:D->D->Option D
 |.int i,.int j=>some (.int (i-j))
 |_,_=>none
def Gf:D->D->Option D
 |.int i,.int j=> @ite _ ((-(2^64)<i/\i<2^64)\/(-(2^64)<j/\j<2^64)) (propDecidable _) (some (.int (i*j))) (none)
 |_,_=>none
def ud:D->D->Option D
 |.int i,.int j=> @ite _ (0<j/\j<1073741824) (propDecidable _) (some (.int (i/j))) (none)
 |_,_=>none
def mH:D->D->Option D
 |.int i,.int j=> @ite _ (0<j) (propDecidable _) (some (.int (i%j))) (none)
 |_,_=>none
def Ij:D->D->Option D
 |.int i,.int j=> @ite _ (0<=j/\j<=1000000/\i.natAbs<2^64) (propDecidable _) (some (.int (i^j.toNat))) (none)
 |_,_=>none
def ue:D->Option D
 |.int i=>some (.int (-i))
 |_=>none
def Oi:D->D->Option D
 |.int i,.int j=>some (.bl (decide (i<j)))
 |_,_=>none
def kLe:D->D->Option D
 |.int i,.int j=>some (.bl (decide (i<=j)))
 |_,_=>none
def Gg:D->D->Option D
 |.int i,.int j=>some (.bl (decide (j<i)))
 |_,_=>none
def kGe:D->D->Option D
 |.int i,.int j=>some (.bl (decide (j<=i)))
 |_,_=>none
theorem rD{g:Int->Int->V}{h:Int->Int->D}{k:D->D->Option D}(hg:∀i j,toV (h i j)=some (g i j))(hk:∀x y d,k x y=some d->∃i j,x=.int i/\y=.int j/\d=h i j):om X (Hi g) k:=fun x y d e=>by
 obtain⟨i,j,rfl,rfl,rfl⟩:=hk x y d e
 refine⟨g i j,hg i j,fun H v w Q h1 h2 q=>⟨i,j,h1,h2,q⟩⟩
theorem rE{C:Int->Int->Prop}{g:Int->Int->V}{h:Int->Int->D}{k:D->D->Option D}(hg:∀i j,toV (h i j)=some (g i j))(hk:∀x y d,k x y=some d->∃i j,x=.int i/\y=.int j/\C i j/\d=h i j):om X (rI C g) k:=fun x y d e=>by
 obtain⟨i,j,rfl,rfl,c,rfl⟩:=hk x y d e
 refine⟨g i j,hg i j,fun H v w Q h1 h2 q=>⟨i,j,h1,h2,c,q⟩⟩
theorem cZ:om X (Hi fun i j=>.int (i-j)) mG:=rD (h:=fun i j=>.int (i-j)) (fun _ _=>rfl) fun x y d e=>by
 unfold mG at e
 split at e<;>cases e
 exact⟨_,_,rfl,rfl,rfl⟩
theorem wF:om X (Hi fun i j=>.bl (decide (i<j))) Oi:=rD (h:=fun i j=>.bl (decide (i<j))) (fun _ _=>rfl) fun x y d e=>by
 unfold Oi at e
 split at e<;>cases e
 exact⟨_,_,rfl,rfl,rfl⟩
theorem kU:om X (Hi fun i j=>.bl (decide (j<i))) Gg:=rD (h:=fun i j=>.bl (decide (j<i))) (fun _ _=>rfl) fun x y d e=>by
 unfold Gg at e
 split at e<;>cases e
 exact⟨_,_,rfl,rfl,rfl⟩
theorem zN:om X (rI LL fun i j=>.int (i*j)) Gf:=rE (h:=fun i j=>.int (i*j)) (fun _ _=>rfl) fun x y d e=>by
 unfold Gf at e
 split at e
 ·split at e
  ·rename_i i j c
   cases e
   exact⟨i,j,rfl,rfl,c,rfl⟩
  ·cases e
 ·cases e
theorem kr:om X (rI Ux fun i j=>.int (i/j)) ud:=rE (h:=fun i j=>.int (i/j)) (fun _ _=>rfl) fun x y d e=>by
 unfold ud at e
 split at e
 ·split at e
  ·rename_i i j c
   cases e
   exact⟨i,j,rfl,rfl,c,rfl⟩
  ·cases e
 ·cases e
theorem dX:om X (rI (fun _ j=>0<j) fun i j=>.int (i%j)) mH:=rE (h:=fun i j=>.int (i%j)) (fun _ _=>rfl) fun x y d e=>by
 unfold mH at e
 split at e
 ·split at e
  ·rename_i i j c
   cases e
   exact⟨i,j,rfl,rfl,c,rfl⟩
  ·cases e
 ·cases e
theorem L9:om X (rI FW fun i j=>.int (i^j.toNat)) Ij:=rE (h:=fun i j=>.int (i^j.toNat)) (fun _ _=>rfl) fun x y d e=>by
 unfold Ij at e
 split at e
 ·split at e
  ·rename_i i j c
   cases e
   exact⟨i,j,rfl,rfl,c,rfl⟩
  ·cases e
 ·cases e
theorem iP:U3 X (rU fun i=>.int (-i)) ue:=fun x d e=>by
 unfold ue at e
 split at e<;>cases e
 exact⟨_,rfl,fun H v Q h1 q=>⟨_,h1,q⟩⟩
theorem A6{a:Expr}{f:DE->R Bool}(h:PT X a (tT X.K E f)):PT X (.UnaryOp .Not a pos) (tT X.K E fun env=>(f env).bind fun b=>.ok (!b)):=
 L8 (QA h) fun σ H Q ⟨g,env,os,r,m⟩=>⟨g,env,os,r,m.bind.mono fun b _ q H' s=>q H' s⟩
theorem D7{a:Expr}{f:DE->R Bool}(h:PT X a (tT X.K E f)):PW X (.BoolOp .And [a] pos) (tT X.K E f):=pw_and1 h
theorem Gi{a:Expr}{f:DE->R Bool}(h:PT X a (tT X.K E f)):PW X (.BoolOp .Or [a] pos) (tT X.K E f):=pw_or1 h
theorem D8{a b:Expr}{rest:List Expr}{f k:DE->R Bool}(h:PT X a (tT X.K E f))(h2:PW X (.BoolOp .And (b::rest) pos) (tT X.K E k)):PW X (.BoolOp .And (a::b::rest) pos) (tT X.K E fun env=>(f env).bind fun t=>if t=true then k env else .ok false):=
 U1 (pw_and h h2) fun σ H Q ⟨g,env,os,r,m⟩=>⟨g,env,os,r,m.bind.mono fun t _ q H' s=>by
  cases t with
  |true=>exact⟨g,env,os,r.same s,Good.mono (show Good E g.H₀ (k env) _ from q) fun b _ q2 H2 s2=>q2 H2 (s.trans s2)⟩
  |false=>exact q H' s⟩
theorem A7{a b:Expr}{rest:List Expr}{f k:DE->R Bool}(h:PT X a (tT X.K E f))(h2:PW X (.BoolOp .Or (b::rest) pos) (tT X.K E k)):PW X (.BoolOp .Or (a::b::rest) pos) (tT X.K E fun env=>(f env).bind fun t=>if t=true then .ok true else k env):=
 U1 (pw_or h h2) fun σ H Q ⟨g,env,os,r,m⟩=>⟨g,env,os,r,m.bind.mono fun t _ q H' s=>by
  cases t with
  |false=>exact⟨g,env,os,r.same s,Good.mono (show Good E g.H₀ (k env) _ from q) fun b _ q2 H2 s2=>q2 H2 (s.trans s2)⟩
  |true=>exact q H' s⟩
theorem Gj{e:Expr}{f:DE->R D}(h:PE X e (tB X.K E f))(he:∀whole,isTrue e X.env whole=(do let v<-whole;standAt e.pos;holding [v] (truthy v)):=by intro _;rfl):PT X e (tT X.K E fun env=>(f env).bind mr):=
 L8 (Qz h he) fun σ H Q ⟨g,env,os,r,m⟩=>⟨g,env,os,r,m.bind.mono fun d _ q v H' s i=>by
  cases d with
  |bl b=>exact⟨b,i,q H' s⟩
  |non=>exact q.elim
  |lst _=>exact q.elim
  |int _=>exact q.elim
  |str _=>exact q.elim
  |exc _=>exact q.elim
  |fn _=>exact q.elim
  |tup _=>exact q.elim⟩
theorem U4{op}{a:Expr}{f:DE->R D}(h:PE X a (tD X.K E f)):PE X (.BoolOp op [a] pos) (tD X.K E f):=QB h
theorem U5{a b:Expr}{rest:List Expr}{f k:DE->R D}(h:PE X a (tB X.K E f))(h2:PE X (.BoolOp .And (b::rest) pos) (tD X.K E k)):PE X (.BoolOp .And (a::b::rest) pos) (tD X.K E fun env=>(f env).bind fun x=>(mr x).bind fun t=>if t=true then k env else .ok (.bl false)):=
 imp (QC h h2) fun σ H Q ⟨g,env,os,r,m⟩=>⟨g,env,os,r,m.bind.mono fun d _ q v H' s i=>by
  cases d with
  |bl b=>
   refine⟨b,i,?_⟩
   cases b with
   |true=>
    rw[if_pos rfl]
    exact⟨g,env,os,r.same s,Good.mono (show Good E g.H₀ (k env) _ from q) fun b _ q2 v2 H2 s2 i2=>q2 v2 H2 (s.trans s2) i2⟩
   |false=>
    rw[if_neg Bool.false_ne_true]
    exact q _ H' s rfl
  |non=>exact q.elim
  |lst _=>exact q.elim
  |int _=>exact q.elim
  |str _=>exact q.elim
  |exc _=>exact q.elim
  |fn _=>exact q.elim
  |tup _=>exact q.elim⟩
theorem vIf{c a b:Expr}{fc:DE->R Bool}{fa fb:DE->R D}(hc:PT X c (tT X.K E fc))(ha:PE X a (tD X.K E fa))(hb:PE X b (tD X.K E fb)):PE X (.IfExp c a b pos) (tD X.K E fun env=>(fc env).bind fun t=>if t=true then fa env else fb env):=
 imp (HA hc ha hb) fun σ H Q ⟨g,env,os,r,m⟩=>⟨g,env,os,r,m.bind.mono fun t _ q H' s=>by
  cases t with
  |true=>
   rw[if_pos rfl]
   exact⟨g,env,os,r.same s,Good.mono (show Good E g.H₀ (fa env) _ from q) fun b _ q2 v2 H2 s2 i2=>q2 v2 H2 (s.trans s2) i2⟩
  |false=>
   rw[if_neg Bool.false_ne_true]
   exact⟨g,env,os,r.same s,Good.mono (show Good E g.H₀ (fb env) _ from q) fun b _ q2 v2 H2 s2 i2=>q2 v2 H2 (s.trans s2) i2⟩⟩
theorem bJ:PA X [] (Ga X.K E fun _=>.ok []):=Ii aE fun σ H Q ⟨g,env,os,r,m⟩=>m [] H (aC.refl H) rfl
theorem bu:PA X [] (qo X.K E fun _=>.ok []):=Ii aE fun σ H Q ⟨g,env,os,r,m⟩=>m [] H (aC.refl H) rfl
theorem az{e:Expr}{es:List Expr}{f:DE->R D}{k:DE->R (List D)}(ha:PE X e (tD X.K E f))(hr:PA X es (Ga X.K E k))(hs:starEach (e::es) X.env=(false,eval e X.env)::starEach es X.env:=by rfl):
  PA X (e::es) (Ga X.K E fun env=>(f env).bind fun x=>(k env).bind fun xs=>.ok (x::xs)):=
 Ii (aq ha hr hs) fun σ H Q ⟨g,env,os,r,m⟩=>⟨g,env,os,r,m.bind.mono fun x _ m1 v H1 s1 i1=>⟨g,env,os,r.same s1,m1.bind.mono fun xs _ m2 vs H2 s2 i2=>m2 (v::vs) H2 (s1.trans s2) (.cons (i1.same s2) i2)⟩⟩
theorem aB{e:Expr}{es:List Expr}{f:DE->R D}{k:DE->R (List D)}(ha:PE X e (tB X.K E f))(hr:PA X es (qo X.K E k))(hs:starEach (e::es) X.env=(false,eval e X.env)::starEach es X.env:=by rfl):
  PA X (e::es) (qo X.K E fun env=>(f env).bind fun x=>(k env).bind fun xs=>.ok (x::xs)):=
 Ii (aq ha hr hs) fun σ H Q ⟨g,env,os,r,m⟩=>⟨g,env,os,r,m.bind.mono fun x _ m1 v H1 s1 i1=>⟨g,env,os,r.same s1,m1.bind.mono fun xs _ m2 vs H2 s2 i2=>m2 (v::vs) H2 (s1.trans s2) (.cons (i1.same s2) i2)⟩⟩
def fit{α:Type}(xs:List α):R (List α):= @ite _ (xs.length<=sizeLine) (propDecidable _) (.ok xs) (.bad)
theorem Good.fit {α:Type}{H₀:Hp}{xs:List α}{p:List α->Prop}(h:Good E H₀ (fit xs) p):xs.length<=sizeLine/\p xs:=by
 unfold DL.fit at h
 split at h
 ·rename_i c
  exact⟨c,h⟩
 ·exact h.elim
theorem Gk{K:PySem.W.Frag}{g:Gh}{env:DE}{σ:St}{H H1:Hp}{os:List Addr}{ds:List D}{vs:List V}{p:Addr}(r:Rel K g env σ H os)(s1:aC H H1)(hp:H1 p=none)(i:IsL K (g.P os) H1 ds vs):
  aC H (upd H1 p (.lst vs))/\H p=none/\upd H1 p (.lst vs) p=some (.lst vs)/\IsL K (g.P (p::os)) (upd H1 p (.lst vs)) ds vs:=
 ⟨s1.trans (aF hp _),s1.free hp,ak,IsL.ext ((r.same s1).apart (aF hp _) hp) _ _ i⟩
theorem oK{es:List Expr}{f:DE->R (List D)}(h:PA X es (Ga X.K E f)):PE X (.List es pos) (tF X.K E fun env=>(f env).bind fit):=
 imp (tZ h) fun σ H Q ⟨g,env,os,r,m⟩=>⟨g,env,os,r,m.bind.mono fun ds _ m1 vs H1 s1 i1=>by
  obtain⟨z,q⟩:=m1.fit
  refine⟨by rw[i1.length];exact z,fun p hp=>?_⟩
  obtain⟨a1,a2,a3,a4⟩:=Gk r s1 hp i1
  exact q p vs _ a1 a2 a3 a4⟩
theorem Ma{es:List Expr}{x1}{f:DE->R (List D)}(h:PA X es (Ga X.K E f)):PE X (.Tuple es x1 pos) (tD X.K E fun env=>((f env).bind fit).bind fun ds=>.ok (.tup ds)):=
 imp (tY h) fun σ H Q ⟨g,env,os,r,m⟩=>⟨g,env,os,r,m.bind.bind.mono fun ds _ m1 vs H1 s1 i1=>by
  obtain⟨z,q⟩:=m1.fit
  refine⟨by rw[i1.length];exact z,fun p hp=>?_⟩
  exact q _ _ (s1.trans (aF hp _)) ⟨p,vs,rfl,.inl ⟨(r.same s1).fresh hp,.inl ak⟩,i1.same (aF hp _)⟩⟩
end
section
variable{X:Cx}{E:Str->Hp->Prop}{pos:Pos}
def U6(K:PySem.W.Frag):R2:=fun x y H Q=>∃l b xs zs,x=.ref l/\y=.ref b/\cV K H l xs/\cV K H b zs/\xs.length+zs.length<=sizeLine/\∀p,H p=none->Q (.ref p) (upd H p (.lst (xs++zs)))
theorem Mb:tP X (binaryOp .Add) (U6 X.K):=by
 intro pins s σ H x y v u Q I rx ry h
 obtain⟨l,b,xs,zs,rfl,rfl,hH,hB,hz,q⟩:=h
 cases rx
 cases ry
 obtain⟨its,r,p1,z1⟩:=I.list hH
 obtain⟨its2,r2,p2,z2⟩:=I.list hB
 have hl:=r.length
 have hl2:=r2.length
 obtain⟨o1,n1,e1,c1,d1,t1⟩:=p1
 obtain⟨o2,n2,e2,c2,d2,t2⟩:=p2
 obtain⟨oc,od,oda,DX⟩:=o1
 obtain⟨oc2,od2,Zt,Zu⟩:=o2
 have c1':oc=_:=c1
 have d1':od=_:=d1
 have Q7:oda=_:=t1
 have c2':oc2=_:=c2
 have d2':od2=_:=d2
 have Zv:Zt=_:=t2
 subst c1' d1' Q7 c2' d2' Zv
 have ea:its.toArray++its2.toArray=(its++its2).toArray:=by simp
 refine concat_meets ⟨_,e1,rfl⟩ ⟨_,e2,rfl⟩ noFill_list_add seq_list_add PySem.F.slot_list_add PySem.F.entry_list_add (PySem.F.args_list_add_2 _ _) (list_addW l b its.toArray its2.toArray n1 n2 none none DX Zu (by rw[size_toArray,size_toArray];omega)) ⟨e1,e2,?_⟩
 rw[ea]
 exact⟨.ref _,_,I.UM (t':=s.toks) (r.append r2) (by rw[length_append];omega),rfl,q _ I.fresh⟩
theorem Ik{a b:Expr}{fa fb:DE->R (List D)}(ha:PE X a (tL X.K E fa))(hb:PE X b (tL X.K E fb)):PE X (.BinOp a .Add b pos) (tF X.K E fun env=>(fa env).bind fun x=>(fb env).bind fun y=>fit (x++y)):=
 imp (rh Mb ha hb) fun σ H Q ⟨g,env,os,r,m⟩=>⟨g,env,os,r,m.bind.mono fun x _ m1 a1 v1 H1 s1 q1 i1=>⟨g,env,os,r.same s1,m1.bind.mono fun y _ m2 a2 v2 H2 s2 q2 i2=>by
  obtain⟨z,q⟩:=m2.fit
  rw[length_append]at z
  refine⟨a1,a2,v1,v2,rfl,rfl,s2.seq q1,q2,by rw[i1.length,i2.length];exact z,fun p hp=>?_⟩
  obtain⟨b1,b2,b3,b4⟩:=Gk r (s1.trans s2) hp ((i1.same s2).app i2)
  exact q p _ _ b1 b2 b3 b4⟩⟩
def tO(K:PySem.W.Frag)(E:Str->Hp->Prop)(f:DE->R (Option Int)):TO:=fun σ H Q=>∃g env os,Rel K g env σ H os/\Good E g.H₀ (f env) fun o=>∀H',aC H H'->Q o H'
theorem U7{e:Option Expr}{t t':TO}(h:L2.PO X e t)(w:∀σ H Q,t' σ H Q->t σ H Q):L2.PO X e t':=fun pins s σ H Q I q=>h pins s σ H Q I (w σ H Q q)
theorem U8:L2.PO X none (tO X.K E fun _=>.ok none):=U7 DZ fun σ H Q ⟨g,env,os,r,m⟩=>m H (aC.refl H)
def Q8:D->R (Option Int)
 |.int i=>.ok (some i)
 |_=>.bad
theorem Il{e:Expr}{f:DE->R D}(h:PE X e (tB X.K E f)):L2.PO X (some e) (tO X.K E fun env=>(f env).bind Q8):=U7 (D0 h) fun σ H Q ⟨g,env,os,r,m⟩=>⟨g,env,os,r,m.bind.mono fun d _ q v H' s i=>by
 cases d with
 |int k=>exact⟨k,i,q H' s⟩
 |non=>exact q.elim
 |bl _=>exact q.elim
 |lst _=>exact q.elim
 |str _=>exact q.elim
 |exc _=>exact q.elim
 |fn _=>exact q.elim
 |tup _=>exact q.elim⟩
def cut{α:Type}(xs:List α)(lo hi:Option Int):List α:=(xs.drop (HT.wy xs.length 0 lo)).take (HT.wy xs.length xs.length hi-HT.wy xs.length 0 lo)
theorem IsL.cut {K:PySem.W.Frag}{P:Addr->Prop}{H:Hp}{ds:List D}{vs:List V}(h:IsL K P H ds vs)(lo hi:Option Int):IsL K P H (DL.cut ds lo hi) (yw vs lo hi):=by
 unfold DL.cut yw
 rw[h.length]
 exact(h.drop _).take _
theorem zO{e:Expr}{lo hi:Option Expr}{f:DE->R (List D)}{fl fh:DE->R (Option Int)}{p2:Pos}(he:PE X e (tL X.K E f))(hl:L2.PO X lo (tO X.K E fl))(hh:L2.PO X hi (tO X.K E fh)):
  PE X (.Subscript e (.Slice lo hi none p2) pos) (tF X.K E fun env=>(f env).bind fun x=>(fl env).bind fun l=>(fh env).bind fun h=>.ok (cut x l h)):=
 imp (wz D2 he hl hh) fun σ H Q ⟨g,env,os,r,m⟩=>⟨g,env,os,r,m.bind.mono fun x _ m1 a1 v1 H1 s1 q1 i1=>⟨g,env,os,r.same s1,m1.bind.mono fun l _ m2 H2 s2=>⟨g,env,os,r.same (s1.trans s2),m2.bind.mono fun h _ m3 H3 s3=>by
  refine⟨a1,v1,rfl,s3.seq (s2.seq q1),fun p hp=>?_⟩
  obtain⟨b1,b2,b3,b4⟩:=Gk r (s1.trans (s2.trans s3)) hp (((i1.same s2).same s3).cut l h)
  exact m3 p _ _ b1 b2 b3 b4⟩⟩⟩
theorem IsL.iN {K:PySem.W.Frag}{P:Addr->Prop}{H:Hp}{ds:List D}{vs:List V}{i:Int}{d:D}(h:IsL K P H ds vs)(e:L2.iN ds i=some d):∃v,L2.iN vs i=some v/\Is K P H d v:=by
 unfold L2.iN at e⊢
 rw[h.length]
 cases q:qZ ds.length i with
 |none=>rw[q]at e;cases e
 |some j=>
  rw[q]at e
  exact h.get e
def A8:D->D->R D
 |.lst xs,.int i=>R.of (iN xs i)
 |.tup xs,.int i=>R.of (iN xs i)
 |_,_=>.bad
theorem Gm{a b:Expr}{fa fb:DE->R D}(ha:PE X a (tD X.K E fa))(hb:PE X b (tB X.K E fb))(hs:rn b:=by exact fun _ _=>rfl):PE X (.Subscript a b pos) (tD X.K E fun env=>(fa env).bind fun x=>(fb env).bind fun y=>A8 x y):=
 imp (gP QU ha hb hs) fun σ H Q ⟨g,env,os,r,m⟩=>⟨g,env,os,r,m.bind.mono fun x _ m1 v H1 s1 i1=>⟨g,env,os,r.same s1,m1.bind.mono fun y _ m2 w H2 s2 i2=>by
  unfold A8 at m2
  split at m2
  ·rename_i xs i _ _
   obtain⟨d,e,q⟩:=m2.of
   have Tq:=i1.same s2
   obtain⟨a,vs,rfl,h1,h2⟩:=Tq
   obtain⟨z,e2,h3⟩:=IsL.iN h2 e
   exact .inl ⟨a,vs,i,z,rfl,i2,h1.sq,e2,q z H2 (s1.trans s2) h3⟩
  ·rename_i xs i _ _
   obtain⟨d,e,q⟩:=m2.of
   have Tq:=i1.same s2
   obtain⟨a,vs,rfl,h1,h2⟩:=Tq
   obtain⟨z,e2,h3⟩:=IsL.iN h2 e
   exact .inr (.inl ⟨a,vs,i,z,rfl,i2,h1.sq,e2,q z H2 (s1.trans s2) h3⟩)
  ·exact m2.elim⟩⟩
def zP(xs:List D):D->R D
 |.int i=>R.of (iN xs i)
 |_=>.bad
theorem Cz{a b:Expr}{fa:DE->R (List D)}{fb:DE->R D}(ha:PE X a (tL X.K E fa))(hb:PE X b (tB X.K E fb))(hs:rn b:=by exact fun _ _=>rfl):PE X (.Subscript a b pos) (tD X.K E fun env=>(fa env).bind fun x=>(fb env).bind fun y=>zP x y):=
 imp (gP dE ha hb hs) fun σ H Q ⟨g,env,os,r,m⟩=>⟨g,env,os,r,m.bind.mono fun x _ m1 a1 v1 H1 s1 q1 i1=>⟨g,env,os,r.same s1,m1.bind.mono fun y _ m2 w H2 s2 i2=>by
  unfold zP at m2
  split at m2
  ·rename_i i _
   obtain⟨d,e,q⟩:=m2.of
   obtain⟨z,e2,h3⟩:=(i1.same s2).iN e
   exact⟨a1,v1,i,z,rfl,i2,s2.seq q1,e2,q z H2 (s1.trans s2) h3⟩
  ·exact m2.elim⟩⟩
def CY(X:Cx)(r:List V->Hp->VK->Prop)(k:List D->Option D):Prop:=∀ds d,k ds=some d->∃z,toV d=some z/\∀H vs (Q:VK),IsL X.K Tr H ds vs->Q z H->r vs H Q
theorem qq{id:String}{x:Str}{p:Pos}{e:Expr}{es:List Expr}{f:DE->R (List D)}{r:List V->Hp->VK->Prop}{k:List D->Option D}(hc:lE X (.builtin id) r)(hk:CY X r k)(hm:X.mg x=none)(hv:bootBuiltins x=some (.builtin id))(ha:PA X (e::es) (qo X.K E f))
  (hg:Gl X x:=by rfl)(hn:x≠"__name__":=by decide)(hdb:(x==("__debug__":Str))=false:=by decide)
  (he:starEach (e::es) X.env=(false,eval e X.env)::starEach es X.env:=by rfl)(hpl:(backTo pos (starEach es X.env)).any (·.1)=false:=by rfl):PE X (.Call (.Name x p) (e::es) [] pos) (tD X.K E fun env=>(f env).bind fun ds=>R.of (k ds)):=
 imp (je hc hg hm hv ha hn hdb he hpl) fun σ H Q ⟨g,env,os,r,m⟩=>⟨g,env,os,r,m.bind.mono fun ds _ m1 vs H1 s1 i1=>by
  obtain⟨d,e,q⟩:=m1.of
  obtain⟨z,hz,hk⟩:=hk ds d e
  exact hk H1 vs Q i1 (q z H1 s1 (Is.sc hz))⟩
theorem oM{T:String}{x:Str}{p:Pos}{e:Expr}{es:List Expr}{f:DE->R (List D)}{r:List V->Hp->VK->Prop}{k:List D->Option D}(hc:lE X (.type T) r)(hk:CY X r k)(hm:X.mg x=none)(hv:bootBuiltins x=some (.type T))(ha:PA X (e::es) (qo X.K E f))
  (hg:Gl X x:=by rfl)(hn:x≠"__name__":=by decide)(hdb:(x==("__debug__":Str))=false:=by decide)
  (he:starEach (e::es) X.env=(false,eval e X.env)::starEach es X.env:=by rfl)(hpl:(backTo pos (starEach es X.env)).any (·.1)=false:=by rfl):PE X (.Call (.Name x p) (e::es) [] pos) (tD X.K E fun env=>(f env).bind fun ds=>R.of (k ds)):=
 imp (lG hc hg hm hv ha hn hdb he hpl) fun σ H Q ⟨g,env,os,r,m⟩=>⟨g,env,os,r,m.bind.mono fun ds _ m1 vs H1 s1 i1=>by
  obtain⟨d,e,q⟩:=m1.of
  obtain⟨z,hz,hk⟩:=hk ds d e
  exact hk H1 vs Q i1 (q z H1 s1 (Is.sc hz))⟩
theorem IsL.vv {K:PySem.W.Frag}{P:Addr->Prop}{H:Hp}{d:D}{vs:List V}(h:IsL K P H [d] vs):∃v,vs=[v]/\Is K P H d v:=by
 obtain⟨v,r,rfl,p,q⟩:=h
 have q':r=[]:=q
 subst q'
 exact⟨v,rfl,p⟩
theorem IsL.Q9 {K:PySem.W.Frag}{P:Addr->Prop}{H:Hp}{d d2:D}{vs:List V}(h:IsL K P H [d,d2] vs):∃v w,vs=[v,w]/\Is K P H d v/\Is K P H d2 w:=by
 obtain⟨v,r,rfl,p,q⟩:=h
 obtain⟨w,rfl,p2⟩:=IsL.vv q
 exact⟨v,w,rfl,p,p2⟩
def yA:List D->Option D
 |[.lst xs]=>some (.int xs.length)
 |[.tup xs]=>some (.int xs.length)
 |[.str x]=> @ite _ (x.length<=sizeLine) (propDecidable _) (some (.int x.length)) (none)
 |_=>none
theorem pV:CY X (fun xs H Q=>∃x n,xs=[x]/\Uz X.K x H n/\Q (.int n) H) yA:=fun ds d e=>by
 unfold yA at e
 split at e
 ·rename_i xs
  cases e
  refine⟨_,rfl,fun H vs Q i q=>?_⟩
  obtain⟨v,rfl,a,ws,rfl,h1,h2⟩:=IsL.vv i
  exact⟨_,_,rfl,.inl ⟨ws,h1.sq,(IsL.length h2).symm⟩,q⟩
 ·rename_i xs
  cases e
  refine⟨_,rfl,fun H vs Q i q=>?_⟩
  obtain⟨v,rfl,a,ws,rfl,h1,h2⟩:=IsL.vv i
  exact⟨_,_,rfl,.inr ⟨ws,h1.sq,(IsL.length h2).symm⟩,q⟩
 ·split at e
  ·rename_i x c
   cases e
   refine⟨_,rfl,fun H vs Q i q=>?_⟩
   obtain⟨v,rfl,i2⟩:=IsL.vv i
   have i':v=.str x:=i2
   subst i'
   exact⟨_,_,rfl,⟨c,rfl⟩,q⟩
  ·cases e
 ·cases e
def Gn:List D->Option D
 |[.int i]=>some (.int (if i<0 then-i else i))
 |_=>none
theorem zQ:CY X (fun xs H Q=>∃i,xs=[.int i]/\Q (.int (if i<0 then-i else i)) H) Gn:=fun ds d e=>by
 unfold Gn at e
 split at e
 ·rename_i i
  cases e
  refine⟨_,rfl,fun H vs Q h q=>?_⟩
  obtain⟨v,rfl,h1⟩:=IsL.vv h
  have h':v=.int i:=h1
  subst h'
  exact⟨i,rfl,q⟩
 ·cases e
def D9:List D->Option D
 |[.int i,.int j]=>some (.int (if j>i then j else i))
 |_=>none
theorem Im:CY X (fun xs H Q=>∃i j,xs=[.int i,.int j]/\Q (.int (if j>i then j else i)) H) D9:=fun ds d e=>by
 unfold D9 at e
 split at e
 ·rename_i i j
  cases e
  refine⟨_,rfl,fun H vs Q h q=>?_⟩
  obtain⟨v,w,rfl,h1,h2⟩:=IsL.Q9 h
  have h':v=.int i:=h1
  have Oj:w=.int j:=h2
  subst h' Oj
  exact⟨i,j,rfl,q⟩
 ·cases e
theorem Ol{p:Pos}{a:Expr}{f:DE->R (List D)}(hm:X.mg "list"=none)(ha:PE X a (tL X.K E f))(hg:Gl X "list":=by rfl)
  (he:starEach [a] X.env=(false,eval a X.env)::starEach [] X.env:=by rfl)(hpl:(backTo pos (starEach [] X.env)).any (·.1)=false:=by rfl):PE X (.Call (.Name "list" p) [a] [] pos) (tF X.K E f):=
 imp (lG mB hg hm (by decide +kernel) (aq ha aE he) (by decide) (by decide) he hpl) fun σ H Q ⟨g,env,os,r,m⟩=>⟨g,env,os,r,m.mono fun x _ m1 a1 v1 H1 s1 q1 i1=>
  ⟨a1,v1,rfl,.inl q1,fun p hp=>by
   obtain⟨b1,b2,b3,b4⟩:=Gk r s1 hp i1
   exact m1 p _ _ b1 b2 b3 b4⟩⟩
def Ea(K:PySem.W.Frag)(xc:Str->Value)(m:List D->R D):Sp:=fun vs H Q E=>∃P ds,IsL K P H ds vs/\(match m ds with
 |.ok d=>∀v H',aC H H'->Is K (fun a=>P a\/H a=none) H' d v->Q v H'
 |.err c=>∀H',aC H H'->E (xc c) none H'
 |.bad=>False)
def Lf(K:PySem.W.Frag)(xc:Str->Value)(m:List D->R (List D)):Sp:=fun vs H Q E=>∃P ds,IsL K P H ds vs/\(match m ds with
 |.ok xs=>∀a ws H',aC H H'->H a=none->H' a=some (.lst ws)->IsL K (fun b=>(P b\/H b=none)/\b≠a) H' xs ws->Q (.ref a) H'
 |.err c=>∀H',aC H H'->E (xc c) none H'
 |.bad=>False)
def EX(xc:Str->Value)(E:Str->Hp->Prop):XK:=fun c _ H'=>∃n,c=xc n/\E n H'
theorem ky{E:XK}:Passes kh X E:=fun _ _ _ _ _ _ _ h=>h.elim
variable{CX:Hj}{k:Nat}{fa:Addr}{fd:FuncData}{ps:List Str}{xc:Str->Value}{x:Str}{p:Pos}{e:Expr}{es:List Expr}{f:DE->R (List D)}
theorem fD{m:List D->R D}(F:bH X.prog X.w X.K X.mg X.base CX k fa fd ps (Ea X.K xc m))(hm:X.mg x=some (.ref fa))(hk:keepIn X.K (.ref fa)=true)(hb:Binds X.K fd ps [])(hr:aY k X.A)(hx:Passes CX X (EX xc E))
  (ha:PA X (e::es) (Ga X.K E f))(hg:Gl X x:=by rfl)(hdb:(x==("__debug__":Str))=false:=by decide)(he:starEach (e::es) X.env=(false,eval e X.env)::starEach es X.env:=by rfl)(hpl:(backTo pos (starEach es X.env)).any (·.1)=false:=by rfl):
  PE X (.Call (.Name x p) (e::es) [] pos) (tD X.K E fun env=>(f env).bind m):=
 imp (dS F hr hg hm hk hb .nil hx ha hdb he hpl) fun σ H Q ⟨g,env,os,r,q⟩=>⟨g,env,os,r,q.bind.mono fun ds _ q1 vs H1 s1 i1=>by
  show Ea X.K xc m (vs++[]) H1 Q _
  rw[append_nil]
  refine⟨g.P os,ds,i1,?_⟩
  cases em:m ds with
  |ok d=>
   rw[em]at q1
   intro v H' s' i'
   exact q1 v H' (s1.trans s') (Is.ext ⟨fun a o pa _=>pa.elim (fun z=>z) fun z=>(r.same s1).fresh z,fun _ _ _ z=>z⟩ _ _ i')
  |err c=>
   rw[em]at q1
   intro H' s'
   exact⟨c,rfl,q1 H' (r.ext.trans (s1.trans s'))⟩
  |bad=>rw[em]at q1;exact q1⟩
theorem fB{m:List D->R D}(F:bH X.prog X.w X.K X.mg X.base CX k fa fd ps (Ea X.K xc m))(hsc:∀ds d,m ds=.ok d->∃z,toV d=some z)(hm:X.mg x=some (.ref fa))(hk:keepIn X.K (.ref fa)=true)(hb:Binds X.K fd ps [])(hr:aY k X.A)(hx:Passes CX X (EX xc E))
  (ha:PA X (e::es) (qo X.K E f))(hg:Gl X x:=by rfl)(hdb:(x==("__debug__":Str))=false:=by decide)(he:starEach (e::es) X.env=(false,eval e X.env)::starEach es X.env:=by rfl)(hpl:(backTo pos (starEach es X.env)).any (·.1)=false:=by rfl):
  PE X (.Call (.Name x p) (e::es) [] pos) (tD X.K E fun env=>(f env).bind m):=
 imp (dS F hr hg hm hk hb .nil hx ha hdb he hpl) fun σ H Q ⟨g,env,os,r,q⟩=>⟨g,env,os,r,q.bind.mono fun ds _ q1 vs H1 s1 i1=>by
  show Ea X.K xc m (vs++[]) H1 Q _
  rw[append_nil]
  refine⟨Tr,ds,i1,?_⟩
  cases em:m ds with
  |ok d=>
   rw[em]at q1
   intro v H' s' i'
   obtain⟨z,hz⟩:=hsc ds d em
   have e2:=Is.Og hz i'
   subst e2
   exact q1 _ H' (s1.trans s') (Is.sc hz)
  |err c=>
   rw[em]at q1
   intro H' s'
   exact⟨c,rfl,q1 H' (r.ext.trans (s1.trans s'))⟩
  |bad=>rw[em]at q1;exact q1⟩
theorem fF{m:List D->R (List D)}(F:bH X.prog X.w X.K X.mg X.base CX k fa fd ps (Lf X.K xc m))(hm:X.mg x=some (.ref fa))(hk:keepIn X.K (.ref fa)=true)(hb:Binds X.K fd ps [])(hr:aY k X.A)(hx:Passes CX X (EX xc E))
  (ha:PA X (e::es) (Ga X.K E f))(hg:Gl X x:=by rfl)(hdb:(x==("__debug__":Str))=false:=by decide)(he:starEach (e::es) X.env=(false,eval e X.env)::starEach es X.env:=by rfl)(hpl:(backTo pos (starEach es X.env)).any (·.1)=false:=by rfl):
  PE X (.Call (.Name x p) (e::es) [] pos) (tF X.K E fun env=>(f env).bind m):=
 imp (dS F hr hg hm hk hb .nil hx ha hdb he hpl) fun σ H Q ⟨g,env,os,r,q⟩=>⟨g,env,os,r,q.bind.mono fun ds _ q1 vs H1 s1 i1=>by
  show Lf X.K xc m (vs++[]) H1 Q _
  rw[append_nil]
  refine⟨g.P os,ds,i1,?_⟩
  cases em:m ds with
  |ok d=>
   rw[em]at q1
   intro a ws H' s' hn hH i'
   exact q1 a ws H' (s1.trans s') (s1.free hn) hH (IsL.ext ⟨fun b o pb _=>by
    have z:g.P os b:=pb.1.elim (fun z=>z) fun z=>(r.same s1).fresh z
    exact⟨z.1,fun hm=>(mem_cons.mp hm).elim pb.2 z.2⟩,fun _ _ _ z=>z⟩ _ _ i')
  |err c=>
   rw[em]at q1
   intro H' s'
   exact⟨c,rfl,q1 H' (r.ext.trans (s1.trans s'))⟩
  |bad=>rw[em]at q1;exact q1⟩
theorem scs{K:PySem.W.Frag}{P P':Addr->Prop}{H:Hp}:∀{ds:List D}{vs:List V},(∀d∈ds,∃z,toV d=some z)->IsL K P H ds vs->IsL K P' H ds vs
 |[],_,_,h=>h
 |d::ds,_,hs,⟨v,r,e,p,q⟩=>by
  obtain⟨z,hz⟩:=hs d (by simp)
  have e2:=Is.Og hz p
  exact⟨v,r,e,by rw[e2];exact Is.sc hz,scs (fun d hd=>hs d (by simp[hd])) q⟩
theorem fFB{m:List D->R (List D)}(F:bH X.prog X.w X.K X.mg X.base CX k fa fd ps (Lf X.K xc m))(hsc:∀ds xs,m ds=.ok xs->∀d∈xs,∃z,toV d=some z)(hm:X.mg x=some (.ref fa))(hk:keepIn X.K (.ref fa)=true)(hb:Binds X.K fd ps [])(hr:aY k X.A)(hx:Passes CX X (EX xc E))
  (ha:PA X (e::es) (qo X.K E f))(hg:Gl X x:=by rfl)(hdb:(x==("__debug__":Str))=false:=by decide)(he:starEach (e::es) X.env=(false,eval e X.env)::starEach es X.env:=by rfl)(hpl:(backTo pos (starEach es X.env)).any (·.1)=false:=by rfl):
  PE X (.Call (.Name x p) (e::es) [] pos) (tF X.K E fun env=>(f env).bind m):=
 imp (dS F hr hg hm hk hb .nil hx ha hdb he hpl) fun σ H Q ⟨g,env,os,r,q⟩=>⟨g,env,os,r,q.bind.mono fun ds _ q1 vs H1 s1 i1=>by
  show Lf X.K xc m (vs++[]) H1 Q _
  rw[append_nil]
  refine⟨Tr,ds,i1,?_⟩
  cases em:m ds with
  |ok d=>
   rw[em]at q1
   intro a ws H' s' hn hH i'
   exact q1 a ws H' (s1.trans s') (s1.free hn) hH (scs (hsc ds d em) i')
  |err c=>
   rw[em]at q1
   intro H' s'
   exact⟨c,rfl,q1 H' (r.ext.trans (s1.trans s'))⟩
  |bad=>rw[em]at q1;exact q1⟩
end
def aX(r:R Out)(k:DE->R Out):R Out:=r.bind fun o=>match o with
 |.nx e=>k e
 |o=>.ok o
def fq(b:D->DE->R Out):List D->DE->R Out
 |[],e=>.ok (.nx e)
 |x::xs,e=>(b x e).bind fun o=>match o with
  |.nx e'=>fq b xs e'
  |.ct e'=>fq b xs e'
  |.bk e'=>.ok (.nx e')
  |.rt d=>.ok (.rt d)
  |.oH ys=>.ok (.oH ys)
  |.Gd ys=>.ok (.Gd ys)
  |.D6 ys=>.ok (.D6 ys)
  |.Gb ys=>.ok (.Gb ys)
  |.AF ys=>.ok (.AF ys)
section
variable{X:Cx}{E:Str->Hp->Prop}{pos:Pos}
theorem oN:nA X [] (tS X.K E fun e=>.ok (.nx e)):=Oh km fun De σ H ⟨g,env,os,r,m⟩=>m σ H os r (.refl H os)
theorem aK{st:Stmt}{rest:List Stmt}{f k:DE->R Out}(h1:PS X st (tS X.K E f))(h2:nA X rest (tS X.K E k)):nA X (st::rest) (tS X.K E fun e=>aX (f e) k):=
 Oh (aA h1 h2) fun De σ H ⟨g,env,os,r,m⟩=>⟨g,env,os,r,(show Good E g.H₀ ((f env).bind _) _ from m).bind.mono fun o _ q=>by
  cases o with
  |nx e'=>exact fun σ' H' gO r' z=>⟨g,e',gO,r',Good.mono (show Good E g.H₀ (k e') _ from q) fun o _ q=>dW.step z q⟩
  |bk e'=>exact q
  |ct e'=>exact q
  |rt d=>exact q
  |oH xs=>exact q
  |Gd xs=>exact q
  |D6 xs=>exact q
  |Gb xs=>exact q
  |AF xs=>exact q⟩
theorem bg{st:Stmt}{f:DE->R Out}(h1:PS X st (tS X.K E f)):nA X [st] (tS X.K E f):=bO h1
theorem U9{e:Expr}{f:DE->R D}(he:PE X e (tB X.K E f))(hs:swapsWith e none pos.line X.env=pure false:=by rfl):PS X (.Expr e pos) (tS X.K E fun env=>(f env).bind fun _=>.ok (.nx env)):=
 oi (fX he hs) fun De σ H ⟨g,env,os,r,m⟩=>⟨g,env,os,r,m.bind.mono fun d _ q v H' s i=>q σ H' os (r.same s) (.same s os)⟩
theorem Va{g:Gh}{os:List Addr}{K:PySem.W.Frag}{H:Hp}{d:D}{v:V}(h:Is K (g.P os) H d v):Is K (g.P []) H d v:=Is.ext ⟨fun _ _ p _=>⟨p.1,by simp⟩,fun _ _ _ q=>q⟩ _ _ h
theorem iq{e:Expr}{f:DE->R D}(he:PE X e (tD X.K E f)):PS X (.Return (some e) pos) (tS X.K E fun env=>(f env).bind fun d=>.ok (.rt d)):=
 oi (kR he) fun De σ H ⟨g,env,os,r,m⟩=>⟨g,env,os,r,m.bind.mono fun d _ q v H' s i=>q v H' (r.ext.trans s) (Va i)⟩
theorem lH{e:Expr}{f:DE->R (List D)}(he:PE X e (tF X.K E f)):PS X (.Return (some e) pos) (tS X.K E fun env=>(f env).bind fun d=>.ok (.oH d)):=
 oi (kR he) fun De σ H ⟨g,env,os,r,m⟩=>⟨g,env,os,r,m.bind.mono fun xs _ q a vs H' s hn hH i=>
  q a vs H' (r.ext.trans s) (r.ext.free hn) hH (IsL.ext ⟨fun b o p _=>⟨p.1,fun z=>p.2 (by simp at z;simp[z])⟩,fun _ _ _ q=>q⟩ _ _ i)⟩
def ownAt(i:Nat)(env:DE):R (List D):=match env[i]? with
 |some (.own xs)=>.ok xs
 |_=>.bad
theorem Good.own {H₀:Hp}{i:Nat}{env:DE}{p:List D->Prop}(h:Good E H₀ (ownAt i env) p):∃xs,env[i]?=some (.own xs)/\p xs:=by
 unfold ownAt at h
 split at h
 ·rename_i xs e
  exact⟨xs,e,h⟩
 ·exact h.elim
theorem Io(i:Nat){x:Str}{p:Pos}(hN:X.N[i]?=some x:=by rfl)(hv:yV X.env.scope x:=by first|exact Or.inl rfl|exact Or.inr (Or.inl rfl)|exact Or.inr (Or.inr rfl))(hd:(x==("__debug__":Str))=false:=by decide)
  (hcd:(x==("__classdict__":Str))=false:=by decide):PS X (.Return (some (.Name x p)) pos) (tS X.K E fun env=>(ownAt i env).bind fun xs=>.ok (.oH xs)):=
 oi (kR (jk hN hv hd hcd)) fun De σ H ⟨g,env,os,r,m⟩=>by
  obtain⟨xs,e,q⟩:=m.bind.own
  obtain⟨a,vs,h1,h2,h3,h4⟩:=r.own i xs e
  exact⟨.ref a,h1,q a vs H r.ext (r.new a h2).1 h3 (IsL.ext ⟨fun b o p _=>⟨p.1,fun z=>p.2 (by simp at z;rw[z];exact h2)⟩,fun _ _ _ q=>q⟩ _ _ h4)⟩
theorem AG{c:Expr}{a b:List Stmt}{fc:DE->R Bool}{fa fb:DE->R Out}(hc:PT X c (tT X.K E fc))(ha:nA X a (tS X.K E fa))(hb:nA X b (tS X.K E fb)):PS X (.If c a b pos) (tS X.K E fun env=>(fc env).bind fun t=>if t=true then fa env else fb env):=
 oi (uR hc ha hb) fun De σ H ⟨g,env,os,r,m⟩=>⟨g,env,os,r,m.bind.mono fun t _ q H' s=>by
  cases t with
  |true=>
   rw[if_pos rfl]
   exact⟨g,env,os,r.same s,Good.mono (show Good E g.H₀ (fa env) _ from q) fun o _ q2=>dW.step (.same s os) q2⟩
  |false=>
   rw[if_neg Bool.false_ne_true]
   exact⟨g,env,os,r.same s,Good.mono (show Good E g.H₀ (fb env) _ from q) fun o _ q2=>dW.step (.same s os) q2⟩⟩
theorem fu(i:Nat){x:Str}{e:Expr}{f:DE->R D}{pos':Pos}(he:PE X e (tD X.K E f))(hN:X.N.Nodup)(hi:X.N[i]?=some x:=by rfl)(hx:Loc X.env.scope x:=by first|exact Or.inl rfl|exact Or.inr rfl)(hs:swapsWith e (some (.Name x pos')) pos.line X.env=pure false:=by rfl)
  (hf:X.fn x=true\/X.env.scope.names.lookup x=some .local:=by first|exact .inl rfl|exact .inr rfl|assumption):PS X (.Assign [.Name x pos'] e pos) (tS X.K E fun env=>(f env).bind fun d=>.ok (.nx (env.set i (.val d)))):=
 oi (di hN hi hx he hs hf) fun De σ H ⟨g,env,os,r,m⟩=>⟨g,env,os,r,m.bind.mono fun d _ q v H' s h=>q _ H' os ((r.same s).set i h) (.same s os)⟩
theorem rB.new {H H':Hp}{os:List Addr}{a:Addr}(s:aC H H')(hn:H a=none):rB H os H' (a::os):=
 ⟨fun b hb=>(mem_cons.mp hb).elim (fun z=>.inr (by rw[z];exact hn)) .inl,fun _ h=>s.free h,fun _ _ _ h=>s _ _ h⟩
theorem wG(i:Nat){x:Str}{e:Expr}{f:DE->R (List D)}{pos':Pos}(he:PE X e (tF X.K E f))(hN:X.N.Nodup)(hi:X.N[i]?=some x:=by rfl)(hx:Loc X.env.scope x:=by first|exact Or.inl rfl|exact Or.inr rfl)(hs:swapsWith e (some (.Name x pos')) pos.line X.env=pure false:=by rfl)
  (hf:X.fn x=true\/X.env.scope.names.lookup x=some .local:=by first|exact .inl rfl|exact .inr rfl|assumption):PS X (.Assign [.Name x pos'] e pos) (tS X.K E fun env=>(f env).bind fun d=>.ok (.nx (env.set i (.own d)))):=
 oi (di hN hi hx he hs hf) fun De σ H ⟨g,env,os,r,m⟩=>⟨g,env,os,r,m.bind.mono fun d _ q a vs H' s hn hH h=>q _ H' (a::os) (r.Zn s i hn hH h) (.new s hn)⟩
theorem rB.mut {H:Hp}{os:List Addr}{a:Addr}{o:HO}(ha:a∈os):rB H os (upd H a o) os:=
 ⟨fun b hb=>.inl hb,fun b h=>by
  by_cases z:b=a
  ·subst z;rw[ak]at h;cases h
  ·rw[ae z]at h;exact h,fun b u hb h=>by rw[ae (fun z=>hb (by rw[z];exact ha))];exact h⟩
def ym(i:Nat)(env:DE):DE:=match env[i]? with
 |some (.own xs)=>env.set i (.val (.lst xs))
 |_=>env
theorem Zw(i:Nat){x:Str}{e:Expr}{f:DE->R D}{p apos aL:Pos}(he:PE X e (tD X.K E f))(hN:X.N[i]?=some x:=by rfl)(hv:yV X.env.scope x:=by first|exact Or.inl rfl|exact Or.inr (Or.inl rfl)|exact Or.inr (Or.inr rfl))(hd:(x==("__debug__":Str))=false:=by decide)
  (hcd:(x==("__classdict__":Str))=false:=by decide)
  (hbase:attributeBase (.Name x p) "append" X.env (eval (.Name x p) X.env)=eval (.Name x p) X.env:=by rfl)
  (hfew:((backTo aL (starEach [e] X.env)).all (fun x=> !x.1)&&(backToKw aL (keywordEach [] X.env)).all (fun x=>x.1.isSome)
   &&decide ([e].length+([]:List Keyword).length+(if([]:List Keyword).isEmpty then 0 else 1)<30))=true:=by rfl)
  (hline:(apos.endLine==aL.line)=true:=by rfl)(hst:starEach [e] X.env=(false,eval e X.env)::starEach [] X.env:=by rfl)(hplain:(backTo aL (starEach [] X.env)).any (·.1)=false:=by rfl)
  (hs:swapsWith (.Call (.Attribute (.Name x p) "append" apos) [e] [] aL) none pos.line X.env=pure false:=by rfl):
  PS X (.Expr (.Call (.Attribute (.Name x p) "append" apos) [e] [] aL) pos) (tS X.K E fun env=>(ownAt i env).bind fun xs=>(f env).bind fun d=> @ite _ (xs.length<sizeLine) (propDecidable _) (.ok (.nx (env.set i (.own (xs++[d]))))) (.bad)):=
 oi (fX (nG plainAttrs_list PySem.F.slot_list_append PySem.F.type_list_append dO (jk hN hv hd hcd) (aq he aE hst) hbase hfew hline hst hplain) hs) fun De σ H ⟨g,env,os,r,m⟩=>by
  obtain⟨xs,e,m1⟩:=m.bind.own
  obtain⟨a,vs,h1,h2,h3,h4⟩:=r.own i xs e
  refine⟨.ref a,h1,.inl ⟨rfl,vs,cV.of h3⟩,g,env,os,r,m1.bind.mono fun d _ q v H' s hi=>?_⟩
  split at q
  ·rename_i c
   refine⟨a,vs,v,rfl,rfl,s _ _ h3,by rw[h4.length];exact c,?_⟩
   exact q σ _ os ((r.same s).mut e h1 h2 ((h4.same s).app (.one hi))) ((rB.same s os).trans (.mut h2))
  ·exact q.elim
theorem Zx(i:Nat){x:Str}{p apos aL:Pos}(hN:X.N[i]?=some x:=by rfl)(hv:yV X.env.scope x:=by first|exact Or.inl rfl|exact Or.inr (Or.inl rfl)|exact Or.inr (Or.inr rfl))(hd:(x==("__debug__":Str))=false:=by decide)
  (hcd:(x==("__classdict__":Str))=false:=by decide)
  (hbase:attributeBase (.Name x p) "pop" X.env (eval (.Name x p) X.env)=eval (.Name x p) X.env:=by rfl)(hline:(apos.endLine==aL.line)=true:=by rfl)
  (hs:swapsWith (.Call (.Attribute (.Name x p) "pop" apos) [] [] aL) none pos.line X.env=pure false:=by rfl):
  PS X (.Expr (.Call (.Attribute (.Name x p) "pop" apos) [] [] aL) pos) (tS X.K E fun env=>(ownAt i env).bind fun xs=>if 0<xs.length then .ok (.nx (env.set i (.own xs.dropLast)))else .bad):=
 oi (fX (zK plainAttrs_list slot_list_pop type_list_pop HZ (jk hN hv hd hcd) hbase hline) hs) fun De σ H ⟨g,env,os,r,m⟩=>by
  obtain⟨xs,e,m1⟩:=m.bind.own
  obtain⟨a,vs,h1,h2,h3,h4⟩:=r.own i xs e
  split at m1
  ·rename_i c
   have hl:=h4.length
   refine⟨.ref a,h1,.inl ⟨rfl,vs,cV.of h3⟩,a,vs,vs[vs.length-1],rfl,rfl,h3,by rw[getElem?_eq_getElem (by omega)],?_⟩
   refine m1 σ _ os (r.mut e h1 h2 ?_) (.mut h2)
   rw[dropLast_eq_take,dropLast_eq_take,hl]
   exact h4.take _
  ·exact m1.elim
theorem Ra(i:Nat){x:Str}{ek e:Expr}{fk f:DE->R D}{p tp:Pos}(hk:PE X ek (tB X.K E fk))(he:PE X e (tD X.K E f))(hN:X.N[i]?=some x:=by rfl)(hv:yV X.env.scope x:=by first|exact Or.inl rfl|exact Or.inr (Or.inl rfl)|exact Or.inr (Or.inr rfl))(hd:(x==("__debug__":Str))=false:=by decide)
  (hcd:(x==("__classdict__":Str))=false:=by decide)
  (ha:∀v,assign (.Subscript (.Name x p) ek tp) X.env v=(do
   let ov<-holding [v] (eval (.Name x p) X.env)
   let iv<-holding [v,ov] (eval ek X.env)
   standAt tp
   holding [v,ov,iv] (setItem ov iv v)
   release [v,ov,iv] []):=by intro _;rfl)
  (hs:swapsWithSole [.Subscript (.Name x p) ek tp] e pos.line X.env=pure false:=by rfl)(hw:swappedStores [.Subscript (.Name x p) ek tp] e X.env=pure none:=by rfl)
  (h1:(assignEach [.Subscript (.Name x p) ek tp] X.env).map (·.2)=[assign (.Subscript (.Name x p) ek tp) X.env]:=by rfl):
  PS X (.Assign [.Subscript (.Name x p) ek tp] e pos) (tS X.K E fun env=>(f env).bind fun d=>(ownAt i env).bind fun xs=>(fk env).bind fun kd=>match kd with
   |.int j=>(match qZ xs.length j with
    |some n=>.ok (.nx (env.set i (.own (xs.set n d))))
    |none=>.bad)
   |_=>.bad):=
 oi (zG he (CG (jk hN hv hd hcd) hk set_list ha) hs hw h1) fun De σ H ⟨g,env,os,r,m⟩=>⟨g,env,os,r,m.bind.mono fun d _ m1 v H1 s1 i1=>by
  obtain⟨xs,e,m2⟩:=m1.bind.own
  obtain⟨a,vs,h1,h2,h3,h4⟩:=(r.same s1).own i xs e
  refine⟨.ref a,h1,g,env,os,r.same s1,m2.bind.mono fun kd _ m3 w H2 s2 i2=>?_⟩
  cases kd with
  |int j=>
   cases q:qZ xs.length j with
   |none=>
    simp only [q]at m3
    exact m3.elim
   |some n=>
    simp only [q]at m3
    refine⟨a,vs,j,n,rfl,i2,s2 _ _ h3,by rw[h4.length];exact q,?_⟩
    exact m3 σ _ os ((r.same (s1.trans s2)).mut e h1 h2 ((h4.same s2).set n (i1.same s2))) ((rB.same (s1.trans s2) os).trans (.mut h2))
  |non=>exact m3.elim
  |bl _=>exact m3.elim
  |lst _=>exact m3.elim
  |str _=>exact m3.elim
  |exc _=>exact m3.elim
  |fn _=>exact m3.elim
  |tup _=>exact m3.elim⟩
theorem Zy(i:Nat){x:Str}{e:Expr}{op:Operator}{h:Int->Int->Int}{f:DE->R D}{pos':Pos}(ho:Tn X op (Uo h))(he:PE X e (tB X.K E f))(hN:X.N.Nodup)(hi:X.N[i]?=some x:=by rfl)(hx:Loc X.env.scope x:=by first|exact Or.inl rfl|exact Or.inr rfl)
  (hf:X.fn x=true\/X.env.scope.names.lookup x=some .local:=by first|exact .inl rfl|exact .inr rfl|assumption):
  PS X (.AugAssign (.Name x pos') op e pos) (tS X.K E fun env=>(ck i env).bind fun a=>(f env).bind fun b=>match a,b with
   |.int u,.int w=>.ok (.nx (env.set i (.val (.int (h u w)))))
   |_,_=>.bad):=
 oi (CH hN hi hx he ho hf) fun De σ H ⟨g,env,os,r,m⟩=>by
  dsimp only [ck]at m
  cases q:env[i]? with
  |none=>rw[q]at m;exact m.elim
  |some sl=>
   cases sl with
   |no=>rw[q]at m;exact m.elim
   |raw _=>rw[q]at m;exact m.elim
   |deep _=>rw[q]at m;exact m.elim
   |own _=>rw[q]at m;exact m.elim
   |val a=>
    rw[q]at m
    obtain⟨v,h1,h2⟩:=r.val i a q
    have m':Good E g.H₀ ((f env).bind _) _:=m
    refine⟨v,h1,g,env,os,r,m'.bind.mono fun b _ m2 w H' s i2=>?_⟩
    cases a with
    |int u=>
     cases b with
     |int w'=>exact⟨u,w',h2,i2,m2 _ H' os ((r.same s).set i rfl) (.same s os)⟩
     |non=>exact m2.elim
     |bl _=>exact m2.elim
     |lst _=>exact m2.elim
     |str _=>exact m2.elim
     |exc _=>exact m2.elim
     |fn _=>exact m2.elim
     |tup _=>exact m2.elim
    |non=>exact m2.elim
    |bl _=>exact m2.elim
    |lst _=>exact m2.elim
    |str _=>exact m2.elim
    |exc _=>exact m2.elim
    |fn _=>exact m2.elim
    |tup _=>exact m2.elim
def Yl(K:PySem.W.Frag)(P:Addr->Prop)(J:It)(H:Hp)(xs:List D):Prop:=
 ∀(i:Nat)(H':Hp)(P':Addr->Prop),Ext P P' H H'->(∀d,xs[i]?=some d->J.go i H'/\∀x Rb,J.Up i H' x Rb->aC H' Rb/\Is K (fun a=>P' a\/H' a=none) Rb d x)/\(xs.length=i->J.stop i H')
def tI(K:PySem.W.Frag)(E:Str->Hp->Prop)(f:DE->R (List D)):TI:=fun σ H Rr=>∃g env os,Rel K g env σ H os/\Good E g.H₀ (f env) fun xs=>∀J H1,aC H H1->Yl K (g.P os) J H1 xs->Rr J H1
theorem Ip{tg e:Expr}{t t':TI}(h:PI X tg e t)(w:∀σ H Q,t' σ H Q->t σ H Q):PI X tg e t':=fun pins s σ H Q I q=>h pins s σ H Q I (w σ H Q q)
def Zz(K:PySem.W.Frag)(P:Addr->Prop)(J:It)(H:Hp)(xs:List D):Prop:=
 ∀(i:Nat)(H':Hp)(P':Addr->Prop),aC H H'->Ext P P' H H'->(∀d,xs[i]?=some d->J.go i H'/\∀x Rb,J.Up i H' x Rb->aC H' Rb/\Is K (fun a=>P' a\/H' a=none) Rb d x)/\(xs.length=i->J.stop i H')
def Tt(K:PySem.W.Frag)(E:Str->Hp->Prop)(f:DE->R (List D)):TI:=fun σ H Rr=>∃g env os,Rel K g env σ H os/\Good E g.H₀ (f env) fun xs=>∀J H1,aC H H1->Zz K (g.P os) J H1 xs->Rr J H1
theorem zR{tg e:Expr}{f:DE->R (List D)}(h:PI X tg e (tI X.K E f)):PI X tg e (Tt X.K E f):=Ip h fun σ H Q ⟨g,env,os,r,m⟩=>⟨g,env,os,r,m.mono fun xs _ q J H1 s1 yl=>q J H1 s1 fun i H' P' _ ex=>yl i H' P' ex⟩
theorem iLS{tg e:Expr}{f:DE->R (List D)}(he:PE X e (tL X.K E f)):PI X tg e (Tt X.K E f):=
 Ip (vK he) fun σ H Q ⟨g,env,os,r,m⟩=>⟨g,env,os,r,m.mono fun xs _ q a vs H' s h1 h2=>by
  refine⟨a,rfl,⟨vs,h1⟩,q _ H' s fun j H2 P' ss ex=>⟨fun d hd=>?_,fun hj=>?_⟩⟩
  ·obtain⟨x,hx,hi⟩:=(IsL.ext ex _ _ h2).get hd
   refine⟨⟨vs,x,ss.seq h1,hx⟩,fun y H3 hy=>?_⟩
   obtain⟨rfl,hy⟩:=hy
   have e2:=hy vs (ss.seq h1)
   rw[hx]at e2
   cases e2
   exact⟨aC.refl _,Is.ext ⟨fun _ _ p _=>.inl p,fun _ _ _ z=>z⟩ _ _ hi⟩
  ·exact⟨vs,ss.seq h1,by rw[IsL.length h2];exact le_of_eq hj⟩⟩
theorem iL{tg e:Expr}{f:DE->R D}(he:PE X e (tD X.K E f)):PI X tg e (tI X.K E fun env=>(f env).bind uU):=
 Ip (vK he) fun σ H Q ⟨g,env,os,r,m⟩=>⟨g,env,os,r,m.bind.mono fun d _ q v H' s i=>by
  cases d with
  |lst xs=>
   obtain⟨a,vs,rfl,h1,h2⟩:=i
   refine⟨a,rfl,⟨vs,h1.sq⟩,q _ H' s fun j H2 P' ex=>⟨fun d hd=>?_,fun hj=>?_⟩⟩
   ·obtain⟨x,hx,hi⟩:=(IsL.ext ex _ _ h2).get hd
    refine⟨⟨vs,x,(h1.ext ex).sq,hx⟩,fun y H3 hy=>?_⟩
    obtain⟨rfl,hy⟩:=hy
    have e2:=hy vs (h1.ext ex).sq
    rw[hx]at e2
    cases e2
    exact⟨aC.refl _,Is.ext ⟨fun _ _ p _=>.inl p,fun _ _ _ z=>z⟩ _ _ hi⟩
   ·exact⟨vs,(h1.ext ex).sq,by rw[IsL.length h2];exact le_of_eq hj⟩
  |non=>exact q.elim
  |bl _=>exact q.elim
  |int _=>exact q.elim
  |str _=>exact q.elim
  |exc _=>exact q.elim
  |fn _=>exact q.elim
  |tup _=>exact q.elim⟩
def rF(lo:Int)(n:Nat):List D:=(range n).map fun i=>.int (lo+(i:Nat))
def Ir:List D->R (List D)
 |[.int j]=> @ite _ (-(2^62)<=j/\j<2^62) (propDecidable _) (.ok (rF 0 j.toNat)) (.bad)
 |_=>.bad
def Iu:List D->R (List D)
 |[.int i,.int j]=> @ite _ (-(2^62)<=i/\i<2^62/\ -(2^62)<=j/\j<2^62) (propDecidable _) (.ok (rF i (j-i).toNat)) (.bad)
 |_=>.bad
theorem Iw{K:PySem.W.Frag}{P:Addr->Prop}{H:Hp}(lo:Int)(n:Nat):Yl K P (Uq lo n) H (rF lo n):=fun i H' P' ex=>⟨fun d hd=>by
 unfold rF at hd
 rw[getElem?_map]at hd
 have hi:i<n:=by
  cases q:(range n)[i]? with
  |none=>rw[q]at hd;cases hd
  |some j=>simpa using(List.getElem?_eq_some_iff.mp q).1
 rw[List.getElem?_range hi]at hd
 cases hd
 refine⟨hi,fun x H2 hy=>?_⟩
 obtain⟨rfl,rfl⟩:=hy
 exact⟨aC.refl _,rfl⟩,fun h=>by
 unfold rF at h
 exact le_of_eq (by simpa using h)⟩
theorem iR1{tg a:Expr}{p:Pos}{f:DE->R (List D)}(hm:X.mg "range"=none)(ha:PA X [a] (qo X.K E f))(hg:Gl X "range":=by rfl)(hs:starEach [a] X.env=[(false,eval a X.env)]:=by rfl):
  PI X tg (.Call (.Name "range" p) [a] [] pos) (tI X.K E fun env=>(f env).bind Ir):=
 Ip (FP hg hm ha hs) fun σ H Q ⟨g,env,os,r,m⟩=>⟨g,env,os,r,m.bind.mono fun ds _ q vs H' s i=>by
  unfold Ir at q
  split at q
  ·rename_i j _
   split at q
   ·rename_i c
    obtain⟨v,rfl,h1⟩:=IsL.vv i
    have h':v=.int j:=h1
    subst h'
    exact⟨j,rfl,c.1,c.2,q _ H' s (Iw 0 _)⟩
   ·exact q.elim
  ·exact q.elim⟩
theorem iR2{tg a b:Expr}{p:Pos}{f:DE->R (List D)}(hm:X.mg "range"=none)(ha:PA X [a,b] (qo X.K E f))(hg:Gl X "range":=by rfl)(hs:starEach [a,b] X.env=[(false,eval a X.env),(false,eval b X.env)]:=by rfl)(hs2:starEach [b] X.env=[(false,eval b X.env)]:=by rfl):
  PI X tg (.Call (.Name "range" p) [a,b] [] pos) (tI X.K E fun env=>(f env).bind Iu):=
 Ip (FQ hg hm ha hs hs2) fun σ H Q ⟨g,env,os,r,m⟩=>⟨g,env,os,r,m.bind.mono fun ds _ q vs H' s i=>by
  unfold Iu at q
  split at q
  ·rename_i u j _
   split at q
   ·rename_i c
    obtain⟨v,w,rfl,h1,h2⟩:=IsL.Q9 i
    have h':v=.int u:=h1
    have Oj:w=.int j:=h2
    subst h' Oj
    exact⟨u,j,rfl,c,q _ H' s (Iw u _)⟩
   ·exact q.elim
  ·exact q.elim⟩
def tG(K:PySem.W.Frag)(E:Str->Hp->Prop)(b:D->DE->R DE):TG:=fun v σ H Q=>∃g env os d,Rel K g env σ H os/\Is K (g.P os) H d v/\Good E g.H₀ (b d env) fun e'=>∀σ',Rel K g e' σ' H os->Q σ' H
def Om(K:PySem.W.Frag)(E:Str->Hp->Prop)(b:List D->DE->R DE):LH:=fun vs σ H Q=>∃g env os ds,Rel K g env σ H os/\IsL K (g.P os) H ds vs/\Good E g.H₀ (b ds env) fun e'=>∀σ',Rel K g e' σ' H os->Q σ' H
theorem Vb{e:Expr}{t t':TG}(h:PG X e t)(w:∀v σ H Q,t' v σ H Q->t v σ H Q):PG X e t':=fun pins s σ H v u Q I r q=>h pins s σ H v u Q I r (w v σ H Q q)
theorem Oo{e:List Expr}{t t':LH}(h:DV X e t)(w:∀v σ H Q,t' v σ H Q->t v σ H Q):DV X e t':=fun pins s σ H v u Q I r q=>h pins s σ H v u Q I r (w v σ H Q q)
theorem gN(i:Nat){x:Str}(hN:X.N.Nodup)(hi:X.N[i]?=some x:=by rfl)(hx:Loc X.env.scope x:=by first|exact Or.inl rfl|exact Or.inr rfl)(hf:X.fn x=true\/X.env.scope.names.lookup x=some .local:=by first|exact .inl rfl|exact .inr rfl|assumption):
  PG X (.Name x pos) (tG X.K E fun d env=>.ok (env.set i (.val d))):=Vb (zF hN hi hx hf) fun v σ H Q ⟨g,env,os,d,r,h,m⟩=>m _ (r.set i h)
theorem Vc:DV X [] (Om X.K E fun ds env=>match ds with
  |[]=>.ok env
  |_=>.bad):=Oo LJ fun vs σ H Q ⟨g,env,os,ds,r,h,m⟩=>by
 cases ds with
 |nil=>exact⟨h,m σ r⟩
 |cons _ _=>exact m.elim
theorem Rc{e:Expr}{es:List Expr}{b:D->DE->R DE}{k:List D->DE->R DE}(h1:PG X e (tG X.K E b))(h2:DV X es (Om X.K E k))(hs:(assignEach (e::es) X.env).map (·.2)=assign e X.env::(assignEach es X.env).map (·.2):=by rfl):
  DV X (e::es) (Om X.K E fun ds env=>match ds with
   |d::r=>(b d env).bind fun e'=>k r e'
   |_=>.bad):=Oo (HD h1 h2 hs) fun vs σ H Q ⟨g,env,os,ds,r,h,m⟩=>by
 cases ds with
 |nil=>exact m.elim
 |cons d rest=>
  obtain⟨v,vr,rfl,p,q⟩:=h
  have m':Good E g.H₀ ((b d env).bind fun e'=>k rest e') _:=m
  exact⟨v,vr,rfl,g,env,os,d,r,p,m'.bind.mono fun e' _ m2 σ' r'=>⟨g,e',os,rest,r',q,m2⟩⟩
theorem gT{es:List Expr}{kk:Nat}{b:List D->DE->R DE}{n:Nat}(hc:X.calm=true)(h:DV X es (Om X.K E b))(hn:(assignEach es X.env).length=n:=by rfl)(hst:(assignEach es X.env).findIdx? (·.1)=none:=by rfl):
  PG X (.Tuple es kk pos) (tG X.K E fun d env=>match d with
   |.tup ds=>if ds.length=n then b ds env else .bad
   |_=>.bad):=Vb (QF hc h hn hst) fun v σ H Q ⟨g,env,os,d,r,h,m⟩=>by
 cases d with
 |tup ds=>
  obtain⟨a,vs,rfl,h1,h2⟩:=h
  have m':Good E g.H₀ (if ds.length=n then b ds env else .bad) _:=m
  split at m'
  ·rename_i c
   exact⟨a,vs,rfl,h1.sq,by rw[IsL.length h2];exact c,g,env,os,ds,r,h2,m'⟩
  ·exact m'.elim
 |non=>exact m.elim
 |bl _=>exact m.elim
 |int _=>exact m.elim
 |str _=>exact m.elim
 |lst _=>exact m.elim
 |exc _=>exact m.elim
 |fn _=>exact m.elim
theorem wH{tg iter:Expr}{body:List Stmt}{f:DE->R (List D)}{b:D->DE->R DE}{k:DE->R Out}(hp:PassesOwn (model X.prog X.w) X.A X.env X.xe)(hc:X.calm=true)(hi:PI X tg iter (tI X.K E f))(hg:PG X tg (tG X.K E b))(hb:nA X body (tS X.K E k))
  (hs:∀x,foldedSetIterable iter X.env x=pure x:=by intro _;rfl):PS X (.For tg iter body [] pos) (tS X.K E fun env=>(f env).bind fun xs=>fq (fun d e=>(b d e).bind k) xs env):=
 oi (HH hp hc hi hg hb hs) fun De σ H ⟨g,env,os,r,m⟩=>⟨g,env,os,r,m.bind.mono fun xs _ m1 J H1 s1 yl=>by
  refine⟨fun i n σ' H'=>n=xs.length-i/\i<=xs.length/\∃yz gO,Rel X.K g yz σ' H' gO/\rB H1 os H' gO/\Good E g.H₀ (fq (fun d e=>(b d e).bind k) (xs.drop i) yz) (dW X.K g H' gO De),
   ⟨xs.length,by simp,zero_le _,env,os,r.same s1,.refl _ _,by rw[drop_zero];exact m1.mono fun o _ q=>dW.step (.same s1 os) q⟩,?_⟩
  rintro i n σ' H' ⟨rfl,hi,yz,gO,r',st,m2⟩
  obtain⟨y1,y2⟩:=yl i H' (g.P gO) st.ext
  by_cases hlt:i<xs.length
  ·have hx:xs[i]?=some xs[i]:=getElem?_eq_getElem hlt
   obtain⟨go,y3⟩:=y1 _ hx
   rw[List.drop_eq_getElem_cons hlt]at m2
   refine .inr ⟨go,fun σ2 H2=>∃Vd Tp,Rel X.K g Vd σ2 H2 Tp/\rB H1 os H2 Tp/\Good E g.H₀ (fq (fun d e=>(b d e).bind k) (xs.drop (i+1)) Vd) (dW X.K g H2 Tp De),fun σ2 H2 ⟨e2,o2,r2,t2,g2⟩=>⟨xs.length-(i+1),by omega,rfl,hlt,e2,o2,r2,t2,g2⟩,fun x H2 hy=>?_⟩
   obtain⟨s2,Ve⟩:=y3 x H2 hy
   have r2:=r'.same s2
   have ix:Is X.K (g.P gO) H2 xs[i] x:=Is.ext ⟨fun a o p _=>p.elim (fun z=>z) fun z=>r'.fresh z,fun _ _ _ z=>z⟩ _ _ Ve
   have m3:Good E g.H₀ (((b xs[i] yz).bind k).bind _) _:=m2
   refine⟨g,yz,gO,xs[i],r2,ix,m3.bind.bind.mono fun e3 _ m4 σ3 r3=>⟨g,e3,gO,r3,Good.mono m4 fun o _ q=>?_⟩⟩
   have FU:=st.trans (rB.same s2 gO)
   cases o with
   |nx e4=>exact fun σ4 H4 Vf r4 z=>⟨e4,Vf,r4,FU.trans z,Good.mono (show Good E g.H₀ (fq _ _ e4) _ from q) fun o _ q=>dW.step ((rB.same s2 gO).trans z) q⟩
   |ct e4=>exact fun σ4 H4 Vf r4 z=>⟨e4,Vf,r4,FU.trans z,Good.mono (show Good E g.H₀ (fq _ _ e4) _ from q) fun o _ q=>dW.step ((rB.same s2 gO).trans z) q⟩
   |bk e4=>exact fun σ4 H4 Vf r4 z=>(show dW X.K g H' gO De (.nx e4)from q) σ4 H4 Vf r4 ((rB.same s2 gO).trans z)
   |rt d=>exact q
   |oH ys=>exact q
   |Gd ys=>exact q
   |D6 ys=>exact q
   |Gb ys=>exact q
   |AF ys=>exact q
  ·have e:i=xs.length:=by omega
   subst e
   rw[drop_length]at m2
   exact .inl ⟨y2 rfl,(show dW X.K g H' gO De (.nx yz)from m2) σ' H' gO r' (.refl _ _)⟩⟩
end
def au(n:Nat)(ds:List D):DE:=ds.map .val++replicate (n-ds.length) .no
theorem lI{K:PySem.W.Frag}{N:List Str}{P:Addr->Prop}{H:Hp}{ds:List D}{vs:List V}(h:IsL K P H ds vs):Rel K ⟨P,H⟩ (au N.length ds) (L2.start N vs) H []:=by
 have hl:=h.length
 refine⟨by simp[au,L2.start,hl],aC.refl H,fun i d e=>?_,fun i xs e=>?_,fun i j xs ys a e=>?_,(fun a ha=>nomatch ha),fun i v e=>?_,A0.none fun i v e=>?_⟩
 ·unfold au at e
  by_cases hi:i<ds.length
  ·rw[getElem?_append_left (by simpa using hi),getElem?_map,getElem?_eq_getElem hi]at e
   have e':Sl.val ds[i]=Sl.val d:=Option.some.inj e
   cases e'
   obtain⟨v,h1,h2⟩:=h.get (getElem?_eq_getElem hi)
   refine⟨v,?_,Is.ext ⟨fun a o p _=>⟨.inl p,by simp⟩,fun _ _ _ z=>z⟩ _ _ h2⟩
   unfold L2.start
   rw[getElem?_append_left (by simp;omega),getElem?_map,h1]<;>rfl
  ·rw[getElem?_append_right (by simp;omega)]at e
   have:=getElem?_replicate (n:=N.length-ds.length) (a:=Sl.no) (i:=i-(ds.map Sl.val).length)
   rw[this]at e
   split at e<;>cases e
 ·exfalso
  unfold au at e
  by_cases hi:i<ds.length
  ·rw[getElem?_append_left (by simpa using hi),getElem?_map,getElem?_eq_getElem hi]at e
   cases e
  ·rw[getElem?_append_right (by simp;omega)]at e
   have:=getElem?_replicate (n:=N.length-ds.length) (a:=Sl.no) (i:=i-(ds.map Sl.val).length)
   rw[this]at e
   split at e<;>cases e
 ·exfalso
  unfold au at e
  by_cases hi:i<ds.length
  ·rw[getElem?_append_left (by simpa using hi),getElem?_map,getElem?_eq_getElem hi]at e
   cases e
  ·rw[getElem?_append_right (by simp;omega)]at e
   have:=getElem?_replicate (n:=N.length-ds.length) (a:=Sl.no) (i:=i-(ds.map Sl.val).length)
   rw[this]at e
   split at e<;>cases e
 ·exfalso
  unfold au at e
  by_cases hi:i<ds.length
  ·rw[getElem?_append_left (by simpa using hi),getElem?_map,getElem?_eq_getElem hi]at e
   cases e
  ·rw[getElem?_append_right (by simp;omega)]at e
   have:=getElem?_replicate (n:=N.length-ds.length) (a:=Sl.no) (i:=i-(ds.map Sl.val).length)
   rw[this]at e
   split at e<;>cases e
 ·exfalso
  unfold au at e
  by_cases hi:i<ds.length
  ·rw[getElem?_append_left (by simpa using hi),getElem?_map,getElem?_eq_getElem hi]at e
   cases e
  ·rw[getElem?_append_right (by simp;omega)]at e
   have:=getElem?_replicate (n:=N.length-ds.length) (a:=Sl.no) (i:=i-(ds.map Sl.val).length)
   rw[this]at e
   split at e<;>cases e
def ai:Out->R D
 |.rt d=>.ok d
 |.oH xs=>.ok (.lst xs)
 |.nx _=>.ok .non
 |_=>.bad
def aj:Out->R (List D)
 |.oH xs=>.ok xs
 |_=>.bad
abbrev EN:Str->Hp->Prop:=fun _ _=>False
section
variable{P:Program}{w:World}{K:PySem.W.Frag}{mg:Str->Option Value}{base:Heap}
theorem Is.P0 {Q:Addr->Prop}{H H':Hp}{d:D}{v:V}(h:Is K ((⟨Q,H⟩:Gh).P []) H' d v):Is K (fun a=>Q a\/H a=none) H' d v:=Is.ext ⟨fun _ _ p _=>p.1,fun _ _ _ z=>z⟩ _ _ h
theorem ZA{x qual:Str}{st:Stmt}{f:Addr}{fd:FuncData}{N ps:List Str}{k:Nat}{xc:Str->Value}{m:List D->R D}{b:DE->R Out}(F:zL K x qual st f fd)(S:aw N ps (aa st))
  (hm:∀ds d,m ds=.ok d->ds.length=ps.length/\(b (au N.length ds)).bind ai=.ok d)(hne:∀ds c,m ds≠.err c)
  (hb:∀(cdv:Value)(A:Around)(outer:List Env)(s:Shared)(H:Hp)(E:XK),aY k (A.deeper (envOfC qual (aa st) s.heap.objs.size f cdv))->nA (bA kh P w K mg base N qual (aa st) f cdv A outer s H E).DU (bx st) (tS K EN b)):
  bH P w K mg base kh (k+1) f fd ps (Ea K xc m):=by
 refine F.ok S (fun vs H Q E h=>?_) (fun cdv A outer s H vs Q E hr h=>?_)
 ·obtain⟨Pa,ds,i,h⟩:=h
  cases e:m ds with
  |ok d=>rw[i.length];exact(hm ds d e).1
  |err c=>exact(hne ds c e).elim
  |bad=>rw[e]at h;exact h.elim
 ·obtain⟨Pa,ds,i,h⟩:=h
  refine⟨_,hb cdv A outer s H E hr,⟨⟨Pa,H⟩,au N.length ds,[],lI i,?_⟩⟩
  cases e:m ds with
  |err c=>exact(hne ds c e).elim
  |bad=>rw[e]at h;exact h.elim
  |ok d=>
   rw[e]at h
   obtain⟨_,q⟩:=hm ds d e
   cases eb:b (au N.length ds)with
   |bad=>rw[eb]at q;cases q
   |err c=>rw[eb]at q;cases q
   |ok o=>
    rw[eb]at q
    cases o with
    |rt d'=>
     cases q
     exact fun v H' s' i'=>h v H' s' i'.P0
    |oH xs=>
     cases q
     intro a AE H' s' hn hH i'
     exact h _ H' s' ⟨a,AE,rfl,.inl ⟨.inr hn,.inl hH⟩,IsL.ext ⟨fun b o p _=>p.1,fun _ _ _ z=>z⟩ _ _ i'⟩
    |nx e'=>
     cases q
     exact fun σ' H' gO r' _=>h _ H' r'.ext rfl
    |Gd _=>cases q
    |D6 _=>cases q
    |Gb _=>cases q
    |AF _=>cases q
    |bk _=>cases q
    |ct _=>cases q
theorem ZC{x qual:Str}{st:Stmt}{f:Addr}{fd:FuncData}{N ps:List Str}{k:Nat}{xc:Str->Value}{m:List D->R (List D)}{b:DE->R Out}(F:zL K x qual st f fd)(S:aw N ps (aa st))
  (hm:∀ds d,m ds=.ok d->ds.length=ps.length/\(b (au N.length ds)).bind aj=.ok d)(hne:∀ds c,m ds≠.err c)
  (hb:∀(cdv:Value)(A:Around)(outer:List Env)(s:Shared)(H:Hp)(E:XK),aY k (A.deeper (envOfC qual (aa st) s.heap.objs.size f cdv))->nA (bA kh P w K mg base N qual (aa st) f cdv A outer s H E).DU (bx st) (tS K EN b)):
  bH P w K mg base kh (k+1) f fd ps (Lf K xc m):=by
 refine F.ok S (fun vs H Q E h=>?_) (fun cdv A outer s H vs Q E hr h=>?_)
 ·obtain⟨Pa,ds,i,h⟩:=h
  cases e:m ds with
  |ok d=>rw[i.length];exact(hm ds d e).1
  |err c=>exact(hne ds c e).elim
  |bad=>rw[e]at h;exact h.elim
 ·obtain⟨Pa,ds,i,h⟩:=h
  refine⟨_,hb cdv A outer s H E hr,⟨⟨Pa,H⟩,au N.length ds,[],lI i,?_⟩⟩
  cases e:m ds with
  |err c=>exact(hne ds c e).elim
  |bad=>rw[e]at h;exact h.elim
  |ok d=>
   rw[e]at h
   obtain⟨_,q⟩:=hm ds d e
   cases eb:b (au N.length ds)with
   |bad=>rw[eb]at q;cases q
   |err c=>rw[eb]at q;cases q
   |ok o=>
    rw[eb]at q
    cases o with
    |rt d'=>cases q
    |oH xs=>
     cases q
     intro a AE H' s' hn hH i'
     exact h a AE H' s' hn hH (IsL.ext ⟨fun b o p _=>⟨p.1,fun z=>p.2 (by simp[z])⟩,fun _ _ _ z=>z⟩ _ _ i')
    |nx e'=>cases q
    |Gd _=>cases q
    |D6 _=>cases q
    |Gb _=>cases q
    |AF _=>cases q
    |bk _=>cases q
    |ct _=>cases q
end
def yn(cells:List (Str×Addr)):List (Str×NameKind)->List (Str×Addr)->List (Str×Addr)
 |[],acc=>acc
 |(n,k)::r,acc=>if(k==NameKind.free)=true then yn cells r ((n,(cells.lookup n).getD 0)::acc)else yn cells r acc
theorem kW{scope:Scope}{env:Env}(h:∀y∈scope.names,y.2=.free->∃c,env.cells.lookup y.1=some c):closureFor scope env=pure (yn env.cells scope.names []):=by
 have gen:∀(l:List (Str×NameKind))(acc:List (Str×Addr)),(∀y∈l,y.2=.free->∃c,env.cells.lookup y.1=some c)->
   (forIn l acc fun(x:Str×NameKind)(r:List (Str×Addr))=>(if(x.2==NameKind.free)=true then(do let a<-cellOf env x.1;pure (ForInStep.yield ((x.1,a)::r)))else pure (ForInStep.yield r):Sem (ForInStep (List (Str×Addr)))))=pure (yn env.cells l acc):=by
  intro l
  induction l with
  |nil=>intro acc _;rfl
  |cons y r ih=>
   intro acc hy
   obtain⟨n,k⟩:=y
   rw[List.forIn_cons]
   have hr:∀y∈r,y.2=.free->∃c,env.cells.lookup y.1=some c:=fun y h=>hy y (mem_cons_of_mem _ h)
   by_cases hk:(k==NameKind.free)=true
   ·obtain⟨c,hc⟩:=hy (n,k) mem_cons_self (by simpa using hk)
    have Hu:env.cells.lookup n=some c:=hc
    simp only [hk,if_true,yn,cellOf,Hu,Option.getD_some]
    exact ih _ hr
   ·simp only [hk,yn]
    exact ih _ hr
 show((forIn scope.names ([]:List (Str×Addr)) fun(x:Str×NameKind)(r:List (Str×Addr))=>(if(x.2==NameKind.free)=true then(do let a<-cellOf env x.1;pure (ForInStep.yield ((x.1,a)::r)))else pure (ForInStep.yield r):Sem (ForInStep (List (Str×Addr)))))>>=fun s=>pure s)=_
 rw[gen scope.names [] h]
 rfl
theorem qJ{cells:List (Str×Addr)}{x:Str}:∀(l:List (Str×NameKind))(acc:List (Str×Addr)),(∀y∈l,y.2=.free->∃c,cells.lookup y.1=some c)->(∀c,acc.lookup x=some c->cells.lookup x=some c)->
  ∀c,(yn cells l acc).lookup x=some c->cells.lookup x=some c
 |[],acc,_,h,c,e=>h c e
 |(n,k)::r,acc,hy,h,c,e=>by
  unfold yn at e
  have hr:∀y∈r,y.2=.free->∃c,cells.lookup y.1=some c:=fun y h=>hy y (mem_cons_of_mem _ h)
  split at e
  ·rename_i hk
   refine qJ r _ hr (fun c' e'=>?_) c e
   rw[lookup_cons]at e'
   obtain⟨c0,hc0⟩:=hy (n,k) mem_cons_self (by simpa using hk)
   have Vg:cells.lookup n=some c0:=hc0
   cases hx:x==n with
   |true=>
    rw[hx]at e'
    have ex:x=n:=by simpa using hx
    rw[Vg]at e'
    cases e'
    rw[ex];exact Vg
   |false=>
    rw[hx]at e'
    exact h c' e'
  ·exact qJ r _ hr h c e
theorem vN{cells:List (Str×Addr)}{x:Str}:∀(l:List (Str×NameKind))(acc:List (Str×Addr)),((∃c,acc.lookup x=some c)\/(x,NameKind.free)∈l)->∃c,(yn cells l acc).lookup x=some c
 |[],acc,h=>h.elim (fun z=>z) fun z=>nomatch z
 |(n,k)::r,acc,h=>by
  unfold yn
  split
  ·rename_i hk
   refine vN r _ ?_
   by_cases hx:x=n
   ·exact .inl ⟨_,by rw[lookup_cons,beq_iff_eq.mpr hx]⟩
   ·rcases h with⟨c,h⟩|h
    ·refine .inl ⟨c,?_⟩
     rw[lookup_cons,beq_eq_false_iff_ne.mpr hx];exact h
    ·rcases mem_cons.mp h with z|z
     ·cases z;exact absurd rfl hx
     ·exact .inr z
  ·rename_i hk
   refine vN r _ ?_
   rcases h with h|h
   ·exact .inl h
   ·rcases mem_cons.mp h with z|z
    ·cases z;exact absurd (by simp) hk
    ·exact .inr z
def lJ(X:Cx)(scope:Scope)(N:List Str)(s:Shared)(H:Hp)(fp:List Addr)(C:Addr)(pl:List (Addr×Obj)):Cx where
 prog:=X.prog
 w:=X.w
 K:=X.K
 mg:=X.mg
 base:=X.base
 A:=X.A
 N:=N
 s₀:=s
 H₀:=H
 env:=compEnvC scope (yn X.env.cells scope.names []) C X.env
 outer:=X.stack
 stack:=X.stack
 ex:=fp
 fn:=fun _=>false
 calm:=X.calm
 pn:=pl
 xe:=fun _ _=>False
structure fY(X:Cx)(scope:Scope)(N:List Str)(nt:Nat)(caps:List Nat):Prop where
 kind:scope.kind=.function
 cell:∀y∈scope.names,y.2≠.cell
 names:∀y∈scope.names,y.2=.local->scope.names.lookup y.1=some .local
 free:∀y∈scope.names,y.2=.free->X.env.kindOf y.1=some .cell\/X.env.kindOf y.1=some .free
 len:N.length=nt+caps.length
 nd:N.Nodup
 caps:∀(j i:Nat),caps[j]?=some i->∃x,N[nt+j]?=some x/\X.N[i]?=some x/\scope.names.lookup x=some .free/\yV X.env.scope x
theorem gq{scope:Scope}{env:Env}{x:Str}{k:NameKind}(h:(relabel scope env).names.lookup x=some k):∃k',scope.names.lookup x=some k'/\(k=k'\/(k'=.free/\k=.cell)):=by
 unfold relabel at h
 dsimp only at h
 generalize scope.names=l at h
 induction l with
 |nil=>cases h
 |cons y r ih=>
  obtain⟨n,kk⟩:=y
  rw[map_cons]at h
  by_cases hc:(kk==NameKind.free&&env.scope.kind==.function&&env.kindOf n==some .cell)=true
  ·simp only [hc,if_true]at h
   rw[lookup_cons]at h⊢
   cases hx:x==n with
   |true=>
    rw[hx]at h
    cases h
    simp only [and_eq_true]at hc
    exact⟨kk,rfl,.inr ⟨by simpa using hc.1.1,rfl⟩⟩
   |false=>
    rw[hx]at h
    exact ih h
  ·simp only [hc,false_eq_true,if_false]at h
   rw[lookup_cons]at h⊢
   cases hx:x==n with
   |true=>
    rw[hx]at h
    exact⟨kk,rfl,.inl (Option.some.inj h).symm⟩
   |false=>
    rw[hx]at h
    exact ih h
theorem mem_of_lookup{α:Type}{l:List (Str×α)}{x:Str}{k:α}(h:l.lookup x=some k):(x,k)∈l:=by
 induction l with
 |nil=>cases h
 |cons y r ih=>
  obtain⟨n,kk⟩:=y
  rw[lookup_cons]at h
  cases hx:x==n with
  |true=>
   rw[hx]at h
   cases h
   have ex:x=n:=by simpa using hx
   rw[ex];exact mem_cons_self
  |false=>
   rw[hx]at h
   exact mem_cons_of_mem _ (ih h)
section
variable{X:Cx}{scope:Scope}{N:List Str}{nt:Nat}{caps:List Nat}{pins:List (Addr×Obj)}{σ:St}{H:Hp}{s:Shared}
theorem fY.cells (S:fY X scope N nt caps)(I:Inv X pins σ H s):∀y∈scope.names,y.2=.free->∃c,X.env.cells.lookup y.1=some c:=fun y hy hf=>I.ok.has y.1 (S.free y hy hf)
theorem fY.lk (S:fY X scope N nt caps)(I:Inv X pins σ H s){x:Str}{c:Addr}(h:(yn X.env.cells scope.names []).lookup x=some c):X.env.cells.lookup x=some c:=
 qJ scope.names [] (S.cells I) (fun c e=>by cases e) c h
theorem fY.start (S:fY X scope N nt caps)(I:Inv X pins σ H s){fp:List Addr}(hf:∀b∈fp,kg X pins H b){C:Addr}{h':Heap}{m:Str->Option Value}{t':Nat}(hC:s.heap.objs.size<=C)(hn:h'.Ns C m)(k:∀b o,s.heap.get? b=some o->h'.get? b=some o)
  (hpin:∀b∈fp,∃o,s.heap.get? b=some o)
  {vs:List V}(hv:vs.length=caps.length)(hvs:∀(j i:Nat)(v:V),caps[j]?=some i->vs[j]?=some v->σ[i]?=some (some v))(σ':St)(hσ:σ'=replicate nt none++vs.map some):
  Inv (lJ X scope N s H fp C (X.pn++pins)) [] σ' H {s with heap:=h',toks:=t'}:=by
 subst hσ
 have hH:∀b,s.heap.objs.size<=b->H b=none:=fun b hb=>I.hok.fresh hb
 have lk:=fun{x c}(h:(yn X.env.cells scope.names []).lookup x=some c)=>S.lk I h
 have ok:(lJ X scope N s H fp C (X.pn++pins)).Ok:={
  mod:=I.ok.mod
  kind:=S.kind
  glob:=I.ok.glob
  blt:=I.ok.blt
  above:=hC
  inj:=fun x y c h1 h2=>I.ok.inj x y c (lk h1) (lk h2)
  has:=fun x h=>by
   have h':(relabel scope X.env).names.lookup x=some .cell\/(relabel scope X.env).names.lookup x=some .free:=h
   have hfree:scope.names.lookup x=some .free:=by
    rcases h' with h'|h'
    ·obtain⟨k',e,q⟩:=gq h'
     rcases q with rfl|⟨rfl,_⟩
     ·exact absurd rfl (S.cell _ (mem_of_lookup e))
     ·exact e
    ·obtain⟨k',e,q⟩:=gq h'
     rcases q with rfl|⟨rfl,q⟩
     ·exact e
     ·exact e
   exact vN scope.names [] (.inr (mem_of_lookup hfree))
  N9:=fun x c h=>nomatch h
  hd:=I.ok.hd
  frames:=I.ok.frames
  Qx:=.inl rfl
  Oa:=fun b hb=>by
   obtain⟨o,e⟩:=hpin b hb
   exact⟨fun z=>absurd (lt_of_lt_of_le (Heap.lt_size e) (by rw[z];exact hC)) (Nat.lt_irrefl _),fun x c h=>(hf b hb).2.2.2.2.1 x c (lk h)⟩
  bs:=I.bs
  Hg:=le_trans I.ok.Hg I.sz
  AO:=fun b o e hb=>by
   rcases(hf b hb).2.2.2.1 with z|z
   ·exact I.ok.AO b o e z
   ·exact absurd (lt_of_lt_of_le (Heap.lt_size e) (le_trans I.ok.Hg z)) (Nat.lt_irrefl _)
  yu:=fun b hb z=>by
   rcases mem_cons.mp (I.qI b z)with q|q
   ·exact(hf b hb).2.1 q
   ·exact(hf b hb).2.2.1 q
  qH:=I.stack
  Lc:=I.pS}
 refine⟨ok,rfl,I.bare,Un.kept k,⟨m,hn,fun i x v e1 e2 e3=>?_⟩,fun x c e=>?_,hH C hC,fun x c e=>I.ki x c (lk e),fun p hp=>?_,I.hok.kept k,?_⟩
 ·have hi:nt<=i:=by
   refine Nat.le_of_not_lt fun z=>?_
   rw[getElem?_append_left (by simpa using z),getElem?_replicate]at e2
   split at e2<;>cases e2
  rw[getElem?_append_right (by simpa using hi),getElem?_map]at e2
  have Tu:(vs[i-nt]?).map some=some (some v):=by simpa using e2
  cases q:vs[i-nt]? with
  |none=>rw[q]at Tu;cases Tu
  |some v'=>
   rw[q]at Tu
   cases Tu
   have hj:i-nt<caps.length:=by rw[<-hv];exact(List.getElem?_eq_some_iff.mp q).1
   obtain⟨x',h1,h2,h3,h4⟩:=S.caps (i-nt) caps[i-nt] (getElem?_eq_getElem hj)
   have ex:x'=x:=by
    have F9:N[i]?=some x:=e1
    rw[show nt+(i-nt)=i by omega,F9]at h1
    exact(Option.some.inj h1).symm
   subst ex
   have hs:=hvs (i-nt) _ v (getElem?_eq_getElem hj) q
   obtain⟨m0,hn0,hl0⟩:=I.loc
   obtain⟨u,r,l⟩:=hl0 _ x' v h2 hs h4
   refine⟨u,r,?_⟩
   have hkx:=S.free _ (mem_of_lookup h3) rfl
   rcases l with⟨k1,_⟩|⟨k1,c,hc,hcell⟩
   ·have XX:X.env.kindOf x'=some .local:=k1
    rcases hkx with z|z
    ·have z':X.env.kindOf x'=some .cell:=z
     rw[XX]at z';cases z'
    ·have z':X.env.kindOf x'=some .free:=z
     rw[XX]at z';cases z'
   ·obtain⟨c',Hu⟩:=vN (cells:=X.env.cells) (x:=x') scope.names [] (.inr (mem_of_lookup h3))
    have:=lk Hu
    rw[hc]at this
    cases this
    refine .inr ⟨?_,c,Hu,let⟨o,ho,hd⟩:=hcell;⟨o,k _ o ho,hd⟩⟩
    rcases e3 with z|z|z
    ·exfalso
     obtain⟨k',e,q⟩:=gq (show(relabel scope X.env).names.lookup x'=some .local from z)
     rcases q with rfl|⟨_,q⟩
     ·rw[h3]at e;cases e
     ·cases q
    ·exact .inl z
    ·exact .inr z
 ·obtain⟨v,z⟩:=I.cell x c (lk e)
  exact⟨v,let⟨o,ho,hd⟩:=z;⟨o,k _ o ho,hd⟩⟩
 ·have Tv:p∈X.pn++pins:=by simpa[lJ]using hp
  obtain⟨e,n,ne,nf,d⟩:=I.pin p Tv
  refine⟨k _ _ e,n,fun z=>absurd (lt_of_lt_of_le (Heap.lt_size e) (by rw[z];exact hC)) (Nat.lt_irrefl _),fun z=>?_,d⟩
  rcases mem_cons.mp (I.qI _ z)with q|q
  ·exact ne q
  ·exact nf q
 ·show(replicate nt none++vs.map some).length=N.length
  rw[S.len];simp[hv]
end
section
variable{prog:Program}{w:World}{A:Around}{E:Value->Shared->Prop}{R:Result->Shared->Prop}{s:Shared}
theorem uV{elt target iter:Expr}{ifs:List Expr}{scope:Scope}{pos:Pos}{it acc:Value}{env:Env}(I:Nat->Shared->Prop)
  (turn:∀n s,I n s->wpAny (model prog w) A (pyNext it) (fun r s₁=>match r with
   |none=>R (.ok .next) s₁
   |some v=>wpAny (model prog w) A (letOwnedTupleGo target it v) (fun _ Vh=>wpAny (model prog w) A (assign target env v) (fun _ s₂=>
     wpAny (model prog w) A (forIn ifs true fun c r=>if r=true then do let ok<-isTrue c env (eval c env);pure (ForInStep.yield ok)else pure (ForInStep.yield r)) (fun ok s₃=>
      if ok=true then wpAny (model prog w) A (eval elt env) (fun x s₄=>
       wpAny (model prog w) A (call (.builtin "list.append") [acc,x]) (fun _ s₅=>∃m,m<n/\I m s₅) (fun _ _=>False) s₄) (fun _ _=>False) s₃
      else∃m,m<n/\I m s₃) (fun _ _=>False) s₂) (fun _ _=>False) Vh) (fun _ _=>False) s₁) (fun _ _=>False) s)
  (n:Nat)(h:I n s):
  codeAny (model prog w) A (.compLoop (.ListComp elt [⟨target,iter,ifs,0⟩] scope pos) 0 it acc env) R s:=by
 refine codeAny_loop rfl I (fun n s hI=>?_) n h
 show wpAny _ A ((compTurn (.ListComp elt [⟨target,iter,ifs,0⟩] scope pos) 0 it acc env).onRaise (fun x=>do noteFrame x env;theTreesLotGoes x)) _ _ s
 refine wpAny_noted ?_
 rw[compTurn_list]
 refine wpAny_bind (wpAny_standAt (wpAny_bind (wpAny_mono (turn n s hI) (fun r s₁ h₁=>?_) fun _ _ h'=>h'.elim)))
 cases r with
 |none=>exact wpAny_pure h₁
 |some v=>
  refine wpAny_bind (wpAny_mono h₁ (fun _ Vh ZD=>?_) fun _ _ h'=>h'.elim)
  refine wpAny_bind (wpAny_mono ZD (fun _ s₂ h₂=>wpAny_bind (wpAny_mono h₂ (fun ok s₃ h₃=>?_) fun _ _ h'=>h'.elim)) fun _ _ h'=>h'.elim)
  cases ok with
  |false=>exact wpAny_pure ⟨rfl,h₃⟩
  |true=>
   exact wpAny_bind (wpAny_bind (wpAny_mono h₃ (fun x s₄ h₄=>wpAny_bind (wpAny_mono h₄ (fun _ s₅ h₅=>wpAny_pure (wpAny_pure ⟨rfl,h₅⟩)) fun _ _ h'=>h'.elim)) fun _ _ h'=>h'.elim))
end
def Tw(X:Cx)(ifs:List Expr)(t:TT):Prop:=
 ∀(pins:List (Addr×Obj))(s:Shared)(σ:St)(H:Hp)(Q:Bool->Hp->Prop),Inv X pins σ H s->t σ H Q->
  wpAny (model X.prog X.w) X.A (forIn ifs true fun c r=>if r=true then do let ok<-isTrue c X.env (eval c X.env);pure (ForInStep.yield ok)else pure (ForInStep.yield r)) (TP X pins σ Q) X.xe s
theorem Oq{X:Cx}{E:Str->Hp->Prop}:Tw X [] (tT X.K E fun _=>.ok true):=fun pins s σ H Q I ⟨g,env,os,r,m⟩=>wpAny_tests_nil ⟨H,I,m H (aC.refl H)⟩
theorem ts1{X:Cx}{E:Str->Hp->Prop}{c:Expr}{f:DE->R Bool}(h:PT X c (tT X.K E f)):Tw X [c] (tT X.K E f):=fun pins s σ H Q I q=>wpAny_tests_one (h pins s σ H Q I q)
def bh(b:D->DE->R DE)(ct:DE->R Bool)(fe:DE->R D)(e₀:DE):List D->R (List D)
 |[]=>.ok []
 |x::xs=>(b x e₀).bind fun e=>(ct e).bind fun t=>if t=true then(fe e).bind fun d=>(bh b ct fe e₀ xs).bind fun ds=>.ok (d::ds)else bh b ct fe e₀ xs
def eR(env:DE):List Nat->R (List D)
 |[]=>.ok []
 |i::r=>(ck i env).bind fun d=>(eR env r).bind fun ds=>.ok (d::ds)
theorem Good.eR {K:PySem.W.Frag}{E:Str->Hp->Prop}{H₀ H:Hp}{g:Gh}{σ:St}{os:List Addr}{env:DE}(r:Rel K g env σ H os):∀{caps:List Nat}{p:List D->Prop},Good E H₀ (eR env caps) p->
  ∃ds vs,p ds/\vs.length=caps.length/\ds.length=caps.length/\IsL K (g.P os) H ds vs/\∀(j i:Nat)(v:V),caps[j]?=some i->vs[j]?=some v->σ[i]?=some (some v)
 |[],p,h=>⟨[],[],h,rfl,rfl,rfl,fun j i v e=>by simp at e⟩
 |i::rest,p,h=>by
  have h1:=h.bind
  unfold ck at h1
  split at h1
  ·rename_i d e
   have h2:Good E H₀ ((DL.eR env rest).bind fun ds=>.ok (d::ds)) p:=h1
   obtain⟨ds,vs,q1,q2,q3,q4,q5⟩:=Good.eR r h2.bind
   obtain⟨v,s1,s2⟩:=r.val i d e
   refine⟨d::ds,v::vs,q1,by simp[q2],by simp[q3],.cons s2 q4,fun j i' v' e1 e2=>?_⟩
   cases j with
   |zero=>simp at e1 e2;subst e1 e2;exact s1
   |succ j=>exact q5 j i' v' (by simpa using e1) (by simpa using e2)
  ·exact h1.elim
def eT(nt:Nat)(ds:List D):DE:=replicate nt Sl.no++ds.map .val
theorem zS{nt:Nat}{ds:List D}{i:Nat}{d:D}(h:(eT nt ds)[i]?=some (.val d)):nt<=i/\ds[i-nt]?=some d:=by
 unfold eT at h
 have hi:nt<=i:=by
  refine Nat.le_of_not_lt fun z=>?_
  rw[getElem?_append_left (by simpa using z),getElem?_replicate]at h
  split at h<;>cases h
 rw[getElem?_append_right (by simpa using hi),getElem?_map]at h
 refine⟨hi,?_⟩
 simp only [length_replicate]at h
 cases q:ds[i-nt]? with
 |none=>rw[q]at h;cases h
 |some d'=>rw[q]at h;cases h;rfl
theorem pW{nt:Nat}{ds:List D}{i:Nat}{xs:List D}(h:(eT nt ds)[i]?=some (.own xs)):False:=by
 unfold eT at h
 by_cases hi:i<nt
 ·rw[getElem?_append_left (by simpa using hi),getElem?_replicate]at h
  split at h<;>cases h
 ·rw[getElem?_append_right (by simp;omega),getElem?_map]at h
  cases q:ds[i-(replicate nt Sl.no).length]? with
  |none=>rw[q]at h;cases h
  |some d'=>rw[q]at h;cases h
theorem wI{nt:Nat}{ds:List D}{i:Nat}{w:Ct}(h:(eT nt ds)[i]?=some (.deep w)):False:=by
 unfold eT at h
 by_cases hi:i<nt
 ·rw[getElem?_append_left (by simpa using hi),getElem?_replicate]at h
  split at h<;>cases h
 ·rw[getElem?_append_right (by simp;omega),getElem?_map]at h
  cases q:ds[i-(replicate nt Sl.no).length]? with
  |none=>rw[q]at h;cases h
  |some d'=>rw[q]at h;cases h
theorem zT{nt:Nat}{ds:List D}{i:Nat}{w:V}(h:(eT nt ds)[i]?=some (.raw w)):False:=by
 unfold eT at h
 by_cases hi:i<nt
 ·rw[getElem?_append_left (by simpa using hi),getElem?_replicate]at h
  split at h<;>cases h
 ·rw[getElem?_append_right (by simp;omega),getElem?_map]at h
  cases q:ds[i-(replicate nt Sl.no).length]? with
  |none=>rw[q]at h;cases h
  |some d'=>rw[q]at h;cases h
section
variable{X:Cx}{pins:List (Addr×Obj)}{σ:St}{H:Hp}{s:Shared}{h':Heap}
theorem A9{fp:List Addr}{t':Nat}(I:Inv X pins σ H s)(hf:∀b∈fp,kg X pins H b)(k:∀b u,b∉fp->s.heap.get? b=some u->h'.get? b=some u):Inv X pins σ H {s with heap:=h',toks:=t'}:=by
 have Vi:∀b u,H b=some u->b∉fp:=fun b u e z=>by rw[(hf b z).1]at e;cases e
 refine I.step (g':=s.gens) (d':=s.drawn) (ch:=fp) (fun b hb=>⟨(hf b hb).2.2.2.1,(hf b hb).2.1,(hf b hb).2.2.2.2.1,(hf b hb).2.2.2.2.2⟩) (fun b u _ _ hc e _=>k b u hc e) (fun b u _ _ hc e _=>⟨u.slots,k b u hc e⟩)
  (fun b u _ e n=>n) (fun b u hc e=>⟨u,k b u hc e⟩) (fun b xs e=>e) (fun b u xs e=>e) (fun b ps e=>⟨#[],by rw[e];simp⟩) (fun m hm=>?_) (fun b u e=>?_) I.bare
 ·obtain⟨ob,es,ep,ho,r⟩:=hm
  exact⟨ob,es,ep,k _ ob (fun z=>(hf _ z).2.1 rfl) ho,r⟩
 ·refine(I.hok b u e).yt (fun c v hc q=>k c v ?_ q) (fun c q=>q) fun c xs q=>q
  rcases hc with z|z
  ·rw[z];exact Vi b u e
  ·exact Vi c _ z
end
def R.ne {α:Type}:R α->R α
 |.ok a=>.ok a
 |_=>.bad
theorem R.Iz {α:Type}(a:α):(R.ok a).ne=.ok a:=rfl
theorem R.cu {α β:Type}{r:R α}{k:α->R β}{y:β}(h:r.bind k=.ok y):∃a,r=.ok a/\k a=.ok y:=by
 cases r with
 |ok a=>exact⟨a,rfl,h⟩
 |err c=>cases h
 |bad=>cases h
theorem kB{α:Type}{E:Str->Hp->Prop}{H₀:Hp}{r:R α}{a:α}{p:α->Prop}(e:r=.ok a)(h:p a):Good E H₀ r p:=by rw[e];exact h
section
variable{X:Cx}{E:Str->Hp->Prop}{pos:Pos}{scope:Scope}{N:List Str}{nt:Nat}{caps:List Nat}
theorem vO{K:PySem.W.Frag}{g:Gh}{e:DE}{σ:St}{H H':Hp}{a:Addr}{ds:List D}{ts:DE}(r:Rel K g e σ H [a])(he:e=ts++ds.map .val)(hl:ts.length=nt)(x:Ext (g.P [a]) (g.P [a]) H H')(s:aC g.H₀ H')(hn:∃o,H' a=some o):
  Rel K g (eT nt ds) σ H' [a]:=by
 subst he
 refine⟨by rw[r.len];simp[eT,hl],s,fun i d e=>?_,fun i xs e=>(pW e).elim,fun i j xs ys b e=>(pW e).elim,fun b hb=>?_,fun i w e=>(zT e).elim,A0.none fun i w e=>wI e⟩
 ·obtain⟨h1,h2⟩:=zS e
  obtain⟨v,q1,q2⟩:=r.val i d (by rw[getElem?_append_right (by omega),hl,getElem?_map,h2];rfl)
  exact⟨v,q1,Is.ext x _ _ q2⟩
 ·have e:b=a:=by simpa using hb
  subst e
  exact⟨(r.new b hb).1,hn⟩
def ZE(X:Cx)(pins:List (Addr×Obj))(σ:St)(g:Gh)(os:List Addr)(H:Hp)(use:Option (Value->Sem Unit))(Qv:Value->Shared->Prop)(ys:List D):Prop:=
 ∀(Dd C:Addr)(acc:List V)(Hx:Hp)(s6:Shared),Inv X pins σ Hx s6->(∃m,s6.heap.Ns C m)->kg X pins Hx C->aC H Hx->H Dd=none->Hx Dd=some (.lst acc)->IsL X.K (g.P (Dd::os)) Hx ys acc->
  compPost (model X.prog X.w) X.A X.xe use Qv (.ref Dd) C (.ok .next) s6
theorem Mc{elt tg iter:Expr}{ifs:List Expr}{fi:DE->R (List D)}{b:D->DE->R DE}{ct:DE->R Bool}{fe:DE->R D}(S:fY X scope N nt caps)(jx:X.calm=true)(hi:PI X tg iter (Tt X.K E fi))
  (hb1:∀ds d e,b d (eT nt ds)=.ok e->∃ts,e=ts++ds.map .val/\ts.length=nt)
  (hg:∀s H fp C pl,PG (lJ X scope N s H fp C pl) tg (tG X.K EN b))(ht:∀s H fp C pl,Tw (lJ X scope N s H fp C pl) ifs (tT X.K EN ct))(he:∀s H fp C pl,PE (lJ X scope N s H fp C pl) elt (tD X.K EN fe))
  (hs:∀x,foldedSetIterable iter X.env x=pure x){use:Option (Value->Sem Unit)}{Qv:Value->Shared->Prop}{pins:List (Addr×Obj)}{s:Shared}{σ:St}{H:Hp}{env:DE}{os:List Addr}{g:Gh}(I:Inv X pins σ H s)(r:Rel X.K g env σ H os)
  (m:Good E g.H₀ ((fi env).bind fun xs=>(eR env caps).bind fun ds=>(bh b ct fe (eT nt ds) xs).ne.bind fit) (ZE X pins σ g os H use Qv)){ps:Pos}:
  wpAny (model X.prog X.w) X.A (comprehension (.ListComp elt [⟨tg,iter,ifs,0⟩] scope pos) scope X.env ps (newList []) false (eval iter X.env) use) Qv X.xe s:=by
 refine wpAny_comprehension_free (use:=use) rfl hs (kW (S.cells I)) S.kind S.names ?_
 refine bG (hi pins s σ H (fun J H1=>∃xs,aC H H1/\Zz X.K (g.P os) J H1 xs/\Good E g.H₀ ((eR env caps).bind fun ds=>(bh b ct fe (eT nt ds) xs).ne.bind fit) _) I ⟨g,env,os,r,m.bind.mono fun xs _ m1 J H1 s1 yl=>⟨xs,s1,yl,m1⟩⟩) fun v s1 h1=>bG h1 fun itv s2 h2=>?_
 obtain⟨it,fp,tn,J,H2,rfl,I2,T,FU,f2,xs,CA,yl,m1⟩:=h2
 have r2:=r.same CA
 obtain⟨ds,vs,m2,Rf,Ba,hds,hvs⟩:=m1.bind.eR r2
 cases ec:bh b ct fe (eT nt ds) xs with
 |bad=>rw[ec]at m2;exact m2.elim
 |err c=>rw[ec]at m2;exact m2.elim
 |ok ys=>
 rw[ec]at m2
 obtain⟨hz,q⟩:=(show Good E g.H₀ (fit ys) _ from m2).fit
 refine wpAny_newObj_type (wpAny_newFunctionEnv S.cell (by intro y hy;simp at hy) (fun h₁ wJ hsb₁=>?_) S.kind)
 dsimp only at wJ hsb₁⊢
 have Hl:H2 s2.heap.objs.size=none:=I2.hok.fresh (le_refl _)
 have I3:Inv X pins σ (upd H2 s2.heap.objs.size (.lst [])) {s2 with heap:=s2.heap.push {cls:=.type "list",dict:=none,data:=.seq ([]:List Value).toArray}}:=
  I2.laid (t':=s2.toks) (fun b u e=>Heap.get?_push_of_some _ e) (le_refl _) ⟨zero_le _,[],0,.nil,Heap.get?_push_size _ rfl⟩
 generalize Ot:({s2 with heap:=s2.heap.push {cls:=.type "list",dict:=none,data:=.seq ([]:List Value).toArray}}:Shared)=s3 at I3
 have IA:s3.heap=s2.heap.push {cls:=.type "list",dict:=none,data:=.seq ([]:List Value).toArray}:=by rw[<-Ot]
 rw[<-IA]at wJ hsb₁⊢
 generalize Vj:s2.heap.objs.size=Dd at*
 have k3:∀b o,s3.heap.get? b=some o->h₁.get? b=some o:=fun b o e=>hsb₁.extBut b o (ne_of_lt (Heap.lt_size e)) (Heap.get?_push_of_some _ e)
 have Bb:∀b∈fp,∃o,s2.heap.get? b=some o:=fun b hb=>let⟨o,e,_⟩:=T.obj 0 _ FU b hb;⟨o,e⟩
 have IB:∀b∈fp,∃o,s3.heap.get? b=some o:=fun b hb=>let⟨o,e⟩:=Bb b hb;⟨o,by rw[IA];exact Heap.get?_push_of_some _ e⟩
 have Vk:∀b∈fp,b≠Dd:=fun b hb=>let⟨o,e⟩:=Bb b hb;by rw[<-Vj];exact ne_of_lt (Heap.lt_size e)
 have f3:∀b∈fp,kg X pins (upd H2 Dd (.lst [])) b:=fun b hb=>⟨by rw[ae (Vk b hb)];exact(f2 b hb).1,(f2 b hb).2⟩
 have sD:aC H2 (upd H2 Dd (.lst [])):=aF Hl _
 have I4:=S.start (t':=s2.toks+([]:List (Str×Value)).length) I3 f3 (le_refl _) wJ k3 IB Rf (fun j i v e1 e2=>hvs j i v e1 e2) _ rfl
 generalize hX:lJ X scope N s3 (upd H2 Dd (.lst [])) fp s3.heap.objs.size (X.pn++pins)=X' at I4
 have Ou:=hg s3 (upd H2 Dd (.lst [])) fp s3.heap.objs.size (X.pn++pins)
 have Vl:=ht s3 (upd H2 Dd (.lst [])) fp s3.heap.objs.size (X.pn++pins)
 have Vm:=he s3 (upd H2 Dd (.lst [])) fp s3.heap.objs.size (X.pn++pins)
 rw[hX]at Ou Vl Vm
 have eK:X'.K=X.K:=by rw[<-hX];rfl
 have eP:X'.prog=X.prog:=by rw[<-hX];rfl
 have eW:X'.w=X.w:=by rw[<-hX];rfl
 have eA:X'.A=X.A:=by rw[<-hX];rfl
 have eE:X'.xe=fun _ _=>False:=by rw[<-hX];rfl
 have eC:X'.calm=true:=by rw[<-hX];exact jx
 have eL:X'.env.locals=s3.heap.objs.size:=by rw[<-hX];rfl
 have eS:X'.s₀=s3:=by rw[<-hX];rfl
 have eX:X'.ex=fp:=by rw[<-hX];rfl
 have eF:X'.fs=wk X.stack:=by rw[<-hX];rfl
 have eN:X'.pn=X.pn++pins:=by rw[<-hX];rfl
 have eH:X'.H₀=upd H2 Dd (.lst []):=by rw[<-hX];rfl
 have eV:X'.env=compEnvC scope (yn X.env.cells scope.names []) s3.heap.objs.size X.env:=by rw[<-hX];rfl
 have Lg:∀{Hx:Hp},(∀b∈fp,Hx b=none)->∀b∈fp,kg X' [] Hx b:=fun{Hx} hn b hb=>by
  obtain⟨_,c1,c2,c3,c4,c5⟩:=f3 b hb
  have q:=I4.ok.Oa b (by rw[eX];exact hb)
  refine⟨hn b hb,q.1,I4.ok.yu b (by rw[eX];exact hb),.inl (by rw[eX];exact hb),q.2,fun p hp=>?_⟩
  rw[eN,append_nil]at hp
  exact c5 p hp
 let g':Gh:=⟨g.P os,H2⟩
 have Vn:∀{Hx:Hp},aC H2 Hx->Ext (g.P os) (g'.P [Dd]) H2 Hx:=fun sx=>⟨fun a o p e=>⟨.inl p,fun z=>by
  have z':a=Dd:=by simpa using z
  rw[z',Hl]at e;cases e⟩,fun a o _ e=>sx a o e⟩
 have Rg:Rel X.K g' (eT nt ds) (replicate nt none++vs.map some) (upd H2 Dd (.lst [])) [Dd]:=by
  refine⟨by simp[eT,Rf,Ba],sD,fun i d e=>?_,fun i xs e=>(pW e).elim,fun i j xs ys b e=>(pW e).elim,fun b hb=>?_,fun i w e=>(zT e).elim,A0.none fun i w e=>wI e⟩
  ·obtain⟨h1,h2⟩:=zS e
   obtain⟨v,q1,q2⟩:=hds.get h2
   refine⟨v,?_,Is.ext (Vn sD) _ _ q2⟩
   rw[getElem?_append_right (by simpa using h1),getElem?_map,length_replicate,q1]<;>rfl
  ·have e:b=Dd:=by simpa using hb
   subst e
   exact⟨Hl,_,ak⟩
 have loop:∀s4:Shared,Inv X' [] (replicate nt none++vs.map some) (upd H2 Dd (.lst [])) s4->tn 0 s4.heap->
   codeAny (model X.prog X.w) X.A (.compLoop (.ListComp elt [⟨tg,iter,ifs,0⟩] scope pos) 0 (.ref it) (.ref Dd) (compEnvC scope (yn X.env.cells scope.names []) s3.heap.objs.size X.env))
    (compPost (model X.prog X.w) X.A X.xe use Qv (.ref Dd) s3.heap.objs.size) s4:=by
  intro s4 J4 Bc
  refine uV (fun n s'=>∃i acc as rest Hx σ',n=xs.length-i/\i<=xs.length/\Inv X' [] σ' Hx s'/\tn i s'.heap/\(∀b∈fp,Hx b=none)/\Hx Dd=some (.lst acc)/\IsL X.K (g'.P [Dd]) Hx as acc/\
   bh b ct fe (eT nt ds) (xs.drop i)=.ok rest/\as++rest=ys/\Rel X.K g' (eT nt ds) σ' Hx [Dd]) ?_ xs.length
   ⟨0,[],[],ys,_,_,by simp,zero_le _,J4,Bc,fun b hb=>(f3 b hb).1,ak,rfl,by rw[drop_zero];exact ec,rfl,Rg⟩
  rintro n s5 ⟨i,acc,as,rest,Hx,σ5,rfl,hi5,J5,HJ,Hh,Md,ZF,c5,e5,r5⟩
  obtain⟨y1,y2⟩:=yl i Hx (g'.P [Dd]) r5.ext (Vn r5.ext)
  by_cases hlt:i<xs.length
  ·have hx:xs[i]?=some xs[i]:=getElem?_eq_getElem hlt
   obtain⟨go,y3⟩:=y1 _ hx
   rw[List.drop_eq_getElem_cons hlt]at c5
   obtain⟨e1,Me,c6⟩:=R.cu (show(b xs[i] (eT nt ds)).bind _=.ok rest from c5)
   obtain⟨t,Tz,c7⟩:=R.cu c6
   have TI:=T.item X' eP eW eK eC i [] s5 σ5 Hx (fun _ _=>False) J5 (Lg Hh) HJ go
   rw[eA]at TI
   refine bG TI fun r s6 h6=>?_
   obtain⟨u,rfl,h6⟩:=h6
   refine bG h6 fun _ s7 h7=>?_
   obtain⟨x,H7,J7,rx,hy,IC,Vo⟩:=h7
   obtain⟨ID,hix⟩:=y3 x H7 hy
   have ix:Is X.K (g'.P [Dd]) H7 xs[i] x:=Is.ext ⟨fun a o p _=>p.elim (fun z=>z) fun z=>r5.fresh z,fun _ _ _ z=>z⟩ _ _ hix
   have Vp:=J7.pinned (Lg Vo) (T.obj _ _ IC)
   have TG:=Ou _ s7 σ5 H7 x u (fun σ8 H8=>∃e8,b xs[i] (eT nt ds)=.ok e8/\Rel X.K g' e8 σ8 H8 [Dd]/\H8=H7) Vp rx ⟨g',eT nt ds,[Dd],xs[i],r5.same ID,ix,kB Me fun σ8 r8=>⟨e1,Me,r8,rfl⟩⟩
   rw[eP,eW,eA,eE,eV]at TG
   refine bG TG fun _ s8 h8=>?_
   obtain⟨σ8,H8,J8,e8,Vq,r8,XY⟩:=h8
   rw[XY]at J8 r8
   rw[Me]at Vq
   cases Vq
   have TT:=Vl _ s8 σ8 H7 (fun t' H9=>t'=t/\aC H7 H9) J8 ⟨g',e1,[Dd],r8,kB Tz fun H9 s9=>⟨rfl,s9⟩⟩
   rw[eP,eW,eA,eE,eV]at TT
   refine bG TT fun ok s9 h9=>?_
   obtain⟨H9,J9,rfl,zU⟩:=h9
   obtain⟨ts,hts,CB⟩:=hb1 ds _ _ Me
   have wK:∀{σx:St}{Hy:Hp}{sx:Shared},Inv X' ([]++my fp s7.heap) σx Hy sx->tn (i+1) sx.heap/\∀b∈fp,Hy b=none:=fun{σx Hy sx} Jx=>
    ⟨T.keep _ _ _ IC fun b hb o e=>(Jx.pin (b,o) (mem_append_right _ (mem_append_right _ (eM hb e)))).1,fun b hb=>by
     obtain⟨o,e,d⟩:=T.obj _ _ IC b hb
     exact(Jx.pin (b,o) (mem_append_right _ (mem_append_right _ (eM hb e)))).2.1⟩
   cases ok with
   |false=>
    rw[if_neg Bool.false_ne_true]
    have c8:bh b ct fe (eT nt ds) (xs.drop (i+1))=.ok rest:=c7
    obtain⟨k1,k2⟩:=wK J9
    exact⟨xs.length-(i+1),by omega,i+1,acc,as,rest,H9,σ8,rfl,hlt,J9.jd,k1,k2,zU _ _ (ID _ _ Md),(ZF.same ID).same zU,c8,e5,
     vO r8 hts CB (.same zU) (r8.ext.trans zU) ⟨_,zU _ _ (ID _ _ Md)⟩⟩
   |true=>
    rw[if_pos rfl]
    obtain⟨d,he5,c8⟩:=R.cu (show(fe e1).bind _=.ok rest from c7)
    obtain⟨IE,hr5,c9⟩:=R.cu c8
    have c9':rest=d::IE:=by cases c9;rfl
    subst c9'
    have TE:=Vm _ s9 σ8 H9 (fun v rG=>aC H9 rG/\Is X.K (g'.P [Dd]) rG d v) J9 ⟨g',e1,[Dd],r8.same zU,kB he5 fun v rG Gq ZG=>⟨Gq,ZG⟩⟩
    rw[eP,eW,eA,eE,eV]at TE
    refine bG TE fun y Gq Vr=>?_
    obtain⟨v,rG,Vs,rv,Bd,iv⟩:=Vr
    have IF:rG Dd=some (.lst acc):=Bd _ _ (zU _ _ (ID _ _ Md))
    have Vt:IsL X.K (g'.P [Dd]) rG as acc:=((ZF.same ID).same zU).same Bd
    have TM:=dO (X:=X') _ Gq σ8 rG (.ref Dd) [v] (.ref Dd) [y] (fun _ Mf=>Mf=upd rG Dd (.lst (acc++[v]))) Vs rfl (.cons rv .nil) ⟨Dd,acc,v,rfl,rfl,IF,by
     rw[Vt.length]
     have:(as++d::IE).length<=sizeLine:=by rw[e5];exact hz
     rw[length_append,length_cons]at this
     omega,rfl⟩
    rw[eP,eW,eA,eE]at TM
    refine bG TM fun _ Vu h11=>?_
    obtain⟨v',Mf,Ov,_,rfl⟩:=h11
    obtain⟨k1,k2⟩:=wK Ov
    have X0:Ext (g'.P [Dd]) (g'.P [Dd]) rG (upd rG Dd (.lst (acc++[v]))):=⟨fun _ _ p _=>p,fun a o p e=>by rw[ae (fun z=>p.2 (by simp[z]))];exact e⟩
    have Rh:aC H2 rG:=(r8.ext.trans zU).trans Bd
    refine⟨xs.length-(i+1),by omega,i+1,acc++[v],as++[d],IE,_,σ8,rfl,hlt,Ov.jd,k1,k2,ak,IsL.ext X0 _ _ (Vt.app (.one iv)),hr5,by rw[List.append_assoc];exact e5,?_⟩
    exact vO (r8.same (zU.trans Bd)) hts CB X0 (fun a o e=>by rw[ae (ao (show H2 a=some o from e) Hl)];exact Rh a o e) ⟨_,ak⟩
  ·have e:i=xs.length:=by omega
   subst e
   rw[drop_length]at c5
   have c5':rest=[]:=by cases c5;rfl
   subst c5'
   rw[append_nil]at e5
   subst e5
   have TD:=T.done X' eP eW eK eC xs.length [] s5 σ5 Hx (fun _ _=>False) J5 (Lg Hh) HJ (y2 rfl)
   rw[eA]at TD
   refine bG TD fun r s6 h6=>?_
   obtain⟨rfl,J6⟩:=h6
   obtain⟨m6,IG,_⟩:=J6.loc
   rw[eL]at IG
   have Vv:Un (wk X.stack) fp (upd H2 Dd (.lst [])) Hx s3.heap s6.heap:=by
    have u:=J6.base
    rw[eF,eX,eH,eS]at u
    exact u
   have hxC:Hx s3.heap.objs.size=none:=by have:=J6.free;rw[eL]at this;exact this
   have Ri:mw X.prog X.w Hx s6.heap:=by
    have z:=J6.hok
    rw[eP,eW]at z
    exact z
   have Vw:s6.os=s3.os:=by have:=J6.os;rw[eS]at this;exact this
   have I6:Inv X pins σ Hx s6:=I3.nz (s':=s6) Vw Vv Ri J6.bare fun b hb=>by
    obtain⟨_,c1,c2,c3,c4,c5⟩:=f3 b hb
    exact⟨c3,c1,c4,c5⟩
   have fC:kg X pins Hx s3.heap.objs.size:=⟨hxC,(I3.CI (le_refl _) (I3.hok.fresh (le_refl _))).2⟩
   refine q Dd s3.heap.objs.size acc Hx s6 I6 ⟨m6,IG⟩ fC (CA.trans r5.ext) (CA.free Hl) Md (IsL.ext ⟨fun a o p _=>?_,fun _ _ _ z=>z⟩ _ _ ZF)
   have z:g.P os a:=p.1.elim (fun z=>z) fun z=>r2.fresh z
   exact⟨z.1,fun hm=>(mem_cons.mp hm).elim (fun z=>p.2 (by simp[z])) z.2⟩
 have Bc:tn 0 h₁:=T.keep _ _ _ FU fun b hb o e=>k3 b o (by rw[IA];exact Heap.get?_push_of_some _ e)
 have eG:({heap:=h₁,gens:=s3.gens,drawn:=s3.drawn,toks:=s2.toks+([]:List (Str×Value)).length,os:=s3.os}:Shared)={heap:=h₁,gens:=s2.gens,drawn:=s2.drawn,toks:=s2.toks+([]:List (Str×Value)).length,os:=s2.os}:=by rw[<-Ot]
 rw[eG]at I4
 exact codeAny_compStart_list (loop _ I4 Bc) (T.self _ 0 _ _ _ Bc (loop _ I4 Bc))
variable{elt tg iter:Expr}{ifs:List Expr}{fi:DE->R (List D)}{b:D->DE->R DE}{ct:DE->R Bool}{fe:DE->R D}
theorem kC(S:fY X scope N nt caps)(jx:X.calm=true)(hi:PI X tg iter (Tt X.K E fi))
  (hb1:∀ds d e,b d (eT nt ds)=.ok e->∃ts,e=ts++ds.map .val/\ts.length=nt)
  (hg:∀s H fp C pl,PG (lJ X scope N s H fp C pl) tg (tG X.K EN b))(ht:∀s H fp C pl,Tw (lJ X scope N s H fp C pl) ifs (tT X.K EN ct))(he:∀s H fp C pl,PE (lJ X scope N s H fp C pl) elt (tD X.K EN fe))
  (hs:∀x,foldedSetIterable iter X.env x=pure x:=by intro _;rfl):
  PE X (.ListComp elt [⟨tg,iter,ifs,0⟩] scope pos) (tF X.K E fun env=>(fi env).bind fun xs=>(eR env caps).bind fun ds=>(bh b ct fe (eT nt ds) xs).ne.bind fit):=by
 intro pins s σ H Q I h
 obtain⟨g,env,os,r,m⟩:=h
 rw[eval_ListComp]
 refine Mc S jx hi hb1 hg ht he hs I r (m.mono fun ys _ q Dd C acc Hx s6 I6 hn fC sm hD hx ia=>?_)
 obtain⟨m6,IG⟩:=hn
 refine⟨m6,IG,fun h7 ZI=>⟨.ref Dd,Hx,A9 (fp:=[C]) (t':=s6.toks) I6 (fun b hb=>by
  have z:b=C:=by simpa using hb
  rw[z];exact fC) (fun b u hb e=>(ZI.2 b (fun z=>hb (by simp[z]))).trans e),rfl,q Dd acc Hx sm hD hx ia⟩⟩
end
section
variable{X:Cx}{pins:List (Addr×Obj)}{σ:St}{H:Hp}{s:Shared}{h':Heap}
theorem Mg{fp:List Addr}{t:Addr}{o:HO}{t':Nat}(I:Inv X pins σ H s)(hf:∀b∈fp,kg X pins H b)(k:∀b u,b∉fp->s.heap.get? b=some u->h'.get? b=some u)(hex:∀b∈fp,∀u,s.heap.get? b=some u->∃u',h'.get? b=some u')(ht:s.heap.objs.size<=t)
  (new:bX X.prog X.w (upd H t o) h' t o):Inv X pins σ (upd H t o) {s with heap:=h',toks:=t'}:=by
 have hn:H t=none:=I.hok.fresh ht
 have Vi:∀b u,H b=some u->b∉fp:=fun b u e z=>by rw[(hf b z).1]at e;cases e
 refine I.step (g':=s.gens) (d':=s.drawn) (ch:=fp) (fun b hb=>⟨(hf b hb).2.2.2.1,(hf b hb).2.1,(hf b hb).2.2.2.2.1,(hf b hb).2.2.2.2.2⟩) (fun b u _ _ hc e _=>k b u hc e) (fun b u _ _ hc e _=>⟨u.slots,k b u hc e⟩)
  (fun b u _ e n=>by rw[ae (ne_of_lt (lt_of_lt_of_le (Heap.lt_size e) ht))];exact n) (fun b u hc e=>⟨u,k b u hc e⟩)
  (fun b xs e=>by rw[ae (ao e hn)];exact e) (fun b u xs e=>by rw[ae (ao e hn)];exact e) (fun b ps e=>⟨#[],by rw[ae (ao e hn),e];simp⟩)
  (fun m hm=>?_) (fun b u e=>?_) I.bare
 ·obtain⟨ob,es,ep,ho,r⟩:=hm
  exact⟨ob,es,ep,k _ ob (fun z=>(hf _ z).2.1 rfl) ho,r⟩
 ·by_cases hb:b=t
  ·subst hb;rw[ak]at e;cases e;exact new
  ·rw[ae hb]at e
   refine(I.hok b u e).yt (fun c v hc q=>k c v ?_ q) (fun c q=>by rw[ae (ao q hn)];exact q) fun c xs q=>by rw[ae (ao q hn)];exact q
   rcases hc with z|z
   ·rw[z];exact Vi b u e
   ·exact Vi c _ z
end
def Ite(K:PySem.W.Frag)(l:Addr):It:=
 ⟨fun i H=>∃xs x,cV K H l xs/\xs[i]?=some x,fun i H x H'=>∃t y,H t=none/\H'=upd H t (.tup [.int (i:Nat),y])/\x=.ref t/\∀xs,cV K H l xs->xs[i]?=some y,fun i H=>∃xs,cV K H l xs/\xs.length<=i⟩
theorem Gr{P:Program}{w:World}{K:PySem.W.Frag}{elts:List Expr}{kk:Nat}{pp:Pos}(l e it:Addr)(hei:e≠it):
  Turn P w K (.Tuple elts kk pp) (Ite K l) [e,it] e (fun i h=>(∃old,IsEnum h e it (i:Nat) old)/\h.IsListIter it l i) where
 mem:=by simp
 obj:=fun i h st b hb=>by
  obtain⟨⟨old,he⟩,o,e2,c,d⟩:=st
  rcases mem_cons.mp hb with rfl|hb
  ·exact⟨_,he,fun v z=>by cases z⟩
  ·have z:b=it:=by simpa using hb
   subst z
   exact⟨o,e2,fun v z=>by rw[d]at z;cases z⟩
 keep:=fun i h h' st k=>by
  obtain⟨⟨old,he⟩,hit⟩:=st
  exact⟨⟨old,k e (by simp) _ he⟩,hit.at fun o q=>k it (by simp) o q⟩
 item:=by
  intro X hP hw hK hc i pins s σ H E I hf st hg
  subst hP hw hK
  obtain⟨xs,x,hq,hx⟩:=hg
  obtain⟨its,rv,p,hz⟩:=I.list hq
  obtain⟨u,hu,ru⟩:=rv.get hx
  obtain⟨⟨old,he⟩,hit⟩:=st
  refine wpAny_pyNext_enum_item he hit p.isList (x:=u) (by simpa using hu) hei fun h' ho Vx hT hsz hk=>?_
  refine⟨_,rfl,wpAny_letOwnedTupleGo_enum ho fun Mh Vy Mi=>?_⟩
  have hlt:e<s.heap.objs.size:=Heap.lt_size he
  have ZJ:it<s.heap.objs.size:=by obtain⟨_,z,_⟩:=hit;exact Heap.lt_size z
  have kk:∀b o,b∉[e,it]->s.heap.get? b=some o->Mh.get? b=some o:=fun b o hb q=>by
   have h1:b≠e:=fun z=>hb (by simp[z])
   have h2:b≠it:=fun z=>hb (by simp[z])
   exact(Mi.2 b h1).trans (hk b o h1 h2 q)
  have ZK:Mh.get? s.heap.objs.size=some {cls:=.type "tuple",data:=.seq #[.int i s.toks,u]}:=(Mi.2 _ (ne_of_gt hlt)).trans hT
  have hn:H s.heap.objs.size=none:=I.hok.fresh (le_refl _)
  refine⟨.ref s.heap.objs.size,upd H s.heap.objs.size (.tup [.int (i:Nat),x]),?_,rfl,⟨_,x,hn,rfl,rfl,fun ys hy=>by rw[I.rf hy hq];exact hx⟩,⟨⟨u,by simpa using Vy⟩,Vx.at fun o q=>(Mi.2 it hei.symm).trans q⟩,fun b hb=>?_⟩
  ·refine Mg (s:=s) I hf kk (fun b hb u hu=>?_) (le_refl _) ⟨(by show 2<=sizeLine;decide),[.int i s.toks,u],.cons ⟨_,rfl⟩ (.cons ru .nil),⟨_,ZK,rfl,_,rfl⟩⟩
   rcases mem_cons.mp hb with rfl|hb
   ·exact⟨_,Vy⟩
   ·have z:b=it:=by simpa using hb
    subst z
    obtain⟨o,q,_⟩:=Vx
    exact⟨o,(Mi.2 b hei.symm).trans q⟩
  ·rw[ae]
   ·exact(hf b hb).1
   ·rcases mem_cons.mp hb with rfl|hb
    ·exact ne_of_lt hlt
    ·have z:b=it:=by simpa using hb
     subst z
     exact ne_of_lt ZJ
 done:=by
  intro X hP hw hK hc i pins s σ H E I hf st hg
  subst hP hw hK
  obtain⟨xs,hq,hx⟩:=hg
  obtain⟨its,rv,p,hz⟩:=I.list hq
  obtain⟨⟨old,he⟩,hit⟩:=st
  have hl:=rv.length
  refine wpAny_pyNext_enum_end (I.ok.hd hc) he hit p.isList (by simp;omega) fun h' eb=>⟨rfl,?_⟩
  exact A9 (fp:=[e,it]) (t':=s.toks) I hf fun b o hb q=>eb b o (fun z=>hb (by simp[z])) q
 self:=fun _ _ _ _ _ st h=>by
  obtain⟨⟨old,he⟩,_⟩:=st
  exact wpAny_pyIter_enum he h
def Itv(K:PySem.W.Frag)(l:Addr)(n:Nat):It:=
 ⟨fun i H=>i<n/\∃xs x,cV K H l xs/\xs.length=n/\xs[n-1-i]?=some x,fun i H x H'=>H'=H/\∀xs,cV K H l xs->xs[n-1-i]?=some x,fun i H=>i=n/\∃xs,cV K H l xs⟩
theorem II{P:Program}{w:World}{K:PySem.W.Frag}{tg:Expr}(l it:Addr)(n:Nat):Turn P w K tg (Itv K l n) [it] it (fun i h=>h.IsRevIter it l ((n:Int)-1-(i:Nat))) where
 mem:=by simp
 obj:=fun i h st b hb=>by
  have z:b=it:=by simpa using hb
  subst z
  obtain⟨o,e,c,d⟩:=st
  exact⟨o,e,fun v z=>by rw[d]at z;cases z⟩
 keep:=fun i h h' st k=>st.at fun o e=>k it (by simp) o e
 item:=by
  intro X hP hw hK hc i pins s σ H E I hf st hg
  subst hP hw hK
  obtain⟨hin,xs,x,hq,hl,hx⟩:=hg
  obtain⟨its,rv,p,hz⟩:=I.list hq
  obtain⟨u,hu,ru⟩:=rv.get hx
  have e1:(n:Int)-1-(i:Nat)=((n-1-i:Nat):Int):=by omega
  rw[e1]at st
  refine wpAny_pyNext_rev_item st p.isList (x:=u) (by simpa using hu) fun h' LK sb=>?_
  have I1:Inv X pins σ H {s with heap:=h'}:=A9 (fp:=[it]) (t':=s.toks) I hf fun b o hb q=>(sb.2 b (fun z=>hb (by simp[z]))).trans q
  obtain⟨o,e,c,d⟩:=id LK
  have e2:((n-1-i:Nat):Int)-1=(n:Int)-1-((i+1:Nat):Int):=by omega
  rw[e2]at LK
  exact⟨u,rfl,HF (s:={s with heap:=h'}) e c d (by decide) ⟨x,H,I1,ru,⟨rfl,fun ys hy=>by rw[I.rf hy hq];exact hx⟩,LK,fun b hb=>(hf b hb).1⟩⟩
 done:=by
  intro X hP hw hK hc i pins s σ H E I hf st hg
  subst hP hw hK
  obtain⟨rfl,xs,hq⟩:=hg
  have e1:(i:Int)-1-(i:Nat)= -1:=by omega
  rw[e1]at st
  exact wpAny_pyNext_rev_end (I.ok.hd hc) st fun h' eb=>⟨rfl,A9 (fp:=[it]) (t':=s.toks) I hf fun b o hb q=>eb b o (fun z=>hb (by simp[z])) q⟩
 self:=fun _ _ _ _ _ st h=>wpAny_pyIter_revIter st h
section
variable{X:Cx}{E:Str->Hp->Prop}{pos:Pos}
def jf(xs:List D):List D:=xs.zipIdx.map fun p=>.tup [.int (p.2:Nat),p.1]
theorem zb{xs:List D}{i:Nat}{d:D}(h:(jf xs)[i]?=some d):∃x,xs[i]?=some x/\d=.tup [.int (i:Nat),x]:=by
 unfold jf at h
 rw[getElem?_map,List.getElem?_zipIdx]at h
 cases q:xs[i]? with
 |none=>rw[q]at h;cases h
 |some x=>
  rw[q]at h
  refine⟨x,rfl,?_⟩
  have h':some (D.tup [.int ((0+i:Nat):Int),x])=some d:=h
  rw[zero_add]at h'
  exact(Option.some.inj h').symm
theorem iE{a:Expr}{elts:List Expr}{kk:Nat}{pp p:Pos}{f:DE->R D}(hm:X.mg "enumerate"=none)(ha:PE X a (tD X.K E f))(hg:Gl X "enumerate":=by rfl)(hs:starEach [a] X.env=[(false,eval a X.env)]:=by rfl):
  PI X (.Tuple elts kk pp) (.Call (.Name "enumerate" p) [a] [] pos) (tI X.K E fun env=>(f env).bind fun d=>(uU d).bind fun xs=>.ok (jf xs)):=by
 intro pins s σ H Rr I h
 obtain⟨g,env,os,r,m⟩:=h
 have ZL:PA X [a] (Ga X.K E fun env=>(f env).bind fun x=>(R.ok []).bind fun xs=>.ok (x::xs)):=az ha bJ hs
 refine Call_ (jN I hg hm boot_enumerate (PyProof.Rows.callWith_type1 (bG (ZL pos pins s σ H (fun vs H1=>aC H H1/\∃d,f env=.ok d/\∃v,vs=[v]/\Is X.K (g.P os) H1 d v/\Good E g.H₀ ((uU d).bind fun xs=>.ok (jf xs)) (fun xs=>∀J H1,aC H H1->Yl X.K (g.P os) J H1 xs->Rr J H1)) I
  ⟨g,env,os,r,?_⟩) fun us s1 ⟨vs,H1,I1,r1,q1⟩=>?_) hs rfl))
 ·exact Good.D5 m.bind (fun d e q=>by
   show Good E g.H₀ (R.ok [d]) _
   exact fun vs H' s' i'=>by
    obtain⟨v,rfl,iv⟩:=IsL.vv i'
    exact⟨s',d,e,v,rfl,iv,q⟩)
 ·obtain⟨ZM,d,_,v,rfl,iv,q⟩:=q1
  cases d with
  |lst xs=>
   obtain⟨l,ws,rfl,h1,h2⟩:=iv
   obtain⟨u,rfl,ru⟩:=vals1 r1
   cases ru
   obtain⟨its,rv,pl,hz⟩:=I1.list h1.sq
   refine call_enumerate_list pl.isList fun h' he hit hsz hk=>?_
   refine wpAny_pyIter_enum he ?_
   have I2:Inv X pins σ H1 {s1 with heap:=h'}:=I1.kept (t':=s1.toks) hk
   have f1:∀b∈[s1.heap.objs.size+1,s1.heap.objs.size],kg X pins H1 b:=fun b hb=>by
    have Lh:s1.heap.objs.size<=b:=by
     simp only [mem_cons,not_mem_nil,or_false]at hb
     rcases hb with rfl|rfl<;>omega
    exact I1.CI Lh (I1.hok.fresh Lh)
   refine⟨s1.heap.objs.size+1,[s1.heap.objs.size+1,s1.heap.objs.size],_,Ite X.K l,H1,rfl,I2,Gr l _ _ (ne_of_gt (Nat.lt_succ_self _)),⟨⟨_,he⟩,hit⟩,f1,?_⟩
   refine(show∀J H1,aC H H1->Yl X.K (g.P os) J H1 (jf xs)->Rr J H1 from q) _ H1 ZM fun i H' P' ex=>⟨fun d hd=>?_,fun hi=>?_⟩
   ·obtain⟨x,hx,rfl⟩:=zb hd
    obtain⟨y,hy,iy⟩:=(IsL.ext ex _ _ h2).get hx
    refine⟨⟨ws,y,(h1.ext ex).sq,hy⟩,fun z H2 ZN=>?_⟩
    obtain⟨t,y',ht,rfl,rfl,hall⟩:=ZN
    have e2:=hall ws (h1.ext ex).sq
    rw[hy]at e2
    cases e2
    refine⟨aF ht _,t,_,rfl,.inl ⟨.inr ht,.inl ak⟩,IsL.cons rfl (IsL.one (Is.ext ⟨fun _ _ p _=>.inl p,fun a o _ e=>aF ht _ a o e⟩ _ _ iy))⟩
   ·refine⟨ws,(h1.ext ex).sq,?_⟩
    rw[IsL.length h2]
    refine le_of_eq ?_
    have:(jf xs).length=xs.length:=by simp[jf]
    omega
  |non=>exact q.elim
  |bl _=>exact q.elim
  |int _=>exact q.elim
  |str _=>exact q.elim
  |exc _=>exact q.elim
  |fn _=>exact q.elim
  |tup _=>exact q.elim
theorem Be:bootBuiltins "reversed"=some (.type "reversed"):=by decide +kernel
theorem iV{a tg:Expr}{p:Pos}{f:DE->R D}(hm:X.mg "reversed"=none)(ha:PE X a (tD X.K E f))(hg:Gl X "reversed":=by rfl)(hs:starEach [a] X.env=[(false,eval a X.env)]:=by rfl):
  PI X tg (.Call (.Name "reversed" p) [a] [] pos) (tI X.K E fun env=>(f env).bind fun d=>(uU d).bind fun xs=>.ok xs.reverse):=by
 intro pins s σ H Rr I h
 obtain⟨g,env,os,r,m⟩:=h
 have ZL:PA X [a] (Ga X.K E fun env=>(f env).bind fun x=>(R.ok []).bind fun xs=>.ok (x::xs)):=az ha bJ hs
 refine Call_ (jN I hg hm Be (PyProof.Rows.callWith_type1 (bG (ZL pos pins s σ H (fun vs H1=>aC H H1/\∃d,f env=.ok d/\∃v,vs=[v]/\Is X.K (g.P os) H1 d v/\Good E g.H₀ ((uU d).bind fun xs=>.ok xs.reverse) (fun xs=>∀J H1,aC H H1->Yl X.K (g.P os) J H1 xs->Rr J H1)) I
  ⟨g,env,os,r,?_⟩) fun us s1 ⟨vs,H1,I1,r1,q1⟩=>?_) hs rfl))
 ·exact Good.D5 m.bind (fun d e q=>by
   show Good E g.H₀ (R.ok [d]) _
   exact fun vs H' s' i'=>by
    obtain⟨v,rfl,iv⟩:=IsL.vv i'
    exact⟨s',d,e,v,rfl,iv,q⟩)
 ·obtain⟨ZM,d,_,v,rfl,iv,q⟩:=q1
  cases d with
  |lst xs=>
   obtain⟨l,ws,rfl,h1,h2⟩:=iv
   obtain⟨u,rfl,ru⟩:=vals1 r1
   cases ru
   obtain⟨its,rv,pl,hz⟩:=I1.list h1.sq
   have hl:=rv.length
   have hl2:ws.length=xs.length:=IsL.length h2
   refine call_reversed_list pl.isList ?_
   have e0:((its.toArray.size:Nat):Int)-1=(xs.length:Int)-1:=by rw[size_toArray];omega
   rw[e0]
   have hit:({s1 with heap:=s1.heap.push (PySem.revObj l ((xs.length:Int)-1))}:Shared).heap.IsRevIter s1.heap.objs.size l ((xs.length:Int)-1):=⟨_,Heap.get?_push_size _ rfl,rfl,rfl⟩
   refine wpAny_pyIter_revIter hit ?_
   have I2:Inv X pins σ H1 {s1 with heap:=s1.heap.push (PySem.revObj l ((xs.length:Int)-1))}:=I1.kept (t':=s1.toks) fun b o e=>Heap.get?_push_of_some _ e
   have f1:∀b∈[s1.heap.objs.size],kg X pins H1 b:=fun b hb=>by
    have z:b=s1.heap.objs.size:=by simpa using hb
    subst z
    exact I1.CI (le_refl _) (I1.hok.fresh (le_refl _))
   refine⟨_,[s1.heap.objs.size],_,Itv X.K l xs.length,H1,rfl,I2,II l _ xs.length,?_,f1,?_⟩
   ·have e1:(xs.length:Int)-1-((0:Nat):Int)=(xs.length:Int)-1:=by omega
    rw[e1];exact hit
   refine(show∀J H1,aC H H1->Yl X.K (g.P os) J H1 xs.reverse->Rr J H1 from q) _ H1 ZM fun i H' P' ex=>⟨fun d hd=>?_,fun hi=>?_⟩
   ·have hi:i<xs.length:=by
     have:=(List.getElem?_eq_some_iff.mp hd).1
     simpa using this
    rw[getElem?_reverse hi]at hd
    obtain⟨y,hy,iy⟩:=(IsL.ext ex _ _ h2).get hd
    refine⟨⟨hi,ws,y,(h1.ext ex).sq,hl2,hy⟩,fun z H2 ZN=>?_⟩
    obtain⟨rfl,hall⟩:=ZN
    have e2:=hall ws (h1.ext ex).sq
    rw[hy]at e2
    cases e2
    exact⟨aC.refl _,Is.ext ⟨fun _ _ p _=>.inl p,fun _ _ _ e=>e⟩ _ _ iy⟩
   ·exact⟨by simpa using hi.symm,ws,(h1.ext ex).sq⟩
  |non=>exact q.elim
  |bl _=>exact q.elim
  |int _=>exact q.elim
  |str _=>exact q.elim
  |exc _=>exact q.elim
  |fn _=>exact q.elim
  |tup _=>exact q.elim
end
def CZ:D->String
 |.non=>"NoneType"
 |.bl _=>"bool"
 |.int _=>"int"
 |.str _=>"str"
 |.lst _=>"list"
 |.tup _=>"tuple"
 |.exc _=>"tuple"
 |.fn _=>"tuple"
def mJ(t T:String):Bool:=t==T||(t=="bool"&&T=="int")
def Bf(t T:String):Option Bool:=if((Value.type t)==(Value.type T))=true then some true else if PySem.W.kitMeta T=true then(fastBuiltinMro t).map (·.contains (.type T))else none
theorem Mj(K:PySem.W.Frag)(t T:String):kitOne K (.type t) (.type T)=Bf t T:=rfl
def Ml(T:String):Prop:=∀d:D,Bf (CZ d) T=some (mJ (CZ d) T)
theorem Mm{T:String}(h:Bf "NoneType" T=some (mJ "NoneType" T)/\Bf "bool" T=some (mJ "bool" T)/\Bf "int" T=some (mJ "int" T)/\Bf "str" T=some (mJ "str" T)/\Bf "list" T=some (mJ "list" T)/\Bf "tuple" T=some (mJ "tuple" T)):Ml T:=fun d=>by
 cases d with
 |non=>exact h.1
 |bl _=>exact h.2.1
 |int _=>exact h.2.2.1
 |str _=>exact h.2.2.2.1
 |lst _=>exact h.2.2.2.2.1
 |tup _=>exact h.2.2.2.2.2
 |exc _=>exact h.2.2.2.2.2
 |fn _=>exact h.2.2.2.2.2
theorem Rj:Ml "str":=Mm (by decide +kernel)
section
variable{X:Cx}{E:Str->Hp->Prop}{pos:Pos}
theorem Rl{pins:List (Addr×Obj)}{σ:St}{H:Hp}{s:Shared}{A:Around}{E:Value->Shared->Prop}{Q:Value->Shared->Prop}{d:D}{x:V}{u:Value}{T:String}{P:Addr->Prop}(I:Inv X pins σ H s)(rx:RelV x u)(hd:Is X.K P H d x)(hne:∀n,d≠.exc n/\d≠.fn n)(kt:Ml T)(h:∀tk,Q (.bool (mJ (CZ d) T)) {s with toks:=tk}):
  wpAny (model X.prog X.w) A (call (.builtin "isinstance") [u,.type T]) Q E s:=by
 have e:kitOne X.K (.type (CZ d)) (.type T)=some (mJ (CZ d) T):=(Mj _ _ _).trans (kt d)
 cases d with
 |non=>cases hd;exact pU I rx .non e h
 |bl b=>cases hd;exact pU I rx (.bl b) e h
 |int b=>cases hd;exact pU I rx (.int b) e h
 |str b=>cases hd;exact pU I rx (.str b) e h
 |lst ds=>
  obtain⟨a,vs,rfl,h1,h2⟩:=hd
  cases rx
  obtain⟨its,rv,⟨o,n,e1,c1,d1,t1⟩,hz⟩:=I.list h1.sq
  exact kia_one kitx_list I.pR ⟨o,e1,c1⟩ e (fun z=>nomatch z) h
 |tup ds=>
  obtain⟨a,vs,rfl,h1,h2⟩:=hd
  cases rx
  obtain⟨its,rv,⟨o,e1,c1,d1⟩,hz⟩:=I.tuple h1.sq
  exact kia_one kitx_tuple I.pR ⟨o,e1,c1⟩ e (fun z=>nomatch z) h
 |exc n=>exact((hne n).1 rfl).elim
 |fn n=>exact((hne n).2 rfl).elim
def Mn(T:String)(d:D):R D:=match d with
 |.exc _=>.bad
 |.fn _=>.bad
 |d=>.ok (.bl (mJ (CZ d) T))
theorem Rm{T:String}{d:D}(h:∀n,d≠.exc n/\d≠.fn n):Mn T d=.ok (.bl (mJ (CZ d) T)):=by
 cases d with
 |exc n=>exact((h n).1 rfl).elim
 |fn n=>exact((h n).2 rfl).elim
 |_=>rfl
theorem qr:bootBuiltins "isinstance"=some (.builtin "isinstance"):=by decide +kernel
theorem vP:bootBuiltins "list"=some (.type "list"):=by decide +kernel
theorem mK:bootBuiltins "str"=some (.type "str"):=by decide +kernel
theorem IJ:bootBuiltins "tuple"=some (.type "tuple"):=by decide +kernel
theorem kX:bootBuiltins "len"=some (.builtin "len"):=by decide +kernel
theorem C0:bootBuiltins "abs"=some (.builtin "abs"):=by decide +kernel
theorem Rn:bootBuiltins "max"=some (.builtin "max"):=by decide +kernel
theorem ZO{T:String}{x:Str}{p p2:Pos}{a:Expr}{f:DE->R D}(kt:Ml T)(hv:bootBuiltins x=some (.type T))(hm:X.mg "isinstance"=none)(hmt:X.mg x=none)(ha:PE X a (tB X.K E f))(hg:Gl X "isinstance":=by rfl)(Vz:Gl X x:=by rfl)
  (hn:x≠"__name__":=by decide)(hdb:(x==("__debug__":Str))=false:=by decide)
  (hs:starEach [a,.Name x p2] X.env=(false,eval a X.env)::starEach [.Name x p2] X.env:=by rfl)(hpl:(backTo pos (starEach [.Name x p2] X.env)).any (·.1)=false:=by rfl)(hs2:starEach [.Name x p2] X.env=(false,eval (.Name x p2) X.env)::starEach [] X.env:=by rfl):
  PE X (.Call (.Name "isinstance" p) [a,.Name x p2] [] pos) (tD X.K E fun env=>(f env).bind (Mn T)):=by
 have hty:PE X (.Name x p2) (tC (.ty T)):=LG Vz hmt hv rfl hn hdb
 refine imp (je (r:=fun xs H Q=>∃d v,xs=[v,.ty T]/\(∀n,d≠.exc n/\d≠.fn n)/\Is X.K Tr H d v/\Q (.bl (mJ (CZ d) T)) H) ?_ hg hm qr (aq ha (aq hty aE hs2) hs) (by decide) (by decide) hs hpl) fun σ H Q ⟨g,env,os,r,m⟩=>⟨g,env,os,r,m.bind.mono fun d _ q v H' s i=>?_⟩
 ·intro pins s σ H xs us Q I r h
  obtain⟨d,v,rfl,hne,hd,q⟩:=h
  obtain⟨u,w,rfl,ru,nE⟩:=vals2 r
  have e:w=.type T:=nE
  subst e
  exact Rl I ru hd hne kt fun tk=>⟨.bl _,H,I.tok _,rfl,q⟩
 ·by_cases hne:∀n,d≠.exc n/\d≠.fn n
  ·rw[Rm hne]at q
   exact⟨d,v,rfl,hne,i,q _ H' s rfl⟩
  ·cases d with
   |exc n=>exact q.elim
   |fn n=>exact q.elim
   |_=>exact(hne fun n=>⟨fun z=>(nomatch z),fun z=>(nomatch z)⟩).elim
def bools:List D->Option (List Bool)
 |[]=>some []
 |.bl b::r=>(bools r).map (b::·)
 |_::_=>none
end
def TF:D->D->Option Bool
 |.non,.non=>some true
 |.bl a,.bl b=>some (a==b)
 |.int a,.int b=>some (a==b)
 |.str a,.str b=>some (a==b)
 |.bl a,.int b=>some ((if a then 1 else 0)==b)
 |.int a,.bl b=>some (a==(if b then 1 else 0))
 |.non,.bl _=>some false
 |.non,.int _=>some false
 |.non,.str _=>some false
 |.bl _,.non=>some false
 |.bl _,.str _=>some false
 |.int _,.non=>some false
 |.int _,.str _=>some false
 |.str _,.non=>some false
 |.str _,.bl _=>some false
 |.str _,.int _=>some false
 |_,_=>none
def wL(f:D->D->Option Bool):List D->List D->Option Bool
 |x::xs,y::ys=>(f x y).bind fun b=>(wL f xs ys).map (b&&·)
 |_,_=>some true
def Bg:Nat->D->D->Option Bool
 |0,x,y=>TF x y
 |n+1,x,y=>match x,y with
  |.lst xs,.lst ys=>if xs.length=ys.length then wL (Bg n) xs ys else some false
  |.tup xs,.tup ys=>(wL (Bg n) xs ys).map (·&&xs.length==ys.length)
  |x,y=>TF x y
def Ro(f:D->D->Option Bool)(xs ys:List D)(j:Nat):Bool:=((xs[j]?).bind fun x=>(ys[j]?).bind fun y=>f x y).getD false
theorem wM(n:Nat)(e:Nat->Bool):(range (n+1)).all e=(e 0&&(range n).all fun j=>e (j+1)):=by
 rw[List.range_succ_eq_map,all_cons,List.all_map]
 rfl
theorem uf{f:D->D->Option Bool}:∀{xs ys:List D}{b:Bool},wL f xs ys=some b->(∀(j:Nat)(x y:D),xs[j]?=some x->ys[j]?=some y->f x y=some (Ro f xs ys j))/\b=(range (min xs.length ys.length)).all (Ro f xs ys)
 |[],ys,b,h=>by
  have h':some true=some b:=by cases ys<;>exact h
  cases h'
  exact⟨fun j x y e=>by simp at e,by simp⟩
 |x::xs,[],b,h=>by
  cases h
  exact⟨fun j x y _ e=>by simp at e,by simp⟩
 |x::xs,y::ys,b,h=>by
  unfold wL at h
  cases e1:f x y with
  |none=>rw[e1]at h;cases h
  |some c=>
   cases e2:wL f xs ys with
   |none=>rw[e1,e2]at h;cases h
   |some d=>
    rw[e1,e2]at h
    have h':(c&&d)=b:=Option.some.inj h
    obtain⟨q1,q2⟩:=uf e2
    refine⟨fun j x' y' h1 h2=>?_,?_⟩
    ·cases j with
     |zero=>
      simp at h1 h2
      subst h1 h2
      show f x y=some (((some x).bind fun x=>(some y).bind fun y=>f x y).getD false)
      simp[e1]
     |succ j=>exact q1 j x' y' (by simpa using h1) (by simpa using h2)
    ·have e3:min (x::xs).length (y::ys).length=min xs.length ys.length+1:=by simp[Nat.succ_min_succ]
     rw[e3,wM,<-h',q2]
     have e4:Ro f (x::xs) (y::ys) 0=c:=by
      show(((some x).bind fun x=>(some y).bind fun y=>f x y).getD false)=c
      simp[e1]
     rw[e4];rfl
section
variable{X:Cx}{pins:List (Addr×Obj)}{σ:St}{H:Hp}{s:Shared}
theorem IK{A:Around}{P:Addr->Prop}{x y:D}{v w:V}{u u':Value}{b:Bool}(hx:Is X.K P H x v)(hy:Is X.K P H y w)(rv:RelV v u)(nE:RelV w u')(e:TF x y=some b):SeqAt.EqAt A s u u' b/\SeqAt.RcAt A s u u' b/\SeqAt.RcNeAt A s u u' (!b):=by
 unfold TF at e
 split at e<;>first|cases e|skip
 ·cases hx;cases hy;cases rv;cases nE;exact⟨.same _,.none_none,.none_none⟩
 ·cases hx;cases hy;cases rv;cases nE;exact⟨.bool_bool _ _,.bool_bool _ _,.bool_bool _ _⟩
 ·cases hx;cases hy;obtain⟨t,rfl⟩:=rv;obtain⟨t',rfl⟩:=nE;exact⟨.int_int _ _ _ _,.int_int _ _ _ _,.int_int _ _ _ _⟩
 ·cases hx;cases hy;obtain⟨t,rfl⟩:=rv;obtain⟨t',rfl⟩:=nE;exact⟨.str_str _ _ _ _,.str_str _ _ _ _,.str_str _ _ _ _⟩
 ·cases hx;cases hy;cases rv;obtain⟨t',rfl⟩:=nE;exact⟨.bool_int _ _ _,.bool_int _ _ _,.bool_int _ _ _⟩
 ·cases hx;cases hy;obtain⟨t,rfl⟩:=rv;cases nE;exact⟨.int_bool _ _ _,.int_bool _ _ _,.int_bool _ _ _⟩
 ·cases hx;cases hy;cases rv;cases nE;exact⟨.none_bool _,.none_bool _,.none_bool _⟩
 ·cases hx;cases hy;cases rv;obtain⟨t',rfl⟩:=nE;exact⟨.none_int _ _,.none_int _ _,.none_int _ _⟩
 ·cases hx;cases hy;cases rv;obtain⟨t',rfl⟩:=nE;exact⟨.none_str _ _,.none_str _ _,.none_str _ _⟩
 ·cases hx;cases hy;cases rv;cases nE;exact⟨.bool_none _,.bool_none _,.bool_none _⟩
 ·cases hx;cases hy;cases rv;obtain⟨t',rfl⟩:=nE;exact⟨.bool_str _ _ _,.bool_str _ _ _,.bool_str _ _ _⟩
 ·cases hx;cases hy;obtain⟨t,rfl⟩:=rv;cases nE;exact⟨.int_none _ _,.int_none _ _,.int_none _ _⟩
 ·cases hx;cases hy;obtain⟨t,rfl⟩:=rv;obtain⟨t',rfl⟩:=nE;exact⟨.int_str _ _ _ _,.int_str _ _ _ _,.int_str _ _ _ _⟩
 ·cases hx;cases hy;obtain⟨t,rfl⟩:=rv;cases nE;exact⟨.str_none _ _,.str_none _ _,.str_none _ _⟩
 ·cases hx;cases hy;obtain⟨t,rfl⟩:=rv;cases nE;exact⟨.str_bool _ _ _,.str_bool _ _ _,.str_bool _ _ _⟩
 ·cases hx;cases hy;obtain⟨t,rfl⟩:=rv;obtain⟨t',rfl⟩:=nE;exact⟨.str_int _ _ _ _,.str_int _ _ _ _,.str_int _ _ _ _⟩
theorem Bh{P:Addr->Prop}{x y:D}{v:V}{b:Bool}(hx:Is X.K P H x v)(hy:Is X.K P H y v)(e:TF x y=some b):b=true:=by
 unfold TF at e
 split at e<;>first|cases e|skip
 all_goals cases hx
 all_goals cases hy
 all_goals simp
theorem wN{P:Addr->Prop}{f:D->D->Option Bool}:∀{xs ys:List D}{vs:List V}{b:Bool},(∀x y v b,Is X.K P H x v->Is X.K P H y v->f x y=some b->b=true)->IsL X.K P H xs vs->IsL X.K P H ys vs->wL f xs ys=some b->b=true/\xs.length=ys.length
 |[],ys,vs,b,_,hx,hy,e=>by
  have e':vs=[]:=hx
  subst e'
  have:=IsL.length hy
  cases ys with
  |nil=>cases e;exact⟨rfl,rfl⟩
  |cons _ _=>simp at this
 |x::xs,[],vs,b,_,hx,hy,e=>by
  have:=IsL.length hx
  have e':vs=[]:=hy
  subst e'
  simp at this
 |x::xs,y::ys,vs,b,hf,⟨v,r,e1,p1,q1⟩,⟨v',r',e2,p2,q2⟩,e=>by
  subst e1
  cases e2
  unfold wL at e
  cases h1:f x y with
  |none=>rw[h1]at e;cases e
  |some c=>
   cases h2:wL f xs ys with
   |none=>rw[h1,h2]at e;cases e
   |some d=>
    rw[h1,h2]at e
    have e':(c&&d)=b:=Option.some.inj e
    obtain⟨z1,z2⟩:=wN hf q1 q2 h2
    have z3:=hf x y v c p1 p2 h1
    subst z1 z3 e'
    exact⟨rfl,by simp[z2]⟩
theorem rH(I:Inv X pins σ H s){P:Addr->Prop}:∀(n:Nat)(x y:D)(v:V)(b:Bool),Is X.K P H x v->Is X.K P H y v->Bg n x y=some b->b=true
 |0,x,y,v,b,hx,hy,e=>Bh hx hy e
 |n+1,x,y,v,b,hx,hy,e=>by
  unfold Bg at e
  split at e
  ·rename_i xs ys
   obtain⟨a,vs,rfl,h1,h2⟩:=hx
   obtain⟨a',AE,ea,h3,h4⟩:=hy
   cases ea
   have ev:=I.rf h1.sq h3.sq
   subst ev
   split at e
   ·exact(wN (rH I n) h2 h4 e).1
   ·rename_i c
    exact absurd ((IsL.length h2).symm.trans (IsL.length h4)) c
  ·rename_i xs ys
   obtain⟨a,vs,rfl,h1,h2⟩:=hx
   obtain⟨a',AE,ea,h3,h4⟩:=hy
   cases ea
   have ev:=I.FN h1.sq h3.sq
   subst ev
   cases ez:wL (Bg n) xs ys with
   |none=>rw[ez]at e;cases e
   |some c=>
    rw[ez]at e
    obtain⟨z1,z2⟩:=wN (rH I n) h2 h4 ez
    subst z1
    have e':(true&&(xs.length==ys.length))=b:=Option.some.inj e
    rw[<-e',z2];simp
  ·exact Bh hx hy e
theorem in1_units(A:Around):A.in1.units=A.units+1:=rfl
theorem Eb(I:Inv X pins σ H s){P:Addr->Prop}:∀(n:Nat)(A:Around)(x y:D)(v w:V)(u u':Value)(b:Bool),A.units+n<cLine->Is X.K P H x v->Is X.K P H y w->RelV v u->RelV w u'->Bg n x y=some b->SeqAt.EqAt A s u u' b/\SeqAt.RcAt A s u u' b/\SeqAt.RcNeAt A s u u' (!b)
 |0,A,x,y,v,w,u,u',b,hu,hx,hy,rv,nE,e=>IK hx hy rv nE e
 |n+1,A,x,y,v,w,u,u',b,hu,hx,hy,rv,nE,e=>by
  have e0:=e
  unfold Bg at e
  have hu1:A.in1.units+n<cLine:=by rw[in1_units];omega
  have TJ:A.units<cLine:=by omega
  split at e
  ·rename_i xs ys
   have ZP:=hx
   have ZQ:=hy
   obtain⟨a,vs,rfl,h1,h2⟩:=hx
   obtain⟨a',AE,rfl,h3,h4⟩:=hy
   cases rv
   cases nE
   obtain⟨its,VA,pl,hz⟩:=I.list h1.sq
   obtain⟨its',IL,Rp,X1⟩:=I.list h3.sq
   have l1:=VA.length
   have l2:=IL.length
   have l3:vs.length=xs.length:=IsL.length h2
   have l4:AE.length=ys.length:=IsL.length h4
   have main:SeqAt.RcAt A s (.ref a) (.ref a') b/\SeqAt.RcNeAt A s (.ref a) (.ref a') (!b):=by
    split at e
    ·rename_i c
     obtain⟨q1,q2⟩:=uf e
     have hsz:its.toArray.size=its'.toArray.size:=by simp;omega
     have ZR:min xs.length ys.length=its.toArray.size:=by simp;omega
     rw[ZR]at q2
     subst q2
     have he:∀j (g1:j<its.toArray.size)(g2:j<its'.toArray.size),SeqAt.EqAt A.in1 s its.toArray[j] its'.toArray[j] (Ro (Bg n) xs ys j):=fun j g1 g2=>by
      have j1:j<xs.length:=by simp at g1;omega
      have j2:j<ys.length:=by simp at g2;omega
      have f:=q1 j _ _ (getElem?_eq_getElem j1) (getElem?_eq_getElem j2)
      obtain⟨v1,hv1,Li⟩:=IsL.get h2 (getElem?_eq_getElem j1)
      obtain⟨v2,hv2,Lj⟩:=IsL.get h4 (getElem?_eq_getElem j2)
      obtain⟨u1,Rq,ZS⟩:=VA.get hv1
      obtain⟨u2,Rt,ZT⟩:=IL.get hv2
      have E1:its.toArray[j]=u1:=by
       have:=List.getElem?_eq_some_iff.mp Rq
       obtain⟨_,h⟩:=this
       simpa using h
      have E2:its'.toArray[j]=u2:=by
       have:=List.getElem?_eq_some_iff.mp Rt
       obtain⟨_,h⟩:=this
       simpa using h
      rw[E1,E2]
      exact(Eb I n A.in1 _ _ _ _ _ _ _ hu1 Li Lj ZS ZT f).1
     exact⟨SeqAt.RcAt.lists pl.isList Rp.isList hsz TJ he,SeqAt.RcNeAt.lists pl.isList Rp.isList hsz TJ he⟩
    ·rename_i c
     cases e
     have hsz:(its.toArray.size !=its'.toArray.size)=true:=by simp;omega
     exact⟨SeqAt.RcAt.lists_lengths pl.isList Rp.isList hsz TJ,SeqAt.RcNeAt.lists_lengths pl.isList Rp.isList hsz TJ⟩
   refine⟨?_,main⟩
   by_cases ha:a=a'
   ·subst ha
    have:=rH I (n+1) _ _ _ _ ZP ZQ e0
    subst this
    exact .same _
   ·exact .of_refs ha main.1
  ·rename_i xs ys
   have ZP:=hx
   have ZQ:=hy
   obtain⟨a,vs,rfl,h1,h2⟩:=hx
   obtain⟨a',AE,rfl,h3,h4⟩:=hy
   cases rv
   cases nE
   obtain⟨its,VA,pl,hz⟩:=I.tuple h1.sq
   obtain⟨its',IL,Rp,X1⟩:=I.tuple h3.sq
   have l1:=VA.length
   have l2:=IL.length
   have l3:vs.length=xs.length:=IsL.length h2
   have l4:AE.length=ys.length:=IsL.length h4
   have main:SeqAt.RcAt A s (.ref a) (.ref a') b/\SeqAt.RcNeAt A s (.ref a) (.ref a') (!b):=by
    cases ez:wL (Bg n) xs ys with
    |none=>rw[ez]at e;cases e
    |some c=>
     rw[ez]at e
     obtain⟨q1,q2⟩:=uf ez
     have s1:xs.length=its.toArray.size:=by simp;omega
     have s2:ys.length=its'.toArray.size:=by simp;omega
     have e':(c&&(xs.length==ys.length))=b:=Option.some.inj e
     rw[q2]at e'
     have he:∀j (g1:j<its.toArray.size)(g2:j<its'.toArray.size),SeqAt.EqAt A.in1 s its.toArray[j] its'.toArray[j] (Ro (Bg n) xs ys j):=fun j g1 g2=>by
      have j1:j<xs.length:=by simp at g1;omega
      have j2:j<ys.length:=by simp at g2;omega
      have f:=q1 j _ _ (getElem?_eq_getElem j1) (getElem?_eq_getElem j2)
      obtain⟨v1,hv1,Li⟩:=IsL.get h2 (getElem?_eq_getElem j1)
      obtain⟨v2,hv2,Lj⟩:=IsL.get h4 (getElem?_eq_getElem j2)
      obtain⟨u1,Rq,ZS⟩:=VA.get hv1
      obtain⟨u2,Rt,ZT⟩:=IL.get hv2
      have E1:its.toArray[j]=u1:=by
       have:=List.getElem?_eq_some_iff.mp Rq
       obtain⟨_,h⟩:=this
       simpa using h
      have E2:its'.toArray[j]=u2:=by
       have:=List.getElem?_eq_some_iff.mp Rt
       obtain⟨_,h⟩:=this
       simpa using h
      rw[E1,E2]
      exact(Eb I n A.in1 _ _ _ _ _ _ _ hu1 Li Lj ZS ZT f).1
     subst e'
     have R1:=SeqAt.RcAt.tuples (A:=A) (e:=Ro (Bg n) xs ys) pl Rp TJ he
     have R2:=SeqAt.RcNeAt.tuples (A:=A) (e:=Ro (Bg n) xs ys) pl Rp TJ he
     rw[<-s1,<-s2]at R1 R2
     exact⟨R1,R2⟩
   refine⟨?_,main⟩
   by_cases ha:a=a'
   ·subst ha
    have:=rH I (n+1) _ _ _ _ ZP ZQ e0
    subst this
    exact .same _
   ·exact .of_refs ha main.1
  ·exact IK hx hy rv nE e
end
section
variable{X:Cx}{E:Str->Hp->Prop}{pos:Pos}
def Mp(K:PySem.W.Frag)(ne:Bool):R2:=fun v w H Q=>∃x y b,Is K Tr H x v/\Is K Tr H y w/\Bg 6 x y=some b/\Q (.bl (if ne=true then !b else b)) H
theorem jl(hu:X.A.units+6<cLine):tP X (compareOp .Eq) (Mp X.K false):=by
 intro pins s σ H v w u u' Q I rx ry h
 obtain⟨x,y,b,hx,hy,e,q⟩:=h
 exact(Eb I 6 X.A x y v w u u' b hu hx hy rx ry e).2.1 X.prog X.w _ _ ⟨.bl b,H,I,rfl,q⟩
theorem qK(hu:X.A.units+6<cLine):tP X (compareOp .NotEq) (Mp X.K true):=by
 intro pins s σ H v w u u' Q I rx ry h
 obtain⟨x,y,b,hx,hy,e,q⟩:=h
 exact(Eb I 6 X.A x y v w u u' b hu hx hy rx ry e).2.2 X.prog X.w _ _ ⟨.bl (!b),H,I,rfl,q⟩
def CC(x y:D):Option D:=(Bg 6 x y).map .bl
def Hm(x y:D):Option D:=(Bg 6 x y).map fun b=>.bl (!b)
theorem fZ:om X (Mp X.K false) CC:=fun x y d e=>by
 unfold CC at e
 cases h:Bg 6 x y with
 |none=>rw[h]at e;cases e
 |some b=>
  rw[h]at e;cases e
  exact⟨_,rfl,fun H v w Q i1 i2 q=>⟨x,y,b,i1,i2,h,q⟩⟩
theorem mO:om X (Mp X.K true) Hm:=fun x y d e=>by
 unfold Hm at e
 cases h:Bg 6 x y with
 |none=>rw[h]at e;cases e
 |some b=>
  rw[h]at e;cases e
  exact⟨_,rfl,fun H v w Q i1 i2 q=>⟨x,y,b,i1,i2,h,q⟩⟩
theorem aY.u6 {k:Nat}{A:Around}(r:aY k A):A.units+6<cLine:=by have:=r.un;omega
end
def Kp(nt:Nat)(b:D->DE->R DE):Prop:=∀(d:D)(r ts e':DE),ts.length=nt->b d (ts++r)=.ok e'->∃ts',e'=ts'++r/\ts'.length=nt
theorem kpN{nt:Nat}(i:Nat)(hi:i<nt:=by decide):Kp nt fun d env=>.ok (env.set i (.val d)):=fun d r ts e' hl h=>by
 cases h
 exact⟨ts.set i (.val d),by rw[List.set_append_left _ _ (by omega)],by simp[hl]⟩
theorem Kp.ok {nt:Nat}{b:D->DE->R DE}(h:Kp nt b):∀ds d e,b d (eT nt ds)=.ok e->∃ts,e=ts++ds.map Sl.val/\ts.length=nt:=fun ds d e q=>h d _ _ e (by simp) q
structure Df(K:PySem.W.Frag)(mg:Str->Option Value)(x:Str)(st:Stmt)(ps:List Str)(f:Addr)(fd:FuncData):Prop where
 F:zL K x x st f fd
 b:Binds K fd ps []
 m:mg x=some (.ref f)
 ns:nsIn K mainGlobals x=some (some (.ref f))
abbrev Ho:Str->Value:=fun _=>.none
section
variable{X:Cx}{E:Str->Hp->Prop}{pos:Pos}{k:Nat}{fa:Addr}{fd:FuncData}{st:Stmt}{ps:List Str}{x:Str}{p:Pos}{e:Expr}{es:List Expr}{f:DE->R (List D)}
theorem Mq{m:List D->R D}(d:Df X.K X.mg x st ps fa fd)(F:bH X.prog X.w X.K X.mg X.base kh k fa fd ps (Ea X.K Ho m))(hr:aY k X.A)
  (ha:PA X (e::es) (Ga X.K E f))(hg:Gl X x:=by rfl)(hdb:(x==("__debug__":Str))=false:=by decide)(he:starEach (e::es) X.env=(false,eval e X.env)::starEach es X.env:=by rfl)(hpl:(backTo pos (starEach es X.env)).any (·.1)=false:=by rfl):
  PE X (.Call (.Name x p) (e::es) [] pos) (tD X.K E fun env=>(f env).bind m):=fD F d.m d.F.kp d.b hr ky ha hg hdb he hpl
def Lk(m:List D->R D):Prop:=∀ds d,m ds=.ok d->∃z,toV d=some z
def ScL(m:List D->R (List D)):Prop:=∀ds xs,m ds=.ok xs->∀d∈xs,∃z,toV d=some z
theorem IM{m:List D->R D}(hsc:Lk m)(d:Df X.K X.mg x st ps fa fd)(F:bH X.prog X.w X.K X.mg X.base kh k fa fd ps (Ea X.K Ho m))(hr:aY k X.A)
  (ha:PA X (e::es) (qo X.K E f))(hg:Gl X x:=by rfl)(hdb:(x==("__debug__":Str))=false:=by decide)(he:starEach (e::es) X.env=(false,eval e X.env)::starEach es X.env:=by rfl)(hpl:(backTo pos (starEach es X.env)).any (·.1)=false:=by rfl):
  PE X (.Call (.Name x p) (e::es) [] pos) (tD X.K E fun env=>(f env).bind m):=fB F hsc d.m d.F.kp d.b hr ky ha hg hdb he hpl
theorem Bj{m:List D->R (List D)}(d:Df X.K X.mg x st ps fa fd)(F:bH X.prog X.w X.K X.mg X.base kh k fa fd ps (Lf X.K Ho m))(hr:aY k X.A)
  (ha:PA X (e::es) (Ga X.K E f))(hg:Gl X x:=by rfl)(hdb:(x==("__debug__":Str))=false:=by decide)(he:starEach (e::es) X.env=(false,eval e X.env)::starEach es X.env:=by rfl)(hpl:(backTo pos (starEach es X.env)).any (·.1)=false:=by rfl):
  PE X (.Call (.Name x p) (e::es) [] pos) (tF X.K E fun env=>(f env).bind m):=fF F d.m d.F.kp d.b hr ky ha hg hdb he hpl
theorem ZU{m:List D->R (List D)}(hsc:ScL m)(d:Df X.K X.mg x st ps fa fd)(F:bH X.prog X.w X.K X.mg X.base kh k fa fd ps (Lf X.K Ho m))(hr:aY k X.A)
  (ha:PA X (e::es) (qo X.K E f))(hg:Gl X x:=by rfl)(hdb:(x==("__debug__":Str))=false:=by decide)(he:starEach (e::es) X.env=(false,eval e X.env)::starEach es X.env:=by rfl)(hpl:(backTo pos (starEach es X.env)).any (·.1)=false:=by rfl):
  PE X (.Call (.Name x p) (e::es) [] pos) (tF X.K E fun env=>(f env).bind m):=fFB F hsc d.m d.F.kp d.b hr ky ha hg hdb he hpl
end
abbrev Ok(P:Program)(w:World)(K:PySem.W.Frag)(mg:Str->Option Value)(base:Heap)(k:Nat)(f:Addr)(fd:FuncData)(ps:List Str)(m:List D->R D):Prop:=bH P w K mg base kh k f fd ps (Ea K Ho m)
abbrev mQ(P:Program)(w:World)(K:PySem.W.Frag)(mg:Str->Option Value)(base:Heap)(k:Nat)(f:Addr)(fd:FuncData)(ps:List Str)(m:List D->R (List D)):Prop:=bH P w K mg base kh k f fd ps (Lf K Ho m)
section
variable{P:Program}{w:World}{K:PySem.W.Frag}{mg:Str->Option Value}{base:Heap}
theorem mkD{x:Str}{st:Stmt}{f:Addr}{fd:FuncData}{N ps:List Str}{k:Nat}{m:List D->R D}{b:DE->R Out}(S:aw N ps (aa st))(d:Df K mg x st ps f fd)
  (hb:∀(cdv:Value)(A:Around)(outer:List Env)(s:Shared)(H:Hp)(E:XK),aY k (A.deeper (envOfC x (aa st) s.heap.objs.size f cdv))->nA (bA kh P w K mg base N x (aa st) f cdv A outer s H E).DU (bx st) (tS K EN b))
  (hm:∀ds d,m ds=.ok d->ds.length=ps.length/\(b (au N.length ds)).bind ai=.ok d)(hne:∀ds c,m ds≠.err c):
  Ok P w K mg base (k+1) f fd ps m:=ZA d.F S hm hne hb
theorem mkF{x:Str}{st:Stmt}{f:Addr}{fd:FuncData}{N ps:List Str}{k:Nat}{m:List D->R (List D)}{b:DE->R Out}(S:aw N ps (aa st))(d:Df K mg x st ps f fd)
  (hb:∀(cdv:Value)(A:Around)(outer:List Env)(s:Shared)(H:Hp)(E:XK),aY k (A.deeper (envOfC x (aa st) s.heap.objs.size f cdv))->nA (bA kh P w K mg base N x (aa st) f cdv A outer s H E).DU (bx st) (tS K EN b))
  (hm:∀ds d,m ds=.ok d->ds.length=ps.length/\(b (au N.length ds)).bind aj=.ok d)(hne:∀ds c,m ds≠.err c):
  mQ P w K mg base (k+1) f fd ps m:=ZC d.F S hm hne hb
end
section
variable{X:Cx}{E:Str->Hp->Prop}{pos:Pos}
def Mr(xs:List D):D->R (List D)
 |.int k=> @ite _ (-(2^63)<=k/\k<2^63/\xs.length*k.toNat<=sizeLine) (propDecidable _) (.ok (replicate k.toNat xs).flatten) .bad
 |_=>.bad
theorem IsL.rep {K:PySem.W.Frag}{P:Addr->Prop}{H:Hp}{ds:List D}{vs:List V}(h:IsL K P H ds vs):∀n:Nat,IsL K P H (replicate n ds).flatten (replicate n vs).flatten
 |0=>rfl
 |n+1=>by
  rw[replicate_succ,replicate_succ,flatten_cons,flatten_cons]
  exact h.app (IsL.rep h n)
theorem ZV{a b:Expr}{fa:DE->R (List D)}{fb:DE->R D}(ha:PE X a (tF X.K E fa))(hb:PE X b (tB X.K E fb)):PE X (.BinOp a .Mult b pos) (tF X.K E fun env=>(fa env).bind fun x=>(fb env).bind fun y=>Mr x y):=
 imp (rh QX ha hb) fun σ H Q ⟨g,env,os,r,m⟩=>⟨g,env,os,r,m.bind.mono fun x _ m1 a1 v1 H1 s1 hn hH i1=>⟨g,env,os,r.same s1,m1.bind.mono fun y _ m2 w H2 s2 i2=>by
  unfold Mr at m2
  split at m2
  ·rename_i k _
   split at m2
   ·rename_i c
    have Tq:IsL X.K (g.P os) H1 x v1:=IsL.ext ⟨fun b o p _=>⟨p.1,fun z=>p.2 (mem_cons_of_mem _ z)⟩,fun _ _ _ q=>q⟩ _ _ i1
    refine⟨a1,k,v1,rfl,i2,s2 _ _ hH,c.1,c.2.1,by rw[Tq.length];exact c.2.2,fun p hp=>?_⟩
    obtain⟨b1,b2,b3,b4⟩:=Gk r (s1.trans s2) hp ((Tq.same s2).rep k.toNat)
    exact m2 p _ _ b1 b2 b3 b4
   ·exact m2.elim
  ·exact m2.elim⟩⟩
theorem Bk:bootBuiltins "range"=some (.type "range"):=by decide +kernel
def rJ:List D->R (List D)
 |[.int j]=> @ite _ (0<=j/\j<=1000000) (propDecidable _) (.ok (rF 0 j.toNat)) .bad
 |_=>.bad
theorem Ms{K:PySem.W.Frag}{P:Addr->Prop}{H:Hp}{n:Nat}:IsL K P H (rF 0 n) ((range n).map fun i=>V.int (0+(i:Nat))):=by
 unfold rF
 induction (range n)with
 |nil=>rfl
 |cons x r ih=>exact⟨_,_,rfl,rfl,ih⟩
theorem yB{acc:List Value}{n:Nat}(h1:acc.length=n)(h2:∀(j:Nat)(v:Value),acc[j]?=some v->∃t,v=.int (0+(j:Nat)) t):Vals ((range n).map fun i=>V.int (0+(i:Nat))) acc:=by
 have gen:∀(l:List Value)(k:Nat),(∀(j:Nat)(v:Value),l[j]?=some v->∃t,v=.int (0+((k+j:Nat):Int)) t)->Vals ((range' k l.length).map fun i=>V.int (0+(i:Nat))) l:=by
  intro l
  induction l with
  |nil=>intro k _;exact .nil
  |cons x r ih=>
   intro k hk
   rw[length_cons,List.range'_succ,map_cons]
   refine .cons ?_ (ih (k+1) fun j v e=>?_)
   ·obtain⟨t,e⟩:=hk 0 x (by simp)
    exact⟨t,e⟩
   ·obtain⟨t,e⟩:=hk (j+1) v (by simpa using e)
    exact⟨t,by rw[e];congr 2;omega⟩
 subst h1
 rw[List.range_eq_range']
 exact gen acc 0 fun j v e=>by
  obtain⟨t,q⟩:=h2 j v e
  exact⟨t,by rw[q];congr 2;omega⟩
theorem Ru{a:Expr}{p p2 yD:Pos}{f:DE->R (List D)}(hc:X.calm=true)(Mt:X.mg "list"=none)(ZW:X.mg "range"=none)(ha:PA X [a] (qo X.K E f))(ZX:Gl X "list":=by rfl)(hgr:Gl X "range":=by rfl)
  (hs:starEach [a] X.env=[(false,eval a X.env)]:=by rfl)(he:starEach [.Call (.Name "range" p2) [a] [] yD] X.env=(false,eval (.Call (.Name "range" p2) [a] [] yD) X.env)::starEach [] X.env:=by rfl)(hpl:(backTo pos (starEach [] X.env)).any (·.1)=false:=by rfl):
  PE X (.Call (.Name "list" p) [.Call (.Name "range" p2) [a] [] yD] [] pos) (tF X.K E fun env=>(f env).bind rJ):=by
 intro pins s σ H Q I h
 obtain⟨g,env,os,r,m⟩:=h
 refine wpAny_Call_Name_kw (jN I ZX Mt vP ?_)
 refine PyProof.Rows.callWith_type1 ?_ he hpl
 rw[he]
 refine Calls.spliced_cons ?_
 refine Call_ (jN I hgr ZW Bk (PyProof.Rows.callWith_type1 (bG (ha yD pins s σ H _ I ⟨g,env,os,r,m.bind.mono fun ds _ q vs H1 s1 i1=>(⟨ds,s1,i1,q⟩:∃ds,aC H H1/\IsL X.K Tr H1 ds vs/\Good E g.H₀ (rJ ds) _)⟩) fun us s1 ⟨vs,H1,I1,r1,ds,sm,i1,q⟩=>?_) hs rfl))
 unfold rJ at q
 split at q
 ·rename_i j
  split at q
  ·rename_i c
   obtain⟨v,rfl,iv⟩:=IsL.vv i1
   have ZY:v=.int j:=iv
   subst ZY
   obtain⟨u,rfl,t,rfl⟩:=vals1 r1
   refine call_range_1 ?_
   have I2:Inv X pins σ H1 {s1 with heap:=s1.heap.push {cls:=.type "range",data:=.fields #[.int 0 s1.toks,.int j t,.int 1 (s1.toks+1)]},toks:=s1.toks+1+1}:=I1.kept fun b o e=>Heap.get?_push_of_some _ e
   refine Calls.spliced_nil ?_
   have hd:X.A.handled=none:=I.ok.hd hc
   have hsz:Builtin.Range.rangeSize 0 j 1=(j.toNat:Nat):=by rw[rangeSize_one];split<;>omega
   refine call_list_range hd (IsRange.new ..) (small_one (by omega) (by omega) (by omega) (by omega)) hsz (by omega) fun h' tk IP c' hk hl hit=>?_
   obtain⟨hi1,hi2⟩:=hit
   have hv:Vals ((range j.toNat).map fun i=>V.int (0+(i:Nat))) IP.toList:=yB (by simpa using hi1) fun i v e=>by
    obtain⟨t,q⟩:=hi2 i v (by simpa using e)
    exact⟨t,by rw[q];congr 1;omega⟩
   have hlen:((range j.toNat).map fun i=>V.int (0+(i:Nat))).length<=sizeLine:=by
    rw[length_map,length_range]
    exact le_trans (show j.toNat<=1000000 by omega) (by decide)
   refine⟨.ref _,upd H1 _ (.lst ((range j.toNat).map fun i=>V.int (0+(i:Nat)))),I2.laid (a:=_) hk (le_refl _) ⟨hlen,IP.toList,c',hv,by simpa using hl⟩,rfl,?_⟩
   have hn:H1 (s1.heap.push {cls:=.type "range",data:=.fields #[.int 0 s1.toks,.int j t,.int 1 (s1.toks+1)]}).objs.size=none:=I2.hok.fresh (le_refl _)
   exact q _ _ _ (sm.trans (aF hn _)) (sm.free hn) ak Ms
  ·exact q.elim
 ·exact q.elim
end
def kD:D->D->Option D
 |.int i,.int j=>some (.int (i+j))
 |_,_=>none
theorem eU{X:Cx}:om X (Hi fun i j=>.int (i+j)) kD:=rD (h:=fun i j=>.int (i+j)) (fun _ _=>rfl) fun x y d e=>by
 unfold kD at e
 split at e<;>cases e
 exact⟨_,_,rfl,rfl,rfl⟩
def Ow(Ox sc:Scope)(XN N:List Str)(nt:Nat)(caps:List Nat):Bool:=
 sc.kind==.function&&sc.names.all (fun y=>y.2 !=.cell&&(y.2 !=.local||sc.names.lookup y.1==some .local)&&(y.2 !=.free||Ox.names.lookup y.1==some .cell||Ox.names.lookup y.1==some .free))&&
 N.length==nt+caps.length&&decide N.Nodup&&(range caps.length).all fun j=>match caps[j]?,N[nt+j]? with
  |some i,some x=>XN[i]?==some x&&sc.names.lookup x==some .free&&(Ox.names.lookup x==some .local||Ox.names.lookup x==some .cell||Ox.names.lookup x==some .free)
  |_,_=>false
theorem IQ{X:Cx}{sc:Scope}{N:List Str}{nt:Nat}{caps:List Nat}(Ox:Scope)(XN:List Str)(h:Ow Ox sc XN N nt caps=true)(hsc:X.env.scope=Ox:=by rfl)(hN:X.N=XN:=by rfl):fY X sc N nt caps:=by
 subst hsc hN
 unfold Ow at h
 simp only [and_eq_true,all_eq_true,or_eq_true,decide_eq_true_eq,beq_iff_eq,bne_iff_ne,ne_eq]at h
 obtain⟨⟨⟨⟨h1,h2⟩,h3⟩,h4⟩,h5⟩:=h
 refine⟨by simpa using h1,fun y hy=>(h2 y hy).1.1,fun y hy e=>?_,fun y hy e=>?_,h3,h4,fun j i e=>?_⟩
 ·rcases(h2 y hy).1.2 with q|q
  ·exact absurd e q
  ·exact q
 ·rcases(h2 y hy).2 with(q|q)|q
  ·exact absurd e q
  ·exact .inl q
  ·exact .inr q
 ·have hj:j<caps.length:=(List.getElem?_eq_some_iff.mp e).1
  have q:=h5 j (by simpa using hj)
  rw[e]at q
  cases hx:N[nt+j]? with
  |none=>rw[hx]at q;exact absurd q (by simp)
  |some x=>
   rw[hx]at q
   simp only [and_eq_true,or_eq_true,beq_iff_eq]at q
   obtain⟨⟨q1,q2⟩,q3⟩:=q
   refine⟨x,rfl,q1,q2,?_⟩
   rcases q3 with(q3|q3)|q3
   ·exact .inl q3
   ·exact .inr (.inl q3)
   ·exact .inr (.inr q3)
def ZZ(i:Nat):Out->R Out
 |.nx e=>.ok (.nx (ym i e))
 |o=>.ok o
theorem zV(i j:Int):kD (.int i) (.int j)=some (.int (i+j)):=rfl
theorem IS(i j:Int):mG (.int i) (.int j)=some (.int (i-j)):=rfl
theorem IU(i:Int):ue (.int i)=some (.int (-i)):=rfl
theorem Oz(i j:Int):Oi (.int i) (.int j)=some (.bl (decide (i<j))):=rfl
theorem OA(i j:Int):kLe (.int i) (.int j)=some (.bl (decide (i<=j))):=rfl
theorem OB(i j:Int):Gg (.int i) (.int j)=some (.bl (decide (j<i))):=rfl
theorem OC(i j:Int):kGe (.int i) (.int j)=some (.bl (decide (j<=i))):=rfl
theorem OD(i j:Int):CC (.int i) (.int j)=some (.bl (i==j)):=rfl
theorem OE(i j:Int):Hm (.int i) (.int j)=some (.bl (!(i==j))):=rfl
theorem OG(i j:Str):CC (.str i) (.str j)=some (.bl (i==j)):=rfl
theorem OH(i j:Str):Hm (.str i) (.str j)=some (.bl (!(i==j))):=rfl
theorem C1(i j:Int)(h:(-(2^64)<i/\i<2^64)\/(-(2^64)<j/\j<2^64)):Gf (.int i) (.int j)=some (.int (i*j)):=if_pos h
theorem oO(i j:Int)(h:0<j/\j<1073741824):ud (.int i) (.int j)=some (.int (i/j)):=if_pos h
theorem gQ(i j:Int)(h:0<j):mH (.int i) (.int j)=some (.int (i%j)):=if_pos h
theorem Rv(i j:Int)(h:0<=j/\j<=1000000/\i.natAbs<2^64):Ij (.int i) (.int j)=some (.int (i^j.toNat)):=if_pos h
theorem Z0:(10:Int)^(9:Nat)=1000000000:=by
 rw[show(10:Int)=((10:Nat):Int)from rfl,<-Int.natCast_pow]
 rfl
theorem VB:(10:Int)^(9:Int).toNat=1000000000:=Z0
theorem IV:Ij (.int 10) (.int 9)=some (.int 1000000000):=(Rv 10 9 (by decide)).trans (by rw[VB])
theorem IW(i:Int):Gn [.int i]=some (.int (if i<0 then-i else i)):=rfl
theorem Ec(i j:Int):D9 [.int i,.int j]=some (.int (if j>i then j else i)):=rfl
theorem IX(xs:List D):yA [.lst xs]=some (.int xs.length):=rfl
theorem IY(xs:List D):yA [.tup xs]=some (.int xs.length):=rfl
theorem OI(b:Bool):mr (.bl b)=.ok b:=rfl
theorem OJ(xs:List D):uU (.lst xs)=.ok xs:=rfl
theorem OO(i:Int):Q8 (.int i)=.ok (some i):=rfl
theorem OP(xs:List D)(i:Int):zP xs (.int i)=R.of (iN xs i):=rfl
theorem OQ(xs:List D)(i:Int):A8 (.lst xs) (.int i)=R.of (iN xs i):=rfl
theorem OS(xs:List D)(i:Int):A8 (.tup xs) (.int i)=R.of (iN xs i):=rfl
theorem iw{α:Type}{xs:List α}(h:xs.length<=sizeLine):fit xs=.ok xs:=if_pos h
theorem big{n:Nat}(h:n<=1000000):n<=sizeLine:=le_trans h (by decide)
theorem VC{α:Type}:fit ([]:List α)=.ok []:=iw (big (by simp))
theorem VD{α:Type}(a:α):fit [a]=.ok [a]:=iw (big (by simp))
theorem VE{α:Type}(a b:α):fit [a,b]=.ok [a,b]:=iw (big (by simp))
theorem VF{α:Type}(a b c:α):fit [a,b,c]=.ok [a,b,c]:=iw (big (by simp))
theorem VG{α:Type}(a b c d:α):fit [a,b,c,d]=.ok [a,b,c,d]:=iw (big (by simp))
theorem Rw(j:Int)(h: -(2^62)<=j/\j<2^62):Ir [.int j]=.ok (rF 0 j.toNat):=if_pos h
theorem Rx(i j:Int)(h: -(2^62)<=i/\i<2^62/\ -(2^62)<=j/\j<2^62):Iu [.int i,.int j]=.ok (rF i (j-i).toNat):=if_pos h
theorem Gs(j:Int)(h:0<=j/\j<=1000000):rJ [.int j]=.ok (rF 0 j.toNat):=if_pos h
theorem Ry(xs:List D)(k:Int)(h: -(2^63)<=k/\k<2^63/\xs.length*k.toNat<=sizeLine):Mr xs (.int k)=.ok (replicate k.toNat xs).flatten:=if_pos h
theorem Ed(e:DE)(k:DE->R Out):aX (.ok (.nx e)) k=k e:=rfl
theorem Ef(d:D)(k:DE->R Out):aX (.ok (.rt d)) k=.ok (.rt d):=rfl
theorem Bl(d:List D)(k:DE->R Out):aX (.ok (.oH d)) k=.ok (.oH d):=rfl
theorem Eg(i:Nat)(e:DE):ZZ i (.nx e)=.ok (.nx (ym i e)):=rfl
theorem oQ{S:Type}{b:D->DE->R Out}(J:Nat->S->Prop)(Ev:S->DE):∀(xs:List D)(i:Nat)(s:S),J i s->(∀(j:Nat)(s:S)(x:D),J (i+j) s->xs[j]?=some x->∃s',b x (Ev s)=.ok (.nx (Ev s'))/\J (i+j+1) s')->∃s',fq b xs (Ev s)=.ok (.nx (Ev s'))/\J (i+xs.length) s'
 |[],i,s,hI,h=>⟨s,rfl,hI⟩
 |x::xs,i,s,hI,h=>by
  obtain⟨s1,h1,h2⟩:=h 0 s x hI rfl
  obtain⟨s2,h3,h4⟩:=oQ J Ev xs (i+1) s1 (by simpa using h2) fun j s y hs hy=>by
   have e:i+1+j=i+(j+1):=by omega
   rw[e]at hs⊢
   exact h (j+1) s y hs (by simpa using hy)
  refine⟨s2,?_,by rw[length_cons,show i+(xs.length+1)=i+1+xs.length by omega];exact h4⟩
  unfold fq
  rw[h1]
  exact h3
theorem pX{b:D->DE->R DE}{ct:DE->R Bool}{fe:DE->R D}{e₀:DE}(g:D->D):∀(xs:List D),(∀x∈xs,∃e,b x e₀=.ok e/\ct e=.ok true/\fe e=.ok (g x))->bh b ct fe e₀ xs=.ok (xs.map g)
 |[],_=>rfl
 |x::xs,h=>by
  obtain⟨e,h1,h2,h3⟩:=h x (by simp)
  have ih:=pX g xs fun y hy=>h y (by simp[hy])
  unfold bh
  rw[h1,R.aM,h2,R.aM,if_pos rfl,h3,R.aM,ih]
  rfl
def aO(ns:List Int):List D:=ns.map .int
theorem cJ(ns:List Int):(aO ns).length=ns.length:=length_map _
def Hq:List D->Option (List Int)
 |[]=>some []
 |.int i::r=>(Hq r).map (i::·)
 |_::_=>none
theorem IZ(ns:List Int):Hq (aO ns)=some ns:=by
 induction ns with
 |nil=>rfl
 |cons x r ih=>show(Hq (aO r)).map (x::·)=_;rw[ih];rfl
theorem C3:∀{xs:List D}{ns:List Int},Hq xs=some ns->xs=aO ns
 |[],ns,h=>by cases h;rfl
 |.int i::r,ns,h=>by
  unfold Hq at h
  cases e:Hq r with
  |none=>rw[e]at h;cases h
  |some ms=>rw[e]at h;cases h;rw[C3 e];rfl
 |.non::r,_,h=>by cases h
 |.bl _::r,_,h=>by cases h
 |.str _::r,_,h=>by cases h
 |.lst _::r,_,h=>by cases h
 |.tup _::r,_,h=>by cases h
theorem vQ(ns:List Int)(i:Int):iN (aO ns) i=(iN ns i).map .int:=by
 unfold L2.iN
 rw[cJ]
 cases qZ ns.length i with
 |none=>rfl
 |some j=>exact getElem?_map
theorem zW(ns:List Int)(lo hi:Option Int):cut (aO ns) lo hi=aO (cut ns lo hi):=by
 unfold cut
 rw[cJ]
 simp only [aO,List.map_take,map_drop]
theorem Eh(lo:Int)(n:Nat):rF lo n=aO ((range n).map fun i=>lo+(i:Nat)):=by
 unfold rF aO
 rw[map_map];rfl
def bN(i:Nat)(d:D)(env:DE):R DE:=.ok (env.set i (.val d))
def Gu:List D->DE->R DE
 |[],env=>.ok env
 |_::_,_=>.bad
def qt(b:D->DE->R DE)(k:List D->DE->R DE):List D->DE->R DE
 |d::r,env=>(b d env).bind fun e'=>k r e'
 |[],_=>.bad
def bT(n:Nat)(b:List D->DE->R DE):D->DE->R DE
 |.tup ds,env=>if ds.length=n then b ds env else .bad
 |_,_=>.bad
def Mu(i:Nat)(env:DE)(xs:List D)(d:D):R Out:= @ite _ (xs.length<sizeLine) (propDecidable _) (.ok (.nx (env.set i (.own (xs++[d]))))) (.bad)
def Rz(i:Nat)(env:DE)(xs:List D):R Out:=if 0<xs.length then .ok (.nx (env.set i (.own xs.dropLast)))else .bad
def Bm(i:Nat)(env:DE)(d:D)(xs:List D):D->R Out
 |.int j=>(match qZ xs.length j with
  |some n=>.ok (.nx (env.set i (.own (xs.set n d))))
  |none=>.bad)
 |_=>.bad
def Gv(h:Int->Int->Int)(i:Nat)(env:DE):D->D->R Out
 |.int u,.int w=>.ok (.nx (env.set i (.val (.int (h u w)))))
 |_,_=>.bad
section
variable{X:Cx}{E:Str->Hp->Prop}{pos:Pos}
theorem vx(i:Nat){x:Str}(hN:X.N.Nodup)(hi:X.N[i]?=some x:=by rfl)(hx:Loc X.env.scope x:=by first|exact Or.inl rfl|exact Or.inr rfl)(hf:X.fn x=true\/X.env.scope.names.lookup x=some .local:=by first|exact .inl rfl|exact .inr rfl|assumption):
  PG X (.Name x pos) (tG X.K E (bN i)):=gN i hN hi hx hf
theorem C4:DV X [] (Om X.K E Gu):=by
 have e:Gu=fun ds env=>match ds with
  |[]=>.ok env
  |_=>.bad:=by funext ds env;cases ds<;>rfl
 rw[e];exact Vc
theorem pY{e:Expr}{es:List Expr}{b:D->DE->R DE}{k:List D->DE->R DE}(h1:PG X e (tG X.K E b))(h2:DV X es (Om X.K E k))(hs:(assignEach (e::es) X.env).map (·.2)=assign e X.env::(assignEach es X.env).map (·.2):=by rfl):
  DV X (e::es) (Om X.K E (qt b k)):=by
 have e':qt b k=fun ds env=>match ds with
   |d::r=>(b d env).bind fun e'=>k r e'
   |_=>.bad:=by funext ds env;cases ds<;>rfl
 rw[e'];exact Rc h1 h2 hs
theorem Z1{es:List Expr}{kk:Nat}{b:List D->DE->R DE}(n:Nat)(hc:X.calm=true)(h:DV X es (Om X.K E b))(hn:(assignEach es X.env).length=n:=by rfl)(hst:(assignEach es X.env).findIdx? (·.1)=none:=by rfl):
  PG X (.Tuple es kk pos) (tG X.K E (bT n b)):=by
 have e':bT n b=fun d env=>match d with
   |.tup ds=>if ds.length=n then b ds env else .bad
   |_=>.bad:=by funext d env;cases d<;>rfl
 rw[e'];exact gT hc h hn hst
theorem yE{nt:Nat}(i:Nat)(hi:i<nt:=by decide):Kp nt (bN i):=kpN i hi
theorem OT(i:Nat){x:Str}{e:Expr}{f:DE->R D}{p apos aL:Pos}(he:PE X e (tD X.K E f))(hN:X.N[i]?=some x:=by rfl)(hv:yV X.env.scope x:=by first|exact Or.inl rfl|exact Or.inr (Or.inl rfl)|exact Or.inr (Or.inr rfl))(hd:(x==("__debug__":Str))=false:=by decide)
  (hcd:(x==("__classdict__":Str))=false:=by decide)
  (hbase:attributeBase (.Name x p) "append" X.env (eval (.Name x p) X.env)=eval (.Name x p) X.env:=by rfl)
  (hfew:((backTo aL (starEach [e] X.env)).all (fun x=> !x.1)&&(backToKw aL (keywordEach [] X.env)).all (fun x=>x.1.isSome)
   &&decide ([e].length+([]:List Keyword).length+(if([]:List Keyword).isEmpty then 0 else 1)<30))=true:=by rfl)
  (hline:(apos.endLine==aL.line)=true:=by rfl)(hst:starEach [e] X.env=(false,eval e X.env)::starEach [] X.env:=by rfl)(hplain:(backTo aL (starEach [] X.env)).any (·.1)=false:=by rfl)
  (hs:swapsWith (.Call (.Attribute (.Name x p) "append" apos) [e] [] aL) none pos.line X.env=pure false:=by rfl):
  PS X (.Expr (.Call (.Attribute (.Name x p) "append" apos) [e] [] aL) pos) (tS X.K E fun env=>(ownAt i env).bind fun xs=>(f env).bind fun d=>Mu i env xs d):=Zw i he hN hv hd hcd hbase hfew hline hst hplain hs
theorem VH(i:Nat){x:Str}{p apos aL:Pos}(hN:X.N[i]?=some x:=by rfl)(hv:yV X.env.scope x:=by first|exact Or.inl rfl|exact Or.inr (Or.inl rfl)|exact Or.inr (Or.inr rfl))(hd:(x==("__debug__":Str))=false:=by decide)
  (hcd:(x==("__classdict__":Str))=false:=by decide)
  (hbase:attributeBase (.Name x p) "pop" X.env (eval (.Name x p) X.env)=eval (.Name x p) X.env:=by rfl)(hline:(apos.endLine==aL.line)=true:=by rfl)
  (hs:swapsWith (.Call (.Attribute (.Name x p) "pop" apos) [] [] aL) none pos.line X.env=pure false:=by rfl):
  PS X (.Expr (.Call (.Attribute (.Name x p) "pop" apos) [] [] aL) pos) (tS X.K E fun env=>(ownAt i env).bind fun xs=>Rz i env xs):=Zx i hN hv hd hcd hbase hline hs
theorem zX(i:Nat){x:Str}{ek e:Expr}{fk f:DE->R D}{p tp:Pos}(hk:PE X ek (tB X.K E fk))(he:PE X e (tD X.K E f))(hN:X.N[i]?=some x:=by rfl)(hv:yV X.env.scope x:=by first|exact Or.inl rfl|exact Or.inr (Or.inl rfl)|exact Or.inr (Or.inr rfl))(hd:(x==("__debug__":Str))=false:=by decide)
  (hcd:(x==("__classdict__":Str))=false:=by decide)
  (ha:∀v,assign (.Subscript (.Name x p) ek tp) X.env v=(do
   let ov<-holding [v] (eval (.Name x p) X.env)
   let iv<-holding [v,ov] (eval ek X.env)
   standAt tp
   holding [v,ov,iv] (setItem ov iv v)
   release [v,ov,iv] []):=by intro _;rfl)
  (hs:swapsWithSole [.Subscript (.Name x p) ek tp] e pos.line X.env=pure false:=by rfl)(hw:swappedStores [.Subscript (.Name x p) ek tp] e X.env=pure none:=by rfl)
  (h1:(assignEach [.Subscript (.Name x p) ek tp] X.env).map (·.2)=[assign (.Subscript (.Name x p) ek tp) X.env]:=by rfl):
  PS X (.Assign [.Subscript (.Name x p) ek tp] e pos) (tS X.K E fun env=>(f env).bind fun d=>(ownAt i env).bind fun xs=>(fk env).bind fun kd=>Bm i env d xs kd):=by
 have h:=Ra (pos:=pos) i hk he hN hv hd hcd ha hs hw h1
 have e':(fun env:DE=>(f env).bind fun d=>(ownAt i env).bind fun xs=>(fk env).bind fun kd=>Bm i env d xs kd)=(fun env=>(f env).bind fun d=>(ownAt i env).bind fun xs=>(fk env).bind fun kd=>match kd with
   |.int j=>(match qZ xs.length j with
    |some n=>.ok (.nx (env.set i (.own (xs.set n d))))
    |none=>.bad)
   |_=>.bad):=by
  funext env
  refine congrArg (R.bind (f env)) (funext fun d=>congrArg (R.bind _) (funext fun xs=>congrArg (R.bind _) (funext fun kd=>?_)))
  cases kd<;>rfl
 rw[e'];exact h
theorem OU(i:Nat){x:Str}{e:Expr}{op:Operator}{h:Int->Int->Int}{f:DE->R D}{pos':Pos}(ho:Tn X op (Uo h))(he:PE X e (tB X.K E f))(hN:X.N.Nodup)(hi:X.N[i]?=some x:=by rfl)(hx:Loc X.env.scope x:=by first|exact Or.inl rfl|exact Or.inr rfl)
  (hf:X.fn x=true\/X.env.scope.names.lookup x=some .local:=by first|exact .inl rfl|exact .inr rfl|assumption):
  PS X (.AugAssign (.Name x pos') op e pos) (tS X.K E fun env=>(ck i env).bind fun a=>(f env).bind fun b=>Gv h i env a b):=by
 have h':=Zy (pos:=pos) (pos':=pos') i ho he hN hi hx hf
 have e':(fun env:DE=>(ck i env).bind fun a=>(f env).bind fun b=>Gv h i env a b)=(fun env=>(ck i env).bind fun a=>(f env).bind fun b=>match a,b with
   |.int u,.int w=>.ok (.nx (env.set i (.val (.int (h u w)))))
   |_,_=>.bad):=by
  funext env
  refine congrArg (R.bind _) (funext fun a=>congrArg (R.bind _) (funext fun b=>?_))
  cases a<;>cases b<;>rfl
 rw[e'];exact h'
end
def C5(d:D):R D:=match toV d with
 |some _=>.ok d
 |none=>.bad
theorem wO{x d:D}(h:C5 x=.ok d):x=d/\∃z,toV d=some z:=by
 unfold C5 at h
 cases e:toV x with
 |none=>rw[e]at h;cases h
 |some z=>rw[e]at h;cases h;exact⟨rfl,z,e⟩
def Ei:List D->R (List D)
 |[]=>.ok []
 |x::r=>(C5 x).bind fun y=>(Ei r).bind fun ys=>.ok (y::ys)
theorem zY:∀{xs ys:List D},Ei xs=.ok ys->xs=ys/\∀d∈ys,∃z,toV d=some z
 |[],ys,h=>by cases h;exact⟨rfl,fun d hd=>nomatch hd⟩
 |x::r,ys,h=>by
  unfold Ei at h
  obtain⟨y,h1,h2⟩:=R.cu h
  obtain⟨zs,h3,h4⟩:=R.cu h2
  cases h4
  obtain⟨rfl,hz⟩:=wO h1
  obtain⟨rfl,hs⟩:=zY h3
  exact⟨rfl,fun d hd=>(mem_cons.mp hd).elim (fun e=>by rw[e];exact hz) (hs d)⟩
theorem OV(i:Int):C5 (.int i)=.ok (.int i):=rfl
theorem OW(i:Bool):C5 (.bl i)=.ok (.bl i):=rfl
theorem OY(i:Str):C5 (.str i)=.ok (.str i):=rfl
theorem OZ:C5 .non=.ok .non:=rfl
theorem jy(ns:List Int):Ei (aO ns)=.ok (aO ns):=by
 induction ns with
 |nil=>rfl
 |cons x r ih=>show(C5 (.int x)).bind (fun y=>(Ei (aO r)).bind fun ys=>.ok (y::ys))=_;rw[ih];rfl
def mD(n N:Nat)(b:DE->R Out)(ds:List D):R D:=if ds.length=n then((b (au N ds)).bind ai).ne else .bad
def mS(n N:Nat)(b:DE->R Out)(ds:List D):R D:=if ds.length=n then(((b (au N ds)).bind ai).bind C5).ne else .bad
def mF(n N:Nat)(b:DE->R Out)(ds:List D):R (List D):=if ds.length=n then((b (au N ds)).bind aj).ne else .bad
def cU(n N:Nat)(b:DE->R Out)(ds:List D):R (List D):=if ds.length=n then(((b (au N ds)).bind aj).bind Ei).ne else .bad
theorem R.bD {α:Type}{r:R α}{a:α}(h:r.ne=.ok a):r=.ok a:=by
 cases r with
 |ok b=>exact h
 |err c=>cases h
 |bad=>cases h
theorem R.I8 {α:Type}{r:R α}{c:Str}:r.ne≠.err c:=by
 cases r<;>intro h<;>cases h
theorem O0{n N:Nat}{b:DE->R Out}:Lk (mS n N b):=fun ds d h=>by
 unfold mS at h
 split at h
 ·obtain⟨x,_,h2⟩:=R.cu (R.bD h)
  exact(wO h2).2
 ·cases h
theorem scl{n N:Nat}{b:DE->R Out}:ScL (cU n N b):=fun ds d h=>by
 unfold cU at h
 split at h
 ·obtain⟨x,_,h2⟩:=R.cu (R.bD h)
  exact(zY h2).2
 ·cases h
section
variable{P:Program}{w:World}{K:PySem.W.Frag}{mg:Str->Option Value}{base:Heap}
variable{x:Str}{st:Stmt}{f:Addr}{fd:FuncData}{N ps:List Str}{k:Nat}{b:DE->R Out}
theorem TN(S:aw N ps (aa st))(d:Df K mg x st ps f fd)
  (hb:∀(cdv:Value)(A:Around)(outer:List Env)(s:Shared)(H:Hp)(E:XK),aY k (A.deeper (envOfC x (aa st) s.heap.objs.size f cdv))->nA (bA kh P w K mg base N x (aa st) f cdv A outer s H E).DU (bx st) (tS K EN b)):
  Ok P w K mg base (k+1) f fd ps (mD ps.length N.length b):=mkD S d hb (fun ds e h=>by
 unfold mD at h
 split at h
 ·rename_i c
  exact⟨c,R.bD h⟩
 ·cases h) fun ds c h=>by
 unfold mD at h
 split at h
 ·exact R.I8 h
 ·cases h
theorem O1(S:aw N ps (aa st))(d:Df K mg x st ps f fd)
  (hb:∀(cdv:Value)(A:Around)(outer:List Env)(s:Shared)(H:Hp)(E:XK),aY k (A.deeper (envOfC x (aa st) s.heap.objs.size f cdv))->nA (bA kh P w K mg base N x (aa st) f cdv A outer s H E).DU (bx st) (tS K EN b)):
  Ok P w K mg base (k+1) f fd ps (mS ps.length N.length b):=mkD S d hb (fun ds e h=>by
 unfold mS at h
 split at h
 ·rename_i c
  obtain⟨y,h1,h2⟩:=R.cu (R.bD h)
  obtain⟨rfl,_⟩:=wO h2
  exact⟨c,h1⟩
 ·cases h) fun ds c h=>by
 unfold mS at h
 split at h
 ·exact R.I8 h
 ·cases h
theorem rK(S:aw N ps (aa st))(d:Df K mg x st ps f fd)
  (hb:∀(cdv:Value)(A:Around)(outer:List Env)(s:Shared)(H:Hp)(E:XK),aY k (A.deeper (envOfC x (aa st) s.heap.objs.size f cdv))->nA (bA kh P w K mg base N x (aa st) f cdv A outer s H E).DU (bx st) (tS K EN b)):
  mQ P w K mg base (k+1) f fd ps (cU ps.length N.length b):=mkF S d hb (fun ds e h=>by
 unfold cU at h
 split at h
 ·rename_i c
  obtain⟨y,h1,h2⟩:=R.cu (R.bD h)
  obtain⟨rfl,_⟩:=zY h2
  exact⟨c,h1⟩
 ·cases h) fun ds c h=>by
 unfold cU at h
 split at h
 ·exact R.I8 h
 ·cases h
end
section
variable{d:D}{xs:List D}{r:DE}{a:Sl}{i:Nat}
theorem O2:ck 0 (.val d::r)=.ok d:=rfl
theorem O3:ck (i+1) (a::r)=ck i r:=rfl
theorem O4:br 0 (.val d::r)=.ok d:=rfl
theorem I9:br 0 (.own xs::r)=.ok (.lst xs):=rfl
theorem O5:br (i+1) (a::r)=br i r:=rfl
theorem O6:tQ 0 (.val (.lst xs)::r)=.ok xs:=rfl
theorem Ja:tQ 0 (.own xs::r)=.ok xs:=rfl
theorem O7:tQ (i+1) (a::r)=tQ i r:=rfl
theorem O8:ownAt 0 (.own xs::r)=.ok xs:=rfl
theorem O9:ownAt (i+1) (a::r)=ownAt i r:=rfl
theorem Pb:ym 0 (.own xs::r)=.val (.lst xs)::r:=rfl
theorem Pd:ym (i+1) (a::r)=a::ym i r:=by
 unfold ym
 rw[List.getElem?_cons_succ]
 cases e:r[i]? with
 |none=>rfl
 |some sl=>cases sl<;>rfl
end
theorem Z2(i j:Nat)(a b:D)(env:DE):bT 2 (qt (bN i) (qt (bN j) Gu)) (.tup [a,b]) env=.ok ((env.set i (.val a)).set j (.val b)):=rfl
theorem fJ(i:Nat)(a:D)(env:DE):bN i a env=.ok (env.set i (.val a)):=rfl
theorem iQ{ns:List Int}(h:ns.length<=1000000):fit (aO ns)=.ok (aO ns):=iw (by rw[cJ];exact big h)
theorem vR(a b:List Int):aO a++aO b=aO (a++b):=(map_append ..).symm
theorem oJ(n d:Nat):HT.wy n d none=d:=rfl
theorem rm(n d:Nat)(i:Int)(h:0<=i):HT.wy n d (some i)=min i.toNat n:=by
 unfold HT.wy
 dsimp only
 split<;>omega
theorem C6{α:Type}(xs:List α)(m:Int)(h:0<=m):cut xs none (some m)=xs.take m.toNat:=by
 unfold cut
 rw[oJ,rm _ _ _ h,drop_zero,Nat.sub_zero]
 rcases Nat.le_total m.toNat xs.length with q|q
 ·rw[min_eq_left q]
 ·rw[Nat.min_eq_right q,take_length,take_of_length_le q]
theorem Jb{α:Type}(xs:List α)(m:Int)(h:0<=m):cut xs (some m) none=xs.drop m.toNat:=by
 unfold cut
 rw[oJ,rm _ _ _ h]
 rcases Nat.le_total m.toNat xs.length with q|q
 ·rw[min_eq_left q,take_of_length_le (by rw[length_drop];exact le_refl _)]
 ·rw[Nat.min_eq_right q,sub_self,List.take_zero,List.drop_eq_nil_of_le q]
theorem zc{cells:List Int}{j:Nat}{x:D}(h:(jf (aO cells))[j]?=some x):∃c,cells[j]?=some c/\x=.tup [.int (j:Nat),.int c]:=by
 obtain⟨d,hd,rfl⟩:=zb h
 unfold aO at hd
 rw[getElem?_map]at hd
 cases q:cells[j]? with
 |none=>rw[q]at hd;cases hd
 |some c=>rw[q]at hd;cases hd;exact⟨c,rfl,rfl⟩
theorem Gw(xs:List D):(jf xs).length=xs.length:=by simp[jf]
theorem zZ{i:Nat}{env:DE}{xs:List D}{d:D}(h:xs.length<1000000):Mu i env xs d=.ok (.nx (env.set i (.own (xs++[d])))):=if_pos (lt_of_lt_of_le h (by decide))
theorem Mv{i:Nat}{env:DE}{xs:List D}(h:0<xs.length):Rz i env xs=.ok (.nx (env.set i (.own xs.dropLast))):=if_pos h
theorem Bo{i:Nat}{env:DE}{d:D}{xs:List D}{j:Int}(h:0<=j)(h2:j<xs.length):Bm i env d xs (.int j)=.ok (.nx (env.set i (.own (xs.set j.toNat d)))):=by
 unfold Bm
 have:qZ xs.length j=some j.toNat:=by unfold L2.qZ;rw[if_pos h,if_pos h2]
 simp only [this]
theorem z0{α:Type}{xs:List α}{j:Int}(h:0<=j):iN xs j=xs[j.toNat]?:=by
 unfold L2.iN L2.qZ
 rw[if_pos h]
 split
 ·rfl
 ·rename_i c
  symm
  show _=none
  rw[List.getElem?_eq_none_iff]
  omega
theorem Mw(ns:List Int)(j:Nat)(x:Int):(aO ns).set j (.int x)=aO (ns.set j x):=map_set.symm
theorem Mx(ns:List Int)(j:Nat):(aO ns)[j]?=(ns[j]?).map .int:=getElem?_map
theorem Ej(ns:List Int):(aO ns).reverse=aO ns.reverse:=map_reverse.symm
theorem wQ(a:Int)(ns:List Int):D.int a::aO ns=aO (a::ns):=rfl
theorem Pe(T:String)(i:Int):Mn T (.int i)=.ok (.bl (mJ (CZ (.int i)) T)):=rfl
theorem Pf(T:String)(i:Bool):Mn T (.bl i)=.ok (.bl (mJ (CZ (.bl i)) T)):=rfl
theorem Pg(T:String)(i:Str):Mn T (.str i)=.ok (.bl (mJ (CZ (.str i)) T)):=rfl
theorem Ph(T:String):Mn T .non=.ok (.bl (mJ (CZ .non) T)):=rfl
theorem Pj(T:String)(i:List D):Mn T (.lst i)=.ok (.bl (mJ (CZ (.lst i)) T)):=rfl
theorem Pk(T:String)(i:List D):Mn T (.tup i)=.ok (.bl (mJ (CZ (.tup i)) T)):=rfl
theorem aG:(type_of% @length_cons.{0})/\(type_of% @length_nil.{0})/\(type_of% @map_cons.{0,0})/\(type_of% @map_nil.{0,0})/\(type_of% @cons_append.{0})/\(type_of% @nil_append.{0})/\(type_of% @List.replicate_zero.{0})/\(type_of% @replicate_succ.{0})/\(type_of% @if_true.{1})/\(type_of% @ite_true.{1})/\(type_of% @false_eq_true)/\(type_of% @Bool.true_eq_false)/\(type_of% @O2)/\(type_of% @O3)/\(type_of% @O4)/\(type_of% @I9)/\(type_of% @O5)/\(type_of% @O6)/\(type_of% @Ja)/\(type_of% @O7):=⟨@length_cons.{0},@length_nil.{0},@map_cons.{0,0},@map_nil.{0,0},@cons_append.{0},@nil_append.{0},@List.replicate_zero.{0},@replicate_succ.{0},@if_true.{1},@ite_true.{1},@false_eq_true,@Bool.true_eq_false,@O2,@O3,@O4,@I9,@O5,@O6,@Ja,@O7⟩
theorem aH:(type_of% @O8)/\(type_of% @O9)/\(type_of% @Pb)/\(type_of% @Pd)/\(type_of% @List.set_cons_zero.{0})/\(type_of% @List.set_cons_succ.{0})/\(type_of% @R.aM)/\(type_of% @R.kq)/\(type_of% @R.Iz)/\(type_of% @OI)/\(type_of% @OJ)/\(type_of% @OO)/\(type_of% @zV)/\(type_of% @IS)/\(type_of% @IU)/\(type_of% @Oz)/\(type_of% @OA)/\(type_of% @OB)/\(type_of% @OC)/\(type_of% @OD):=⟨@O8,@O9,@Pb,@Pd,@List.set_cons_zero.{0},@List.set_cons_succ.{0},@R.aM,@R.kq,@R.Iz,@OI,@OJ,@OO,@zV,@IS,@IU,@Oz,@OA,@OB,@OC,@OD⟩
theorem aI:(type_of% @OE)/\(type_of% @OG)/\(type_of% @OH)/\(type_of% @IW)/\(type_of% @Ec)/\(type_of% @IX)/\(type_of% @IY)/\(type_of% @OP)/\(type_of% @OQ)/\(type_of% @OS)/\(type_of% @VC)/\(type_of% @VD)/\(type_of% @VE)/\(type_of% @VF)/\(type_of% @VG)/\(type_of% @Ed)/\(type_of% @Ef)/\(type_of% @Bl)/\(type_of% @OV)/\(type_of% @OW):=⟨@OE,@OG,@OH,@IW,@Ec,@IX,@IY,@OP,@OQ,@OS,@VC,@VD,@VE,@VF,@VG,@Ed,@Ef,@Bl,@OV,@OW⟩
theorem aJ:(type_of% @OY)/\(type_of% @OZ)/\(type_of% @Eg)/\(type_of% @Pe)/\(type_of% @Pf)/\(type_of% @Pg)/\(type_of% @Ph)/\(type_of% @Pj)/\(type_of% @Pk):=⟨@OY,@OZ,@Eg,@Pe,@Pf,@Pg,@Ph,@Pj,@Pk⟩
section
variable{X:Cx}{E:Str->Hp->Prop}{pos:Pos}
theorem VI{st:Stmt}:PS X st (tS X.K E fun _=>.bad):=fun pins s σ H De I ⟨g,env,os,r,m⟩=>m.elim
end
def vU(fs xs:List Addr)(h h':Heap):Prop:=∀b o,h.get? b=some o->b∉xs->(b∉fs->h'.get? b=some o)/\∃sl,h'.get? b=some {o with slots:=sl}
theorem vU.trans {fs xs ys zs:List Addr}{h h1 h2:Heap}(a:vU fs xs h h1)(b:vU fs ys h1 h2)(s1:∀c∈xs,c∈zs)(s2:∀c∈ys,c∈zs):vU fs zs h h2:=fun c o e hn=>by
 obtain⟨p1,sl,p2⟩:=a c o e fun z=>hn (s1 c z)
 obtain⟨q1,X2,q2⟩:=b c _ p2 fun z=>hn (s2 c z)
 refine⟨fun hf=>?_,X2,q2⟩
 exact(b c o (p1 hf) fun z=>hn (s2 c z)).1 hf
theorem vU.of_eq {fs xs:List Addr}{h h':Heap}(k:∀b o,h.get? b=some o->b∉xs->h'.get? b=some o):vU fs xs h h':=fun b o e hn=>⟨fun _=>k b o e hn,o.slots,k b o e hn⟩
structure Exc(h:Heap)(e T C:Addr)(fl:Value):Prop where
 at_:∃vs,h.get? e=some {cls:=.ref C,data:=.fields vs}/\vs[1]?=some (.ref T)
 ne:T≠e
 tb:∃oT ts,h.get? T=some oT/\oT.data=.fields ts/\ts[3]?=some fl
section
variable{M:Model}{A:Around}{E:Value->Shared->Prop}{s:Shared}{base:Heap}{env:Env}{outer:List Env}{L e T C:Addr}{Q:Unit->Shared->Prop}
theorem kE{fl:Value}(x:Exc s.heap e T C fl)(hQ:∀h',Exc h' e T C .none->vU [] [T] s.heap h'->Q () {s with heap:=h'}):wpAny M A (setFlight (.ref e) none) Q E s:=by
 obtain⟨⟨vs,x1,x2⟩,x3,oT,ts,x4,x5,x6⟩:=x
 have y3:3<ts.size:=(Array.getElem?_eq_some_iff.mp x6).1
 unfold setFlight
 refine wpAny_bind (wpAny_field x1 rfl x2 ?_)
 rw[if_pos (show(Value.ref T !=Value.none)=true from rfl)]
 refine wpAny_setField x4 x5 y3 (hQ _ ?_ (.of_eq fun b o q hn=>?_))
 ·refine⟨⟨vs,?_,x2⟩,x3,_,_,Heap.get?_update_self _ x4 (Obj.isFreed_of_fields (Obj.data_mapFields x5 _)),Obj.data_mapFields x5 _,by simp[y3]⟩
  rw[Heap.get?_update_other _ _ x3]
  exact x1
 ·rw[Heap.get?_update_other _ _ (fun z=>hn (by simp[z]))]
  exact q
theorem ug{head:Value}{vs:Array Value}{nx:Bool}(hfr:A.frames=some (env::outer))(hl:s.heap.FunFrames base (env::outer))(hf:env.frame=some L)
  (he:s.heap.get? e=some {cls:=.ref C,data:=.fields vs})(hz:1<vs.size)
  (hQ:∀h' T',s.heap.get? T'=none->Exc h' e T' C (rawInt L)->vU ((env::outer).filterMap (·.frame)) [e] s.heap h'->Q () {s with heap:=h'}):
  wpAny M A (do let fo<-frameOf env;let pl<-entryPlaceOf L nx;let en<-EntryCells.newEntry head fo .none (rawInt L) .none pl;setField (.ref e) 1 en) Q E s:=by
 have out:e∉(env::outer).filterMap (·.frame):=fun z=>by
  obtain⟨_,o,q,nf⟩:=hl.mem z
  rw[he]at q;cases q
  exact nf vs rfl
 refine wpAny_bind (wpAny_frameOf_fun hfr hl hf fun hA sA=>wpAny_bind (wpAny_entryPlaceOf fun pl ip=>?_))
 unfold EntryCells.newEntry newFields
 refine wpAny_bind (wpAny_newObj_type ?_ (ip.sizeOk5 _ _ _ _ _))
 have eA:hA.get? e=some {cls:=.ref C,data:=.fields vs}:=(sA.2.1 e out).trans he
 have eB:=Heap.get?_push_of_some (h:=hA) {cls:=.type "traceback",dict:=none,data:=.fields ([head,.ref L,.none,rawInt L,.none]++(if pl.isEmpty then replicate 6 Value.none else pl)).toArray} eA
 have nT:hA.objs.size≠e:=ne_of_gt (Heap.lt_size eA)
 refine wpAny_setField eB rfl hz (hQ _ hA.objs.size (Heap.get?_none_of_le (le_of_eq sA.1.symm)) ⟨⟨vs.setIfInBounds 1 (.ref hA.objs.size),?_,by simp[hz]⟩,nT,?_⟩ fun b o q hn=>?_)
 ·rw[Heap.get?_update_self _ eB rfl]
  rfl
 ·refine⟨_,_,(Heap.get?_update_other _ _ (Ne.symm nT)).trans (Heap.get?_push_size hA rfl),rfl,?_⟩
  simp
 ·have hb:e≠b:=fun z=>hn (by simp[z])
  obtain⟨sl,q2⟩:=sA.2.2 b o q
  refine⟨fun nf=>?_,sl,?_⟩
  ·rw[Heap.get?_update_other _ _ hb]
   exact Heap.get?_push_of_some _ ((sA.2.1 b nf).trans q)
  ·rw[Heap.get?_update_other _ _ hb]
   exact Heap.get?_push_of_some _ q2
theorem Gx{vs:Array Value}(hfr:A.frames=some (env::outer))(hl:s.heap.FunFrames base (env::outer))(hf:env.frame=some L)
  (he:s.heap.get? e=some {cls:=.ref C,data:=.fields vs})(h1:vs[1]?=some .none)
  (hQ:∀h' T',s.heap.get? T'=none->Exc h' e T' C (rawInt L)->vU ((env::outer).filterMap (·.frame)) [e] s.heap h'->Q () {s with heap:=h'}):wpAny M A (noteFrame (.ref e) env) Q E s:=by
 unfold noteFrame
 simp only [hf]
 refine wpAny_bind (wpAny_field he rfl h1 ?_)
 rw[if_neg (by decide)]
 exact ug hfr hl hf he (Array.getElem?_eq_some_iff.mp h1).1 hQ
theorem rL(hfr:A.frames=some (env::outer))(hl:s.heap.FunFrames base (env::outer))(hf:env.frame=some L)(x:Exc s.heap e T C .none)
  (hQ:∀h' T',s.heap.get? T'=none->Exc h' e T' C (rawInt L)->vU ((env::outer).filterMap (·.frame)) [e,T] s.heap h'->Q () {s with heap:=h'}):wpAny M A (noteFrame (.ref e) env) Q E s:=by
 obtain⟨⟨vs,x1,x2⟩,x3,oT,ts,x4,x5,x6⟩:=x
 unfold noteFrame
 simp only [hf]
 refine wpAny_bind (wpAny_field x1 rfl x2 ?_)
 rw[if_pos (show(Value.ref T !=Value.none)=true from rfl)]
 refine wpAny_bind (wpAny_field x4 x5 x6 ?_)
 rw[if_neg (show¬((Value.none==rawInt L)=true)from fun z=>by simp[rawInt]at z)]
 refine wpAny_bind (wpAny_setField x4 x5 (Array.getElem?_eq_some_iff.mp x6).1 ?_)
 have oth:∀b,b≠T->(s.heap.update T (Obj.mapFields (·.setIfInBounds 3 Value.none))).get? b=s.heap.get? b:=fun b z=>Heap.get?_update_other _ _ (Ne.symm z)
 have hl2:(s.heap.update T (Obj.mapFields (·.setIfInBounds 3 Value.none))).FunFrames base (env::outer):=hl.of_keeps fun b o q nf=>⟨o,(oth b fun z=>by rw[z,x4]at q;cases q;exact nf ts x5).trans q,rfl⟩
 refine ug (s:={s with heap:=s.heap.update T (Obj.mapFields (·.setIfInBounds 3 Value.none))}) hfr hl2 hf ((oth e (Ne.symm x3)).trans x1) (Array.getElem?_eq_some_iff.mp x2).1 fun h' T' n1 n2 n3=>hQ h' T' ?_ n2 ?_
 ·by_cases z:T'=T
  ·have VJ:(s.heap.update T (Obj.mapFields (·.setIfInBounds 3 Value.none))).get? T'=none:=n1
   rw[z,Heap.get?_update_self _ x4 (Obj.isFreed_of_fields (Obj.data_mapFields x5 _))]at VJ
   cases VJ
  ·exact(oth T' z).symm.trans n1
 ·refine vU.trans (xs:=[T]) (ys:=[e]) (.of_eq fun b o q hn=>(oth b fun z=>hn (by simp[z])).trans q) n3 ?_ ?_
  ·intro c hc;simp at hc;simp[hc]
  ·intro c hc;simp at hc;simp[hc]
theorem Gy(hf:env.frame=some L)(x:Exc s.heap e T C (rawInt L))(hQ:Q () s):wpAny M A (noteFrame (.ref e) env) Q E s:=by
 obtain⟨⟨vs,x1,x2⟩,x3,oT,ts,x4,x5,x6⟩:=x
 unfold noteFrame
 simp only [hf]
 refine wpAny_bind (wpAny_field x1 rfl x2 ?_)
 rw[if_pos (show(Value.ref T !=Value.none)=true from rfl)]
 refine wpAny_bind (wpAny_field x4 x5 x6 ?_)
 rw[if_pos (show(rawInt L==rawInt L)=true from by simp)]
 exact wpAny_pure hQ
end
section
variable{P:Program}{w:World}{H H':Hp}{h h1 h2:Heap}{fs XH xs:List Addr}
theorem Jc{a:Addr}{o:HO}(x:bX P w H h a o):∃ob,h.get? a=some ob:=by
 cases o with
 |lst xs=>obtain⟨_,_,_,_,e⟩:=x;exact⟨_,e⟩
 |tup xs=>obtain⟨_,_,_,p⟩:=x;obtain⟨o,e,_⟩:=p;exact⟨_,e⟩
 |dK kvs=>obtain⟨_,_,_,_,o,_,_,e,_⟩:=x;exact⟨_,e⟩
 |dT kvs=>obtain⟨_,_,_,_,o,_,_,e,_⟩:=x;exact⟨_,e⟩
 |set S n=>obtain⟨o,_,_,_,e,_⟩:=x;exact⟨_,e⟩
 |ins C dx fs=>obtain⟨_,_,_,e,_⟩:=x;exact⟨_,e⟩
 |own y=>exact x
 |xd fs=>obtain⟨_,⟨_,_,_,e,_⟩,_⟩:=x;exact⟨_,e⟩
 |XG lo hi=>obtain⟨_,_,_,e⟩:=x;exact⟨_,e⟩
 |ym ob u=>obtain⟨e,_⟩:=x;exact⟨_,e⟩
 |N7 ps=>exact⟨_,(show h.get? a=some _ from x)⟩
 |met f y=>exact⟨_,(show h.get? a=some _ from x)⟩
 |ext φ=>exact x.2.1
theorem cK(x:mw P w H h){a:Addr}(e:h.get? a=none):H a=none:=by
 cases q:H a with
 |none=>rfl
 |some o=>
  obtain⟨ob,z⟩:=Jc (x a o q)
  rw[e]at z;cases z
theorem uh(u:Un fs [] H H' h h1)(k:vU XH xs h1 h2)(hx:∀b∈xs,h.get? b=none)(hf:∀b∈XH,b∈fs\/h.get? b=none):Un fs [] H H' h h2 where
 keep:=fun b o e n hb hc=>(k b o (u.keep b o e n hb hc) fun z=>by rw[hx b z]at e;cases e).1 fun z=>(hf b z).elim hb fun q=>by rw[q]at e;cases e
 slot:=fun b o e n hb hc=>by
  obtain⟨sl,q⟩:=u.slot b o e n hb hc
  obtain⟨_,X2,q2⟩:=k b _ q fun z=>by rw[hx b z]at e;cases e
  exact⟨X2,q2⟩
 free:=u.free
 there:=fun b o e hc=>by
  obtain⟨o',q⟩:=u.there b o e hc
  obtain⟨_,X2,q2⟩:=k b _ q fun z=>by rw[hx b z]at e;cases e
  exact⟨_,q2⟩
 tups:=u.tups
 tV:=u.tV
 vj:=u.vj
theorem pZ(x:mw P w H h1)(k:vU fs xs h1 h2)(hx:∀b∈xs,H b=none)(hf:∀b∈fs,H b=none):mw P w H h2:=fun a o e=>by
 have no:∀b u,H b=some u->b∉xs/\b∉fs:=fun b u q=>⟨fun z=>(by rw[hx b z]at q;cases q),fun z=>(by rw[hf b z]at q;cases q)⟩
 refine(x a o e).yt (fun b u hb q=>?_) (fun _ q=>q) fun _ _ q=>q
 have nb:b∉xs/\b∉fs:=by
  rcases hb with z|z
  ·rw[z];exact no a o e
  ·exact no b _ z
 exact(k b u q nb.1).1 nb.2
def gJ(P:Program)(w:World):Hj:=fun outer H s E ev s'=>∃e T C H',ev=.ref e/\Exc s'.heap e T C .none/\s.heap.get? e=none/\s.heap.get? T=none/\H' e=none/\H' T=none/\s'.os=s.os/\AllBare s'.gens/\
 Un (wk outer) [] H H' s.heap s'.heap/\mw P w H' s'.heap/\E (.ref C) none H'
end
section
variable{P:Program}{w:World}{K:PySem.W.Frag}{mg:Str->Option Value}{base:Heap}{N:List Str}{qual:Str}{scope:Scope}{f:Addr}{cd:Value}{A:Around}{outer:List Env}{s:Shared}{H:Hp}{E:XK}
theorem gu{fs:List Addr}{H H':Hp}{h h':Heap}(u:Un fs [] H H' h h'){b:Addr}(e:h'.get? b=none):h.get? b=none:=by
 cases q:h.get? b with
 |none=>rfl
 |some o=>
  obtain⟨o',z⟩:=u.there b o q (by simp)
  rw[e]at z;cases z
theorem Jd{pins:List (Addr×Obj)}{σ:St}{H1 H2:Hp}{s1 s2:Shared}{e C:Addr}(I:Inv (bA (gJ P w) P w K mg base N qual scope f cd A outer s H E) pins σ H1 s1)
  (n1:s1.heap.get? e=none)(Z3:H2 e=none)(ho:s2.os=s1.os)(hb:AllBare s2.gens)(un:Un (wk (envOfC qual scope s.heap.objs.size f cd::outer)) [] H1 H2 s1.heap s2.heap)(hok:mw P w H2 s2.heap)(hE:E (.ref C) none H2)
  {h':Heap}{T':Addr}(xs:List Addr)(hxs:∀b∈xs,s1.heap.get? b=none)(TQ:∀b∈xs,H2 b=none)(k:vU ((envOfC qual scope s.heap.objs.size f cd::outer).filterMap (·.frame)) xs s2.heap h')(hT:s1.heap.get? T'=none)(Z4:H2 T'=none)(hx:Exc h' e T' C .none):
  gJ P w outer H s E (.ref e) {s2 with heap:=h'}:=by
 have I2:Inv (bA (gJ P w) P w K mg base N qual scope f cd A outer s H E) pins σ H2 s2:=I.nz ho un hok hb (fun b z=>nomatch z)
 have fr:∀b∈(envOfC qual scope s.heap.objs.size f cd::outer).filterMap (·.frame),b∈wk outer\/s.heap.get? b=none:=fun b hb=>by
  rcases mem_cons.mp (I2.qI b hb)with z|z
  ·refine .inr ?_
   have hn:(s.heap.get? b)=none:=by
    rw[z]
    exact Heap.get?_none_of_le (le_refl _)
   exact hn
  ·exact .inl z
 have hu:=I2.base
 have nn:∀b,s1.heap.get? b=none->s.heap.get? b=none:=fun b q=>gu I.base q
 refine⟨e,T',C,H2,rfl,hx,nn e n1,nn T' hT,Z3,Z4,I2.os,hb,uh hu k (fun b hb=>nn b (hxs b hb)) fr,pZ hok k TQ (fun b hb=>I2.pS b hb),hE⟩
theorem Je{xc:Str->Value}:Passes (gJ P w) (bA (gJ P w) P w K mg base N qual scope f cd A outer s H E) (EX xc fun n H'=>E (xc n) none H'):=by
 intro pins σ H1 s1 ev s2 I h
 obtain⟨e,T,C,H2,rfl,x,n1,n2,n3,n4,os,bare,un,hok,n,hc,hE⟩:=h
 have I2:Inv (bA (gJ P w) P w K mg base N qual scope f cd A outer s H E) pins σ H2 s2:=I.nz os un hok bare (fun b z=>nomatch z)
 show wpAny _ _ (leaving _ (.ref e)) _ _ s2
 unfold leaving
 refine wpAny_bind (rL (L:=s.heap.objs.size) I.ok.frames I2.stack rfl x fun h' T' t1 t2 t3=>kE t2 fun Mh u1 u2=>?_)
 have Q7:s1.heap.get? T'=none:=gu un t1
 refine Jd (s2:=s2) I n1 n3 os bare un hok (by rw[hc];exact hE) [e,T,T'] ?_ ?_ (t3.trans (ys:=[T']) (fun b o q hn=>?_) ?_ ?_) Q7 (cK hok t1) u1
 ·intro b hb
  simp at hb
  rcases hb with rfl|rfl|rfl
  ·exact n1
  ·exact n2
  ·exact Q7
 ·intro b hb
  simp at hb
  rcases hb with rfl|rfl|rfl
  ·exact n3
  ·exact n4
  ·exact cK hok t1
 ·exact⟨fun _=>(u2 b o q hn).1 (by simp),(u2 b o q hn).2⟩
 ·intro c hc;simp at hc;rcases hc with rfl|rfl<;>simp
 ·intro c hc;simp at hc;simp[hc]
theorem raised{pins:List (Addr×Obj)}{σ:St}{H1:Hp}{s1:Shared}{e C:Addr}{h1:Heap}{args:List Value}(I:Inv (bA (gJ P w) P w K mg base N qual scope f cd A outer s H E) pins σ H1 s1)
  (mx:Heap.MadeExcOf s1.heap h1 e (.ref C) args)(hE:E (.ref C) none H1):(bA (gJ P w) P w K mg base N qual scope f cd A outer s H E).xe (.ref e) {s1 with heap:=h1}:=by
 obtain⟨t,q1,q2,q3⟩:=mx.there
 have I2:=I.kept (t':=s1.toks) mx.keeps
 show wpAny _ _ (leaving _ (.ref e)) _ _ _
 unfold leaving
 refine wpAny_bind (Gx (L:=s.heap.objs.size) I.ok.frames I2.stack rfl q1 rfl fun h' T' t1 t2 t3=>kE t2 fun Mh u1 u2=>?_)
 have kn:∀b,h1.get? b=none->s1.heap.get? b=none:=fun b q=>by
  cases z:s1.heap.get? b with
  |none=>rfl
  |some o=>rw[mx.keeps b o z]at q;cases q
 have Q7:s1.heap.get? T'=none:=kn T' t1
 have fe:H1 e=none:=cK I.hok mx.new
 refine Jd (s2:={s1 with heap:=h1}) I mx.new fe rfl I.bare (Un.kept mx.keeps) I2.hok hE [e,T'] ?_ ?_ (t3.trans (ys:=[T']) (fun b o q hn=>?_) ?_ ?_) Q7 (cK I2.hok t1) u1
 ·intro b hb
  simp at hb
  rcases hb with rfl|rfl
  ·exact mx.new
  ·exact Q7
 ·intro b hb
  simp at hb
  rcases hb with rfl|rfl
  ·exact fe
  ·exact cK I2.hok t1
 ·exact⟨fun _=>(u2 b o q hn).1 (by simp),(u2 b o q hn).2⟩
 ·intro c hc;simp at hc;simp[hc]
 ·intro c hc;simp at hc;simp[hc]
end
def Ek(K:PySem.W.Frag)(n:Str):Value:=match nsIn K mainGlobals n with
 |some (some v)=>v
 |_=>.none
theorem z4{K:PySem.W.Frag}{n:Str}{v:Value}(h:nsIn K mainGlobals n=some (some v)):Ek K n=v:=by
 unfold Ek;rw[h]
abbrev X3:List Value:=[.type "ValueError",.type "Exception",.type "BaseException",.type "object"]
theorem Gz{K:PySem.W.Frag}{h:Heap}{C:Addr}{bmB:List Value}{newId:String}(X:K.In h)(q:excIn K C bmB newId=true):∃nm qn N bs bm hdct sn sub ab col dd k0 k1 k2 k3 k5,∃mN:Str->Option Value,
  h.get? C=some (excClassObj nm qn C N bs bm hdct sn sub ab col dd k0 k1 k2 k3 k5 newId)/\h.Ns N mN/\mN "__init__"=none/\OwnTail h bmB bm:=by
 unfold excIn at q
 split at q
 ·rename_i dd cd sl lk
  split at q
  ·rename_i C2 tl a0 a1 a2 a3 nw a5 em es
   simp only [and_eq_true,beq_iff_eq,not_eq_true']at q
   obtain⟨⟨⟨⟨⟨e1,e2⟩,e3⟩,e4⟩,e5⟩,e6⟩:=q
   subst e1 e2
   cases cd
   dsimp only at em e3 e5 e6
   subst em e3
   have z:sl=#[a0,a1,a2,a3,some (.builtin nw),a5]:=by
    cases sl
    simp only at es
    rw[es]
   subst z
   exact⟨_,_,_,_,tl,_,_,_,_,_,dd,a0,a1,a2,a3,a5,_,X _ _ lk,.of_isNs (PySem.W.isNs_of_in X e5),PySem.W.nsMap_none_of_in X e5 e6,PySem.W.tail_of_in X e4⟩
  ·cases q
 ·cases q
structure Xc(K:PySem.W.Frag)(mg:Str->Option Value)(x:Str)(C:Addr):Prop where
 m:mg x=some (.ref C)
 n:nsIn K mainGlobals x=some (some (.ref C))
 i:excIn K C X3 "ValueError.__new__"=true
section
variable{P:Program}{w:World}{K:PySem.W.Frag}{mg:Str->Option Value}{base:Heap}{N:List Str}{qual:Str}{scope:Scope}{f:Addr}{cd:Value}{A:Around}{outer:List Env}{s:Shared}{H:Hp}{E:XK}
abbrev EW(K:PySem.W.Frag)(E:XK):Str->Hp->Prop:=fun n H'=>E (Ek K n) none H'
theorem OwnTail.VL {h:Heap}{bm:List Value}(T:OwnTail h X3 bm):bm.contains (.type "BaseException")=true:=T.hasType (by decide +kernel)
theorem wR{x:Str}{C:Addr}{msg:Str}{j}{p np aL pos:Pos}(xc:Xc K mg x C)(hh:A.handled=none)(hg:Gl (bA (gJ P w) P w K mg base N qual scope f cd A outer s H E) x:=by rfl)(hdb:(x==("__debug__":Str))=false:=by decide)
  (hp:(backTo aL (starEach [.Constant (.str msg) j p] (bA (gJ P w) P w K mg base N qual scope f cd A outer s H E).env)).any (·.1)=false:=by rfl)
  (hst:starEach [.Constant (.str msg) j p] (bA (gJ P w) P w K mg base N qual scope f cd A outer s H E).env=[(false,eval (.Constant (.str msg) j p) (bA (gJ P w) P w K mg base N qual scope f cd A outer s H E).env)]:=by rfl):
  PS (bA (gJ P w) P w K mg base N qual scope f cd A outer s H E) (.Raise (some (.Call (.Name x np) [.Constant (.str msg) j p] [] aL)) none pos) (tS K (EW K E) fun _=>.err x):=by
 intro pins s1 σ H1 De I ⟨g,env,os,r,m⟩
 have hE:E (Ek K x) none H1:=m H1 r.ext
 rw[z4 xc.n]at hE
 have hA:(PA (bA (gJ P w) P w K mg base N qual scope f cd A outer s H E) [.Constant (.str msg) j p] (HS (tC (.str msg)) LS)):=aq Hw aE hst
 obtain⟨nm,qn,N',bs,bm,hdct,sn,sub,ab,col,dd,k0,k1,k2,k3,k5,mN,c1,c2,c3,c4⟩:=Gz I.ok.mod.N8 xc.i
 refine wpAny_Raise_call_subT (C:=C) (nm:=nm) (q:=qn) (N:=N') (bs:=bs) (bm:=bm) (hdct:=hdct) (sn:=sn) (sub:=sub) (ab:=ab) (col:=col) (dd:=dd) (k0:=k0) (k1:=k1) (k2:=k2) (k3:=k3) (k5:=k5) (mN:=mN) PySem.F.excBase_ValueError (OwnTail.VL c4) hh hp c3 (kj I hg xc.m ⟨rfl,?_⟩ hdb)
 have hA2:=hA aL pins s1 σ H1 (fun vs H2=>vs=[.str msg]/\H2=H1) I ⟨rfl,rfl⟩
 rw[hst]at hA2⊢
 refine Calls.evalArgs_plain (bG hA2 fun us s2 ⟨vs,H2,I2,r2,e1,e2⟩=>?_)
 subst e1 e2
 have hk:=I2.bk
 refine⟨rfl,?_,hk _ _ c1,c2.keeps hk,c4.keeps hk,fun h' e mx=>raised I2 mx hE⟩
 rw[<-r2.length]
 show 1<=sizeLine
 decide
end
def rM(n N:Nat)(b:DE->R Out)(ds:List D):R D:=if ds.length=n then(b (au N ds)).bind ai else .bad
def nJ(n N:Nat)(b:DE->R Out)(ds:List D):R D:=if ds.length=n then((b (au N ds)).bind ai).bind C5 else .bad
def gR(n N:Nat)(b:DE->R Out)(ds:List D):R (List D):=if ds.length=n then((b (au N ds)).bind aj).bind Ei else .bad
abbrev tR(P:Program)(w:World)(K:PySem.W.Frag)(mg:Str->Option Value)(base:Heap)(k:Nat)(f:Addr)(fd:FuncData)(ps:List Str)(m:List D->R D):Prop:=bH P w K mg base (gJ P w) k f fd ps (Ea K (Ek K) m)
abbrev Bp(P:Program)(w:World)(K:PySem.W.Frag)(mg:Str->Option Value)(base:Heap)(k:Nat)(f:Addr)(fd:FuncData)(ps:List Str)(m:List D->R (List D)):Prop:=bH P w K mg base (gJ P w) k f fd ps (Lf K (Ek K) m)
section
variable{P:Program}{w:World}{K:PySem.W.Frag}{mg:Str->Option Value}{base:Heap}
variable{x:Str}{st:Stmt}{f:Addr}{fd:FuncData}{N ps:List Str}{k:Nat}{b:DE->R Out}
theorem Pn{m:List D->R D}(F:zL K x x st f fd)(S:aw N ps (aa st))
  (hm:∀ds,m ds≠.bad->ds.length=ps.length/\((∃d,m ds=.ok d/\(b (au N.length ds)).bind ai=.ok d)\/∃c,m ds=.err c/\b (au N.length ds)=.err c))
  (hb:∀(cdv:Value)(A:Around)(outer:List Env)(s:Shared)(H:Hp)(E:XK),aY k (A.deeper (envOfC x (aa st) s.heap.objs.size f cdv))->nA (bA (gJ P w) P w K mg base N x (aa st) f cdv A outer s H E) (bx st) (tS K (EW K E) b)):
  tR P w K mg base (k+1) f fd ps m:=by
 obtain⟨oc,od,kV,doc,pm,an,cdv,ct,DX,rfl,lk,hcd⟩:=F.ex
 refine HW lk hcd S (fun vs H Q E h=>?_) fun A outer s H vs Q E hr h=>?_
 ·obtain⟨Pa,ds,i,h⟩:=h
  have:=(hm ds fun z=>by rw[z]at h;exact h).1
  rw[i.length];exact this
 ·obtain⟨Pa,ds,i,h⟩:=h
  refine⟨_,hb cdv A outer s H E hr,⟨⟨Pa,H⟩,au N.length ds,[],lI i,?_⟩⟩
  obtain⟨_,⟨d,e,q⟩|⟨c,e,q⟩⟩:=hm ds fun z=>by rw[z]at h;exact h
  ·rw[e]at h
   cases eb:b (au N.length ds)with
   |bad=>rw[eb]at q;cases q
   |err c=>rw[eb]at q;cases q
   |ok o=>
    rw[eb]at q
    cases o with
    |rt d'=>
     cases q
     exact fun v H' s' i'=>h v H' s' i'.P0
    |oH xs=>
     cases q
     intro a AE H' s' hn hH i'
     exact h _ H' s' ⟨a,AE,rfl,.inl ⟨.inr hn,.inl hH⟩,IsL.ext ⟨fun b o p _=>p.1,fun _ _ _ z=>z⟩ _ _ i'⟩
    |nx e'=>
     cases q
     exact fun σ' H' gO r' _=>h _ H' r'.ext rfl
    |Gd _=>cases q
    |D6 _=>cases q
    |Gb _=>cases q
    |AF _=>cases q
    |bk _=>cases q
    |ct _=>cases q
  ·rw[e]at h
   rw[q]
   exact h
theorem VM{m:List D->R (List D)}(F:zL K x x st f fd)(S:aw N ps (aa st))
  (hm:∀ds,m ds≠.bad->ds.length=ps.length/\((∃d,m ds=.ok d/\(b (au N.length ds)).bind aj=.ok d)\/∃c,m ds=.err c/\b (au N.length ds)=.err c))
  (hb:∀(cdv:Value)(A:Around)(outer:List Env)(s:Shared)(H:Hp)(E:XK),aY k (A.deeper (envOfC x (aa st) s.heap.objs.size f cdv))->nA (bA (gJ P w) P w K mg base N x (aa st) f cdv A outer s H E) (bx st) (tS K (EW K E) b)):
  Bp P w K mg base (k+1) f fd ps m:=by
 obtain⟨oc,od,kV,doc,pm,an,cdv,ct,DX,rfl,lk,hcd⟩:=F.ex
 refine HW lk hcd S (fun vs H Q E h=>?_) fun A outer s H vs Q E hr h=>?_
 ·obtain⟨Pa,ds,i,h⟩:=h
  have:=(hm ds fun z=>by rw[z]at h;exact h).1
  rw[i.length];exact this
 ·obtain⟨Pa,ds,i,h⟩:=h
  refine⟨_,hb cdv A outer s H E hr,⟨⟨Pa,H⟩,au N.length ds,[],lI i,?_⟩⟩
  obtain⟨_,⟨d,e,q⟩|⟨c,e,q⟩⟩:=hm ds fun z=>by rw[z]at h;exact h
  ·rw[e]at h
   cases eb:b (au N.length ds)with
   |bad=>rw[eb]at q;cases q
   |err c=>rw[eb]at q;cases q
   |ok o=>
    rw[eb]at q
    cases o with
    |rt d'=>cases q
    |oH xs=>
     cases q
     intro a AE H' s' hn hH i'
     exact h a AE H' s' hn hH (IsL.ext ⟨fun b o p _=>⟨p.1,fun z=>p.2 (by simp[z])⟩,fun _ _ _ z=>z⟩ _ _ i')
    |nx e'=>cases q
    |Gd _=>cases q
    |D6 _=>cases q
    |Gb _=>cases q
    |AF _=>cases q
    |bk _=>cases q
    |ct _=>cases q
  ·rw[e]at h
   rw[q]
   exact h
theorem wU{α β:Type}{r:R α}{k:α->R β}{c:Str}(hk:∀a c,k a≠.err c)(h:r.bind k=.err c):r=.err c:=by
 cases r with
 |ok a=>exact(hk a c h).elim
 |err c'=>cases h;rfl
 |bad=>cases h
theorem El(o:Out)(c:Str):ai o≠.err c:=by
 intro z;cases o<;>cases z
theorem My(o:Out)(c:Str):aj o≠.err c:=by
 intro z;cases o<;>cases z
theorem Jf(d:D)(c:Str):C5 d≠.err c:=by
 unfold C5;intro z
 split at z<;>cases z
theorem Jg:∀(xs:List D)(c:Str),Ei xs≠.err c
 |[],c=>fun z=>nomatch z
 |x::xs,c=>fun z=>by
  have z':(C5 x).bind (fun y=>(Ei xs).bind fun ys=>.ok (y::ys))=.err c:=z
  cases e:C5 x with
  |ok y=>
   rw[e]at z'
   have z2:(Ei xs).bind (fun ys=>.ok (y::ys))=.err c:=z'
   cases e2:Ei xs with
   |ok ys=>rw[e2]at z2;cases z2
   |err c'=>exact Jg xs c' e2
   |bad=>rw[e2]at z2;cases z2
  |err c'=>exact Jf x c' e
  |bad=>rw[e]at z';cases z'
variable(S:aw N ps (aa st))(d:Df K mg x st ps f fd)
  (hb:∀(cdv:Value)(A:Around)(outer:List Env)(s:Shared)(H:Hp)(E:XK),aY k (A.deeper (envOfC x (aa st) s.heap.objs.size f cdv))->nA (bA (gJ P w) P w K mg base N x (aa st) f cdv A outer s H E) (bx st) (tS K (EW K E) b))
include S d hb
theorem Z5:tR P w K mg base (k+1) f fd ps (rM ps.length N.length b):=Pn d.F S (fun ds h=>by
 unfold rM at h⊢
 split
 ·rename_i c
  rw[if_pos c]at h
  refine⟨c,?_⟩
  cases e:(b (au N.length ds)).bind ai with
  |ok d=>exact .inl ⟨d,rfl,rfl⟩
  |err c=>exact .inr ⟨c,rfl,wU El e⟩
  |bad=>exact(h e).elim
 ·rename_i c
  exact(h (if_neg c)).elim) hb
theorem Jh:tR P w K mg base (k+1) f fd ps (nJ ps.length N.length b):=Pn d.F S (fun ds h=>by
 unfold nJ at h⊢
 split
 ·rename_i c
  rw[if_pos c]at h
  refine⟨c,?_⟩
  cases e:(b (au N.length ds)).bind ai with
  |ok d=>
   rw[e]at h
   cases e2:C5 d with
   |ok y=>
    obtain⟨rfl,_⟩:=wO e2
    exact .inl ⟨d,e2,rfl⟩
   |err c=>exact(Jf d c e2).elim
   |bad=>exact(h e2).elim
  |err c=>exact .inr ⟨c,rfl,wU El e⟩
  |bad=>rw[e]at h;exact(h rfl).elim
 ·rename_i c
  exact(h (if_neg c)).elim) hb
theorem VN:Bp P w K mg base (k+1) f fd ps (gR ps.length N.length b):=VM d.F S (fun ds h=>by
 unfold gR at h⊢
 split
 ·rename_i c
  rw[if_pos c]at h
  refine⟨c,?_⟩
  cases e:(b (au N.length ds)).bind aj with
  |ok d=>
   rw[e]at h
   cases e2:Ei d with
   |ok y=>
    obtain⟨rfl,_⟩:=zY e2
    exact .inl ⟨d,e2,rfl⟩
   |err c=>exact(Jg d c e2).elim
   |bad=>exact(h e2).elim
  |err c=>exact .inr ⟨c,rfl,wU My e⟩
  |bad=>rw[e]at h;exact(h rfl).elim
 ·rename_i c
  exact(h (if_neg c)).elim) hb
end
section
variable{P:Program}{w:World}{K:PySem.W.Frag}{mg:Str->Option Value}{base:Heap}{f:Addr}{fd:FuncData}{ps:List Str}{k:Nat}
theorem bH.calm {sp sp':Sp}(F:bH P w K mg base (gJ P w) k f fd ps sp)(h:∀vs H Q E,sp' vs H Q E->sp vs H Q fun _ _ _=>False):bH P w K mg base kh k f fd ps sp':=
 ⟨fun vs H Q E q=>F.len vs H Q _ (h vs H Q E q),fun A outer s H args us vs Q E hr he hb hv hs=>codeAny_mono (F.run A outer s H args us vs Q _ hr he hb hv (h vs H Q E hs)) fun r s' hq=>by
  cases r with
  |ok fl=>cases fl<;>exact hq
  |error e=>
   obtain⟨_,_,_,_,_,_,_,_,_,_,_,_,_,_,z⟩:=hq
   exact z.elim⟩
theorem tR.calm {m:List D->R D}(F:tR P w K mg base k f fd ps m):Ok P w K mg base k f fd ps (fun ds=>(m ds).ne):=bH.calm F fun vs H Q E h=>by
 obtain⟨Pa,ds,i,h⟩:=h
 refine⟨Pa,ds,i,?_⟩
 cases e:m ds with
 |ok d=>simp only [e,R.ne]at h;exact h
 |err c=>simp only [e,R.ne]at h
 |bad=>simp only [e,R.ne]at h
theorem Bp.calm {m:List D->R (List D)}(F:Bp P w K mg base k f fd ps m):mQ P w K mg base k f fd ps (fun ds=>(m ds).ne):=bH.calm F fun vs H Q E h=>by
 obtain⟨Pa,ds,i,h⟩:=h
 refine⟨Pa,ds,i,?_⟩
 cases e:m ds with
 |ok d=>simp only [e,R.ne]at h;exact h
 |err c=>simp only [e,R.ne]at h
 |bad=>simp only [e,R.ne]at h
end
section
variable{P:Program}{w:World}{K:PySem.W.Frag}{mg:Str->Option Value}{base:Heap}{N:List Str}{qual:Str}{scope:Scope}{f:Addr}{cd:Value}{A:Around}{outer:List Env}{s:Shared}{H:Hp}{E:XK}
variable{k:Nat}{fa:Addr}{fd:FuncData}{st:Stmt}{ps:List Str}{x:Str}{p pos:Pos}{e:Expr}{es:List Expr}{fr:DE->R (List D)}
theorem Z6{m:List D->R D}(d:Df K mg x st ps fa fd)(F:tR P w K mg base k fa fd ps m)(hr:aY k (A.deeper (envOfC qual scope s.heap.objs.size f cd)))
  (ha:PA (bA (gJ P w) P w K mg base N qual scope f cd A outer s H E) (e::es) (Ga K (EW K E) fr))(hg:Gl (bA (gJ P w) P w K mg base N qual scope f cd A outer s H E) x:=by rfl)(hdb:(x==("__debug__":Str))=false:=by decide)(he:starEach (e::es) (bA (gJ P w) P w K mg base N qual scope f cd A outer s H E).env=(false,eval e (bA (gJ P w) P w K mg base N qual scope f cd A outer s H E).env)::starEach es (bA (gJ P w) P w K mg base N qual scope f cd A outer s H E).env:=by rfl)(hpl:(backTo pos (starEach es (bA (gJ P w) P w K mg base N qual scope f cd A outer s H E).env)).any (·.1)=false:=by rfl):
  PE (bA (gJ P w) P w K mg base N qual scope f cd A outer s H E) (.Call (.Name x p) (e::es) [] pos) (tD K (EW K E) fun env=>(fr env).bind m):=fD (X:=(bA (gJ P w) P w K mg base N qual scope f cd A outer s H E)) F d.m d.F.kp d.b hr Je ha hg hdb he hpl
theorem Z7{m:List D->R D}(hsc:Lk m)(d:Df K mg x st ps fa fd)(F:tR P w K mg base k fa fd ps m)(hr:aY k (A.deeper (envOfC qual scope s.heap.objs.size f cd)))
  (ha:PA (bA (gJ P w) P w K mg base N qual scope f cd A outer s H E) (e::es) (qo K (EW K E) fr))(hg:Gl (bA (gJ P w) P w K mg base N qual scope f cd A outer s H E) x:=by rfl)(hdb:(x==("__debug__":Str))=false:=by decide)(he:starEach (e::es) (bA (gJ P w) P w K mg base N qual scope f cd A outer s H E).env=(false,eval e (bA (gJ P w) P w K mg base N qual scope f cd A outer s H E).env)::starEach es (bA (gJ P w) P w K mg base N qual scope f cd A outer s H E).env:=by rfl)(hpl:(backTo pos (starEach es (bA (gJ P w) P w K mg base N qual scope f cd A outer s H E).env)).any (·.1)=false:=by rfl):
  PE (bA (gJ P w) P w K mg base N qual scope f cd A outer s H E) (.Call (.Name x p) (e::es) [] pos) (tD K (EW K E) fun env=>(fr env).bind m):=fB (X:=(bA (gJ P w) P w K mg base N qual scope f cd A outer s H E)) F hsc d.m d.F.kp d.b hr Je ha hg hdb he hpl
theorem fFX{m:List D->R (List D)}(d:Df K mg x st ps fa fd)(F:Bp P w K mg base k fa fd ps m)(hr:aY k (A.deeper (envOfC qual scope s.heap.objs.size f cd)))
  (ha:PA (bA (gJ P w) P w K mg base N qual scope f cd A outer s H E) (e::es) (Ga K (EW K E) fr))(hg:Gl (bA (gJ P w) P w K mg base N qual scope f cd A outer s H E) x:=by rfl)(hdb:(x==("__debug__":Str))=false:=by decide)(he:starEach (e::es) (bA (gJ P w) P w K mg base N qual scope f cd A outer s H E).env=(false,eval e (bA (gJ P w) P w K mg base N qual scope f cd A outer s H E).env)::starEach es (bA (gJ P w) P w K mg base N qual scope f cd A outer s H E).env:=by rfl)(hpl:(backTo pos (starEach es (bA (gJ P w) P w K mg base N qual scope f cd A outer s H E).env)).any (·.1)=false:=by rfl):
  PE (bA (gJ P w) P w K mg base N qual scope f cd A outer s H E) (.Call (.Name x p) (e::es) [] pos) (tF K (EW K E) fun env=>(fr env).bind m):=fF (X:=(bA (gJ P w) P w K mg base N qual scope f cd A outer s H E)) F d.m d.F.kp d.b hr Je ha hg hdb he hpl
theorem C7{n N:Nat}{b:DE->R Out}:Lk (nJ n N b):=fun ds d h=>by
 unfold nJ at h
 split at h
 ·obtain⟨x,_,h2⟩:=R.cu h
  exact(wO h2).2
 ·cases h
theorem Lk.ne {m:List D->R D}(h:Lk m):Lk (fun ds=>(m ds).ne):=fun ds d e=>h ds d (R.bD e)
theorem VO:PassesOwn (model (bA (gJ P w) P w K mg base N qual scope f cd A outer s H E).prog (bA (gJ P w) P w K mg base N qual scope f cd A outer s H E).w) (bA (gJ P w) P w K mg base N qual scope f cd A outer s H E).A (bA (gJ P w) P w K mg base N qual scope f cd A outer s H E).env (bA (gJ P w) P w K mg base N qual scope f cd A outer s H E).xe:=PassesOwn.leaving
end
def PB(X:Cx)(body:List Stmt)(f:DE->R Out):Prop:=∀pins s σ H De g env os,Inv X pins σ H s->Rel X.K g env σ H os->f env≠.bad->(∀o,f env=.ok o->dW X.K g H os De o)->
 wpAny (model X.prog X.w) X.A (execs body X.env) (SP X pins De) (fun ev s'=>∃n H0 s0,f env=.err n/\Inv X pins σ H0 s0/\gJ X.prog X.w X.stack H0 s0 (fun c _ H'=>c=Ek X.K n/\aC H H') ev s') s
section
variable{X:Cx}{k:Nat}{fa:Addr}{fd:FuncData}{st:Stmt}{ps:List Str}{x:Str}{p pos aL:Pos}{e:Expr}{es:List Expr}{fr:DE->R (List D)}
theorem Po{pins:List (Addr×Obj)}{σ:St}{H:Hp}{s:Shared}{Q:VK}{E:XK}{us:List Value}{vs:List V}{sp:Sp}(F:bH X.prog X.w X.K X.mg X.base (gJ X.prog X.w) k fa fd ps sp)(hr:aY k X.A)(hb:Binds X.K fd ps [])
  (I:Inv X pins σ H s)(r:Vals vs us)(h:sp vs H Q E):wpAny (model X.prog X.w) X.A (call (.ref fa) us) (EP X pins σ Q) (fun ev s'=>gJ X.prog X.w X.stack H s E ev s') s:=by
 have hl:us.length=ps.length:=by rw[<-r.length];exact F.len _ _ _ _ h
 have hb2:=hb s us I.pR (by rw[append_nil];exact hl)
 rw[append_nil]at hb2
 refine wpAny_call (codeAny_mono (F.run X.A X.stack s H ⟨us,[]⟩ us vs Q E hr I.QQ hb2 r h) fun r s' hq=>?_)
 cases r with
 |error e=>exact hq
 |ok fl=>
  cases fl with
  |ret u=>exact I.after hq
  |next=>exact False.elim hq
  |brk=>exact False.elim hq
  |cont=>exact False.elim hq
theorem z5{m:List D->R D}(d:Df X.K X.mg x st ps fa fd)(F:tR X.prog X.w X.K X.mg X.base k fa fd ps m)(hr:aY k X.A)
  (ha:PA X.DU (e::es) (qo X.K EN fr))(hg:Gl X x:=by rfl)(hdb:(x==("__debug__":Str))=false:=by decide)(he:starEach (e::es) X.env=(false,eval e X.env)::starEach es X.env:=by rfl)(hpl:(backTo aL (starEach es X.env)).any (·.1)=false:=by rfl)
  (hs:swapsWith (.Call (.Name x p) (e::es) [] aL) none pos.line X.env=pure false:=by rfl):
  PB X [.Expr (.Call (.Name x p) (e::es) [] aL) pos] (fun env=>(fr env).ne.bind fun ds=>(m ds).bind fun _=>.ok (.nx env)):=by
 intro pins s σ H De g env os I r nb hok
 dsimp only at nb hok⊢
 cases q:fr env with
 |err c=>rw[q]at nb;exact(nb rfl).elim
 |bad=>rw[q]at nb;exact(nb rfl).elim
 |ok ds=>
  rw[q]at nb hok
  simp only [R.ne,R.aM]at nb hok⊢
  refine wpAny_execs_cons (bG (Q:=fun fl s1=>fl=.next/\∃H1 v,m ds=.ok v/\Inv X pins σ H1 s1/\aC H H1) ?_ fun fl s1 q1=>?_)
  ·refine wpAny_Expr_any ?_ I.quiet hs
   refine wpAny_Call_Name_kw (kj I hg d.m ?_ hdb)
   refine callWith_K (h₀:=X.base) I.ok.mod.N8 d.F.kp ?_ he hpl
   refine wpAny_mono (ha aL pins s σ H (fun vs H1=>aC H H1/\IsL X.K (fun _=>True) H1 ds vs) (I.vk _) ⟨g,env,os,r,kB q fun vs H1 s1 i1=>⟨s1,i1⟩⟩) (fun us s1 ⟨vs,H1,I1,r1,Mz,i1⟩=>⟨I1.pR,?_⟩) fun _ _ z=>False.elim z
   have VP:Inv X pins σ H1 s1:=I1.kQ
   cases em:m ds with
   |bad=>rw[em]at nb;exact(nb rfl).elim
   |ok v=>
    refine wpAny_mono (Po (Q:=fun _ H2=>aC H1 H2) (E:=fun _ _ _=>False) F hr d.b VP r1 ⟨_,ds,i1,?_⟩) (fun u s2 ⟨z,H2,I2,_,CA⟩=>⟨rfl,H2,v,rfl,I2,Mz.trans CA⟩) fun ev s2 hq=>?_
    ·rw[em];exact fun _ _ s' _=>s'
    ·obtain⟨_,_,_,_,_,_,_,_,_,_,_,_,_,_,z⟩:=hq
     exact z.elim
   |err n=>
    refine wpAny_mono (Po (Q:=fun _ _=>False) (E:=fun c _ H'=>c=Ek X.K n/\aC H H') F hr d.b VP r1 ⟨_,ds,i1,?_⟩) (fun u s2 ⟨z,H2,I2,_,f⟩=>f.elim) fun ev s2 hq=>?_
    ·rw[em];exact fun H' s'=>⟨rfl,Mz.trans s'⟩
    ·exact⟨n,H1,s1,rfl,VP,hq⟩
  ·obtain⟨rfl,H1,v,em,I1,s1⟩:=q1
   refine wpAny_execs_nil ⟨σ,H1,I1,?_⟩
   exact(hok (.nx env) (by rw[em];rfl)) σ H1 os (r.same s1) (.same s1 os)
end
abbrev Ba(X:Cx)(e:Addr):Cx:={X with A:=X.A.mark (some (.ref e)),calm:=false,xe:=fun _ _=>False}
section
variable{X:Cx}{pins:List (Addr×Obj)}{σ:St}{H H1:Hp}{s s1:Shared}{e:Addr}
theorem Inv.Ba (I:Inv X pins σ H s)(e:Addr):Inv (DL.Ba X e) pins σ H s:=
 ⟨⟨I.ok.mod,I.ok.kind,I.ok.glob,I.ok.blt,I.ok.above,I.ok.inj,I.ok.has,I.ok.N9,(fun z=>by cases z),I.ok.frames,I.ok.Qx,I.ok.Oa,I.ok.bs,I.ok.Hg,I.ok.AO,I.ok.yu,I.ok.qH,I.ok.Lc⟩,I.os,I.bare,I.base,I.loc,I.cell,I.free,I.ki,I.pin,I.hok,I.len⟩
theorem Inv.Pp (hc:X.calm=true->X.A.handled=none)(I:Inv (DL.Ba X e) pins σ H s):Inv X pins σ H s:=
 ⟨⟨I.ok.mod,I.ok.kind,I.ok.glob,I.ok.blt,I.ok.above,I.ok.inj,I.ok.has,I.ok.N9,hc,I.ok.frames,I.ok.Qx,I.ok.Oa,I.ok.bs,I.ok.Hg,I.ok.AO,I.ok.yu,I.ok.qH,I.ok.Lc⟩,I.os,I.bare,I.base,I.loc,I.cell,I.free,I.ki,I.pin,I.hok,I.len⟩
theorem GA{P:Program}{w:World}{h:Heap}{o:HO}(x:mw P w H h)(he:H e=none)(ok:bX P w (upd H e o) h e o):mw P w (upd H e o) h:=fun a u q=>by
 by_cases z:a=e
 ·subst z
  rw[ak]at q
  cases q
  exact ok
 ·rw[ae z]at q
  have nb:∀b v,H b=some v->upd H e o b=some v:=fun b v q2=>by rw[ae (fun z2=>by rw[z2,he]at q2;cases q2)];exact q2
  exact(x a u q).yt (fun _ _ _ q=>q) (fun b q2=>nb b _ q2) fun b xs q2=>nb b _ q2
theorem Inv.VQ {o:HO}(hex:X.ex=[])(I1:Inv X pins σ H1 s1)(I:Inv X pins σ H s)(ne:s1.heap.get? e=none)(he:H e=none)(ok:bX X.prog X.w (upd H e o) s.heap e o):Inv X pins σ (upd H e o) s:=by
 have n0:X.s₀.heap.get? e=none:=by
  have b:=I1.base
  rw[hex]at b
  exact gu b ne
 have nx:∀b u,s1.heap.get? b=some u->b≠e:=fun b u q z=>by rw[z,ne]at q;cases q
 have hb:∀b v,H b=some v->upd H e o b=some v:=fun b v q2=>by rw[ae (fun z2=>by rw[z2,he]at q2;cases q2)];exact q2
 refine⟨I.ok,I.os,I.bare,⟨I.base.keep,I.base.slot,fun b u q n hx=>?_,I.base.there,fun b xs q=>hb b _ (I.base.tups b xs q),fun b u v q=>hb b _ (I.base.tV b u v q),fun b ps q=>?_⟩,I.loc,I.cell,?_,fun x c q=>?_,fun p hp=>?_,GA I.hok he ok,I.len⟩
 ·rw[ae (fun z=>by rw[z,n0]at q;cases q)]
  exact I.base.free b u q n hx
 ·obtain⟨more,z⟩:=I.base.vj b ps q
  exact⟨more,hb b _ z⟩
 ·obtain⟨m,⟨u,_,_,hu,_⟩,_⟩:=I1.loc
  rw[ae (nx _ u hu)]
  exact I.free
 ·obtain⟨v,u,hu,_⟩:=I1.cell x c q
  rw[ae (nx _ u hu)]
  exact I.ki x c q
 ·obtain⟨a1,a2,a3⟩:=I.pin p hp
  obtain⟨b1,_⟩:=I1.pin p hp
  exact⟨a1,by rw[ae (nx _ _ b1)];exact a2,a3⟩
theorem Ji{M:Model}{A:Around}{E:Value->Shared->Prop}{i:Nat}{x:Str}{pos:Pos}{Q:Unit->Shared->Prop}(I:Inv X pins σ H s)(hN:X.N.Nodup)(hi:X.N[i]?=some x)(hk:X.env.scope.names.lookup x=some .local)
  (h:∀s',Inv X pins (σ.set i none) H s'->Q () s'):wpAny M A (do bindName X.env x .none;unbindBehindTheSuite X.env x pos) Q E s:=by
 obtain⟨m,hn,hl⟩:=id I.loc
 have hcls:(X.env.scope.kind==.class||(X.env.scope.kind==.module&&X.env.locals !=X.env.globals))=false:=by rw[I.ok.kind];rfl
 have XO:i<σ.length:=by rw[I.len];exact(List.getElem?_eq_some_iff.mp hi).1
 obtain⟨oL,_,_,hoL,_⟩:=id hn
 have lo:∀b u,X.s₀.heap.get? b=some u->b≠X.env.locals:=fun b u q=>ne_of_lt (lt_of_lt_of_le (Heap.lt_size q) I.ok.above)
 refine wpAny_nameGoes_keeps hk hn hcls fun h' v YQ hs=>h _ ⟨I.ok,I.os,I.bare,⟨fun b o q n hb hx=>?_,fun b o q n hb hx=>?_,I.base.free,fun b o q hx=>?_,I.base.tups,I.base.tV,I.base.vj⟩,⟨_,YQ,fun j y v' e1 e2 e3=>?_⟩,fun y c q=>?_,I.free,I.ki,fun p hp=>?_,fun b ob q=>?_,by simpa using I.len⟩
 ·exact(hs.2 b (lo b o q)).trans (I.base.keep b o q n hb hx)
 ·obtain⟨sl,q1⟩:=I.base.slot b o q n hb hx
  exact⟨sl,(hs.2 b (lo b o q)).trans q1⟩
 ·obtain⟨o',q1⟩:=I.base.there b o q hx
  exact⟨o',(hs.2 b (lo b o q)).trans q1⟩
 ·by_cases hj:j=i
  ·subst hj
   rw[getElem?_set_self XO]at e2
   cases e2
  ·rw[getElem?_set_ne (Ne.symm hj)]at e2
   obtain⟨u',r',q⟩:=hl j y v' e1 e2 e3
   refine⟨u',r',?_⟩
   rcases q with⟨k,q⟩|⟨k,c,q,z⟩
   ·refine .inl ⟨k,?_⟩
    have ny:y≠x:=fun z=>hj (wm hN e1 (z▸hi))
    simp[ny,q]
   ·exact .inr ⟨k,c,q,z.sameBut hs (I.LC y c q)⟩
 ·obtain⟨w',z⟩:=I.cell y c q
  exact⟨w',z.sameBut hs (I.LC y c q)⟩
 ·obtain⟨q,n,ne,nf,d⟩:=I.pin p hp
  exact⟨(hs.2 p.1 ne).trans q,n,ne,nf,d⟩
 ·refine(I.hok b ob q).yt (fun c w' hc z=>(hs.2 c ?_).trans z) (fun _ z=>z) fun _ _ z=>z
  rintro rfl
  rcases hc with z|z
  ·rw[<-z,I.free]at q;cases q
  ·rw[I.free]at z;cases z
end
theorem Rel.drop {K:PySem.W.Frag}{g:Gh}{env:DE}{σ:St}{H:Hp}{os:List Addr}(r:Rel K g env σ H os)(i:Nat):Rel K g (env.set i .no) (σ.set i none) H os:=by
 have f:∀(j:Nat)(sl:Sl),(env.set i Sl.no)[j]?=some sl->sl≠.no->i≠j/\env[j]?=some sl:=fun j sl q hn=>by
  by_cases hj:i=j
  ·subst hj
   exact(hn (aZ q)).elim
  ·rw[getElem?_set_ne hj]at q
   exact⟨hj,q⟩
 refine⟨by simp[r.len],r.ext,fun j d q=>?_,fun j xs q=>?_,fun j k xs ys a q1 q2 q3 q4=>?_,r.new,fun j v q=>?_,?_⟩
 ·obtain⟨hj,q⟩:=f j _ q (fun z=>nomatch z)
  obtain⟨v,h1,h2⟩:=r.val j d q
  exact⟨v,by rw[getElem?_set_ne hj];exact h1,h2⟩
 ·obtain⟨hj,q⟩:=f j _ q (fun z=>nomatch z)
  obtain⟨a,vs,h1,h2⟩:=r.own j xs q
  exact⟨a,vs,by rw[getElem?_set_ne hj];exact h1,h2⟩
 ·obtain⟨hj,q1⟩:=f j _ q1 (fun z=>nomatch z)
  obtain⟨hk,q2⟩:=f k _ q2 (fun z=>nomatch z)
  rw[getElem?_set_ne hj]at q3
  rw[getElem?_set_ne hk]at q4
  exact r.inj j k xs ys a q1 q2 q3 q4
 ·obtain⟨hj,q⟩:=f j _ q (fun z=>nomatch z)
  rw[getElem?_set_ne hj]
  exact r.raw j v q
 ·obtain⟨A,dd⟩:=r.Hk
  refine⟨A,dd.to (fun j nss q=>?_) (fun j xs b q z=>?_) fun j nss q x hx=>⟨(dd.mem q x hx).1,rfl⟩⟩
  ·obtain⟨hj,q⟩:=f j _ q (fun z=>nomatch z)
   exact⟨q,by rw[getElem?_set_ne hj]⟩
  ·obtain⟨hj,q⟩:=f j _ q (fun z=>nomatch z)
   rw[getElem?_set_ne hj]at z
   exact .inl ⟨xs,q,z⟩
def unO(i:Nat):Out->R Out
 |.nx e=>.ok (.nx (e.set i .no))
 |_=>.bad
def tryD(i:Nat)(ms:List Str)(f fs:DE->R Out)(env:DE):R Out:=match f env with
 |.ok o=>.ok o
 |.err n=>if n∈ms then(fs (env.set i (.val (.exc n)))).ne.bind (unO i)else .bad
 |.bad=>.bad
structure Cat(K:PySem.W.Frag)(mg:Str->Option Value)(c:Str)(ms:List Str):Prop where
 ex:∃C,mg c=some (.ref C)/\∀n∈ms,∃D,nsIn K mainGlobals n=some (some (.ref D))/\exmOne K (.ref D) (.ref C)=some true
section
variable{X:Cx}{E:Str->Hp->Prop}
theorem Z8(i:Nat){ms:List Str}{body:List Stmt}{b₀:Stmt}{suite:List Stmt}{c x:Str}{cp hpos pos:Pos}{f fs:DE->R Out}(ct:Cat X.K X.mg c ms)(hb:PB X body f)(Z9:∀e,nA (Ba X e) (b₀::suite) (tS X.K EN fs))(hN:X.N.Nodup)
  (jx:X.calm=true)(hex:X.ex=[]:=by rfl)(hst:X.stack=X.env::X.outer:=by rfl)(hfr:X.env.frame=some X.env.locals:=by rfl)(hi:X.N[i]?=some x:=by rfl)(hk:X.env.scope.names.lookup x=some .local:=by rfl)(hg:Gl X c:=by rfl)(hdb:(c==("__debug__":Str))=false:=by decide):
  PS X (.Try body [.ExceptHandler (some (.Name c cp)) (some x) (b₀::suite) hpos] [] [] pos) (tS X.K E (tryD i ms f fs)):=by
 intro pins s σ H De I ⟨g,env,os,r,m⟩
 obtain⟨Cc,cm,cx⟩:=ct.ex
 have hnb:f env≠.bad:=fun z=>by unfold tryD at m;rw[z]at m;exact m
 refine wpAny_Try_except (wpAny_mono (hb pins s σ H De g env os I r hnb fun o q=>by unfold tryD at m;rw[q]at m;exact m) (fun fl s1 q=>?_) fun ev s1 q=>?_)
 ·cases fl with
  |next=>exact wpAny_execs_nil q
  |ret v=>exact q
  |brk=>exact q
  |cont=>exact q
 ·obtain⟨n,H0,s0,ef,I0,e,T,C,H',rfl,x1,n1,n2,n3,n4,ho,bare,un,hok,hc,sm⟩:=q
  unfold tryD at m
  rw[ef]at m
  dsimp only at m
  split at m
  ·rename_i hms
   obtain⟨Dn,dn,dx⟩:=cx n hms
   have eC:C=Dn:=by rw[z4 dn]at hc;exact Value.ref.inj hc
   subst eC
   have I1:Inv X pins σ H' s1:=I0.nz ho un hok bare (fun b z=>nomatch z)
   have MA:∀b∈(X.env::X.outer).filterMap (·.frame),H' b=none:=fun b hb=>I1.pS b (by rw[hst];exact hb)
   have VR:=I1.stack
   rw[hst]at VR
   refine rL (L:=X.env.locals) (by rw[I.ok.frames,hst]) VR hfr x1 fun h2 T2 t1 t2 t3=>kE t2 fun h3 u1 u2=>?_
   have T0:s0.heap.get? T2=none:=gu un t1
   have TH:H' T2=none:=cK hok t1
   have kk:vU ((X.env::X.outer).filterMap (·.frame)) [e,T,T2] s1.heap h3:=t3.trans (ys:=[T2]) (fun b o q hn=>⟨fun _=>(u2 b o q hn).1 (by simp),(u2 b o q hn).2⟩) (by intro c hc;simp at hc;rcases hc with rfl|rfl<;>simp) (by intro c hc;simp at hc;simp[hc])
   have xs0:∀b∈[e,T,T2],s0.heap.get? b=none:=by
    intro b hb
    simp at hb
    rcases hb with rfl|rfl|rfl
    ·exact n1
    ·exact n2
    ·exact T0
   have VS:∀b∈[e,T,T2],H' b=none:=by
    intro b hb
    simp at hb
    rcases hb with rfl|rfl|rfl
    ·exact n3
    ·exact n4
    ·exact TH
   have Jj:∀b∈(X.env::X.outer).filterMap (·.frame),b∈wk X.stack\/s0.heap.get? b=none:=fun b hb=>.inl (by rw[hst];exact hb)
   have un3:=uh un kk xs0 Jj
   have RA:=pZ hok kk VS MA
   have I3:Inv X pins σ H' {s1 with heap:=h3}:=I0.nz (s':={s1 with heap:=h3}) ho un3 RA bare (fun b z=>nomatch z)
   have X4:(Value.ref e)≠byPass:=by intro q;cases q
   refine wpAny_handleBy_cons (codeAny_handlers_test (kj (Inv.Ba I3 e) hg cm ?_ hdb)) X4
   obtain⟨vs,a1,a2⟩:=u1.at_
   have lt:Looks (model X.prog X.w) h3 (typeOf (.ref e)) (.ref C):=(Looks.ld a1).andThen .now
   refine(exm_one I3.pR lt dx).here ?_
   show codeAny _ _ _ _ _
   refine codeAny_handlers_suite_as (kE u1 fun h4 w1 w2=>?_)
   have k4:vU ((X.env::X.outer).filterMap (·.frame)) [e,T,T2] s1.heap h4:=kk.trans (ys:=[T2]) (fun b o q hn=>⟨fun _=>(w2 b o q hn).1 (by simp),(w2 b o q hn).2⟩) (fun _ z=>z) (by intro c hc;simp at hc;simp[hc])
   have I4:Inv X pins σ H' {s1 with heap:=h4}:=I0.nz (s':={s1 with heap:=h4}) ho (uh un k4 xs0 Jj) (pZ hok k4 VS MA) bare (fun b z=>nomatch z)
   have okE:bX X.prog X.w (upd H' e (.ext (Ig e C))) h4 e (.ext (Ig e C)):=by
    obtain⟨vs4,b1,b2⟩:=w1.at_
    exact⟨⟨vs4,b1⟩,⟨_,b1⟩,fun ha hb ⟨v,q⟩ k=>⟨v,k _ q⟩⟩
   have I5:=Inv.VQ hex I0 I4 n1 n3 okE
   have r5:Rel X.K g env σ (upd H' e (.ext (Ig e C))) os:=(r.same sm).same (aF n3 _)
   have pe:g.P os e:=(r.same sm).fresh n3
   have r6:=r5.set i (d:=.exc n) (v:=.ref e) ⟨e,C,rfl,pe,dn,ak⟩
   refine q8 (v:=.ref e) I5 hN hi (.inl hk) rfl (fun s5 I6=>?_) (.inr hk)
   have sm5:aC H (upd H' e (.ext (Ig e C))):=sm.trans (aF n3 _)
   refine wpAny_mono (Z9 e pins s5 _ _ ⟨fun σ' Hn=>∀s',Inv X pins (σ'.set i none) Hn s'->SP X pins De .next s',fun _ _=>False,fun _ _=>False,fun _ _=>False⟩ (Inv.Ba I6 e) ⟨g,_,os,r6,?_⟩) (fun fl s6 q=>?_) fun _ _ z=>False.elim z
   ·have m':Good E g.H₀ ((fs (env.set i (.val (.exc n)))).ne.bind (unO i)) _:=m
    cases q:fs (env.set i (.val (.exc n)))with
    |err c2=>rw[q]at m';exact m'.elim
    |bad=>rw[q]at m';exact m'.elim
    |ok o=>
     rw[q]at m'
     cases o with
     |nx e2=>
      have m2:dW X.K g H os De (.nx (e2.set i .no)):=m'
      exact fun σ' Hn gO r' st s' I'=>⟨_,Hn,I',m2 _ Hn gO (r'.drop i) ((rB.same sm5 os).trans st)⟩
     |bk _=>exact m'.elim
     |ct _=>exact m'.elim
     |rt _=>exact m'.elim
     |oH _=>exact m'.elim
     |Gd _=>exact m'.elim
     |D6 _=>exact m'.elim
     |Gb _=>exact m'.elim
     |AF _=>exact m'.elim
   ·cases fl with
    |next=>
     obtain⟨σ',Hn,I7,q⟩:=q
     exact Ji (Inv.Pp I.ok.hd I7) hN hi hk q
    |ret v=>obtain⟨_,_,_,_,_,z⟩:=q;exact z.elim
    |brk=>obtain⟨_,_,_,z⟩:=q;exact z.elim
    |cont=>obtain⟨_,_,_,z⟩:=q;exact z.elim
  ·exact m.elim
end
structure VU(K:PySem.W.Frag)(D:Addr):Prop where
 cl:(clsIn K D).isSome=true
 ga:findIn K (.ref D) "__getattribute__"=some (some (.builtin "BaseException.__getattribute__"))
 gh:findIn K (.ref D) "__getattr__"=some none
 ca:findIn K (.ref D) "__class__"=some (some (.builtin "object.__class__"))
 sp:specialIn K (.builtin "object.__class__") "__get__"=some (some (.builtin "getset_descriptor.__get__"))
 tk:takesIn K (.builtin "object.__class__")=some true
 mo:mroIn K D (.type "object")=some true
 mb:subIn K (.ref D) (.type "BaseException")=some true
def ExcAt(x D:Addr)(h:Heap):Prop:=∃vs,h.get? x=some {cls:=.ref D,data:=.fields vs}
section
variable{K:PySem.W.Frag}{x D:Addr}
theorem Bq{h:Heap}{vs:Array Value}(q:h.get? x=some {cls:=.ref D,data:=.fields vs}):PySem.W.InstAt h x {cls:=.ref D,data:=.fields vs} D none:=⟨q,rfl,rfl,trivial⟩
theorem Jk(c:VU K D):findObj K D none "__class__"=some (.bind (.builtin "getset_descriptor.__get__") (.builtin "object.__class__")):=by
 obtain⟨cd,hc⟩:=isSome_iff_exists.mp c.cl
 unfold findObj
 rw[hc,bind_some,c.ca,bind_some]
 simp[c.sp,c.tk]
theorem GB{prog:Program}{w:World}{A:Around}{E:Value->Shared->Prop}{Q:Option Value->Shared->Prop}{s:Shared}(c:VU K D)(X:K.In s.heap)(hx:ExcAt x D s.heap)(hq:Q (some (.ref D)) {s with toks:=s.toks+1}):
  wpAny (model prog w) A (getAttr? (.ref x) "__class__") Q E s:=by
 obtain⟨vs,hx⟩:=hx
 have J:=Bq hx
 obtain⟨hp,gg,dd,tt,oo⟩:=s
 have l0:=J.type (M:=model prog w)
 have l1:=looks_findIn (M:=model prog w) X c.ga
 have l2:=looks_findIn (M:=model prog w) X c.gh
 have l3:=PySem.W.looks_find (M:=model prog w) X J (Jk c)
 have l4:Looks (model prog w) hp (isInstance (.ref x) (.type "BaseException")) true:=l0.andThen (PySem.W.looks_subIn X c.mb)
 have bs:=PySem.F.excAttr_ValueError.ga.bind (.ref x)
 unfold getAttr? getAttrBy? getAttrBy
 refine wpAny_bind (wpAny_mkText (wpAny_bind (wpAny_attempt (wpAny_holding (wpAny_bind (l0.at (wpAny_bind (l1.at ?_))))))))
 have g0:(onTheHeap (Value.ref D)&&Value.builtin "BaseException.__getattribute__"==Value.builtin "object.__getattribute__")=false:=by
  have z:(Value.builtin "BaseException.__getattribute__"==Value.builtin "object.__getattribute__")=false:=by decide +kernel
  rw[z];rfl
 dsimp only
 rw[if_neg (by rw[g0];exact Bool.false_ne_true)]
 unfold getAttrByItsOwn hookBefore
 rw[if_pos (show onTheHeap (Value.ref D)=true from rfl)]
 refine wpAny_bind (l2.at (wpAny_bind (wpAny_attempt (wpAny_holding ?_))))
 unfold callGetattribute boundAndCalled
 simp only [Bool.false_and,false_eq_true,if_false]
 rw[bs]
 refine wpAny_bind (wpAny_pure ?_)
 have hk:builtinKind "BaseException.__getattribute__"=some .slot:=by decide +kernel
 have hsplit:splitId "BaseException.__getattribute__"=some ("BaseException","__getattribute__"):=by decide +kernel
 refine wpAny_call (codeAny_call_builtin PySem.F.excAttr_ValueError.ga.plain PySem.F.entry_bexc_ga ?_)
 have ha:=PySem.F.args_bexc_ga (.ref x) (.str "__class__" tt)
 show wpAny _ _ (checkBuiltinCall "BaseException.__getattribute__" ⟨[.ref x,.str "__class__" tt],[]⟩) _ _ _
 simp only [checkBuiltinCall,hk,hsplit]
 refine wpAny_bind (l4.at ?_)
 rw[if_neg (by decide)]
 refine wpAny_of_eq ha ?_
 have l5:Looks (model prog w) hp (typeOf (.ref x)) (.ref D):=l0
 refine wpAny_bind (wpAny_pure (wpAny_bind (wpAny_pure (wpAny_bind (l5.at (wpAny_bind (l3.at ?_)))))))
 show wpAny _ _ (holding [Value.builtin "object.__class__"] (call (.builtin "getset_descriptor.__get__") [.builtin "object.__class__",.ref x,.ref D])>>=ret) _ _ _
 refine wpAny_bind (wpAny_holding (wpAny_call (PySem.W.class_get X J c.mo (wpAny_pure ?_))))
 refine PySem.W.handed_on rfl (wpAny_pure ?_)
 exact hq
theorem Jl(c:VU K D):KitX K (.ref x) (.ref D) (ExcAt x D) where
 ty:=fun _ _ _ ⟨_,q⟩=>(Bq q).type
 it:=fun _ _ X _=>by
  obtain⟨cd,hc⟩:=isSome_iff_exists.mp c.cl
  unfold clsIn at hc
  split at hc
  ·rename_i lk
   intro A' Q' E' s' k q
   unfold isType loadHead
   exact wpAny_bind (wpAny_loadPart (k _ _ (X _ _ lk)) (wpAny_pure q))
  ·cases hc
 ne:=fun h tp dd its n sl X htp=>by
  obtain⟨cd,hc⟩:=isSome_iff_exists.mp c.cl
  refine Bool.eq_false_iff.mpr fun q=>?_
  have e2:D=tp:=Value.ref.inj (beq_iff_eq.mp q)
  subst e2
  unfold clsIn at hc
  split at hc
  ·rename_i lk
   have z:=(X _ _ lk).symm.trans htp
   cases z
  ·cases hc
 ca:=fun X hx q=>GB c X hx q
end
def ou(c n:Str):Bool:=n==c||c=="BraidError"||c=="ValueError"
def Pq(ms cs:List Str):D->R D
 |.non=>.ok (.bl false)
 |.exc n=>if n∈ms then .ok (.bl (cs.any (ou · n)))else .bad
 |_=>.bad
structure X5(K:PySem.W.Frag)(ms:List Str)(c:Str)(v:Value):Prop where
 no:kitOne K (.type "NoneType") v=some false
 ex:∀n∈ms,∃D,nsIn K mainGlobals n=some (some (.ref D))/\VU K D/\kitOne K (.ref D) v=some (ou c n)
section
variable{X:Cx}{pins:List (Addr×Obj)}{σ:St}{H:Hp}{s:Shared}{A:Around}{E:Value->Shared->Prop}{Q:Value->Shared->Prop}
theorem RB{P:Addr->Prop}{n:Str}{v:V}{u:Value}{D:Addr}(I:Inv X pins σ H s)(i:Is X.K P H (.exc n) v)(ru:RelV v u)(hn:nsIn X.K mainGlobals n=some (some (.ref D))):∃a,u=.ref a/\ExcAt a D s.heap:=by
 obtain⟨a,C,rfl,_,c,q⟩:=i
 rw[c]at hn
 cases hn
 obtain⟨z,_⟩:=I.hok a _ q
 exact⟨a,ru,z⟩
theorem RD{P:Addr->Prop}{ms:List Str}{c:Str}{v:V}{u cv:Value}{d b:D}(F:X5 X.K ms c cv)(I:Inv X pins σ H s)(i:Is X.K P H d v)(ru:RelV v u)(e:Pq ms [c] d=.ok b)(h:∀tk t,b=.bl t->Q (.bool t) {s with toks:=tk}):
  wpAny (model X.prog X.w) A (call (.builtin "isinstance") [u,cv]) Q E s:=by
 cases d with
 |non=>
  have e1:D.bl false=b:=R.ok.inj e
  cases i
  cases (show u=Value.none from ru)
  exact kia_one kitx_none I.pR True.intro F.no (fun z=>nomatch z) fun tk=>h tk false e1.symm
 |exc n=>
  have e':(if n∈ms then R.ok (D.bl ([c].any (ou · n)))else R.bad)=R.ok b:=e
  split at e'
  ·rename_i hm
   have e1:=R.ok.inj e'
   simp only [any_cons,List.any_nil,Bool.or_false]at e1
   obtain⟨D,hn,xk,kk⟩:=F.ex n hm
   obtain⟨a,rfl,ea⟩:=RB I i ru hn
   exact kia_one (Jl xk) I.pR ea kk (fun z=>nomatch z) fun tk=>h tk _ e1.symm
  ·cases e'
 |bl _=>cases e
 |int _=>cases e
 |str _=>cases e
 |lst _=>cases e
 |tup _=>cases e
 |fn _=>cases e
end
def X6(K:PySem.W.Frag)(D:Addr):Bool:=(clsIn K D).isSome&&findIn K (.ref D) "__getattribute__"==some (some (.builtin "BaseException.__getattribute__"))&&findIn K (.ref D) "__getattr__"==some none
 &&findIn K (.ref D) "__class__"==some (some (.builtin "object.__class__"))&&specialIn K (.builtin "object.__class__") "__get__"==some (some (.builtin "getset_descriptor.__get__"))&&takesIn K (.builtin "object.__class__")==some true
 &&mroIn K D (.type "object")==some true&&subIn K (.ref D) (.type "BaseException")==some true&&excIn K D X3 "ValueError.__new__"
theorem ui{K:PySem.W.Frag}{D:Addr}(h:X6 K D=true):VU K D/\excIn K D X3 "ValueError.__new__"=true:=by
 unfold X6 at h
 simp only [and_eq_true,beq_iff_eq]at h
 obtain⟨⟨⟨⟨⟨⟨⟨⟨h1,h2⟩,h3⟩,h4⟩,h5⟩,h6⟩,h7⟩,h8⟩,h9⟩:=h
 exact⟨⟨h1,h2,h3,h4,h5,h6,h7,h8⟩,h9⟩
theorem RE(ms cs:List Str)(d:D):Pq ms cs d=.bad\/∃t,Pq ms cs d=.ok (.bl t):=by
 cases d with
 |non=>exact .inr ⟨false,rfl⟩
 |exc n=>
  show(if n∈ms then R.ok (D.bl (cs.any (ou · n)))else R.bad)=_\/∃t,(if n∈ms then R.ok (D.bl (cs.any (ou · n)))else R.bad)=_
  split
  ·exact .inr ⟨_,rfl⟩
  ·exact .inl rfl
 |bl _=>exact .inl rfl
 |int _=>exact .inl rfl
 |str _=>exact .inl rfl
 |lst _=>exact .inl rfl
 |tup _=>exact .inl rfl
 |fn _=>exact .inl rfl
section
variable{X:Cx}{E:Str->Hp->Prop}{pos:Pos}
theorem VV{ms:List Str}{c:Str}{C:Addr}{p p2:Pos}{a:Expr}{f:DE->R D}(F:X5 X.K ms c (.ref C))(hmc:X.mg c=some (.ref C))(hm:X.mg "isinstance"=none)(ha:PE X a (tB X.K E f))(hg:Gl X "isinstance":=by rfl)(Vz:Gl X c:=by rfl)(hdb:(c==("__debug__":Str))=false:=by decide)
  (hs:starEach [a,.Name c p2] X.env=(false,eval a X.env)::starEach [.Name c p2] X.env:=by rfl)(hpl:(backTo pos (starEach [.Name c p2] X.env)).any (·.1)=false:=by rfl)(hs2:starEach [.Name c p2] X.env=(false,eval (.Name c p2) X.env)::starEach [] X.env:=by rfl):
  PE X (.Call (.Name "isinstance" p) [a,.Name c p2] [] pos) (tD X.K E fun env=>(f env).bind (Pq ms [c])):=by
 have hty:PE X (.Name c p2) (tC (.ref C)):=pT Vz hmc rfl hdb
 refine imp (je (r:=fun xs H Q=>∃d v t,xs=[v,.ref C]/\Pq ms [c] d=.ok (.bl t)/\Is X.K Tr H d v/\Q (.bl t) H) ?_ hg hm qr (aq ha (aq hty aE hs2) hs) (by decide) (by decide) hs hpl) fun σ H Q ⟨g,env,os,r,m⟩=>⟨g,env,os,r,m.bind.mono fun d _ q v H' s i=>?_⟩
 ·intro pins s σ H xs us Q I r h
  obtain⟨d,v,t,rfl,e,hd,q⟩:=h
  obtain⟨u,w,rfl,ru,nE⟩:=vals2 r
  have ew:w=.ref C:=nE
  subst ew
  exact RD F I hd ru e fun tk t' et=>by
   cases et
   exact⟨.bl _,H,I.tok _,rfl,q⟩
 ·rcases RE ms [c] d with e|⟨t,e⟩
  ·rw[e]at q;exact q.elim
  ·rw[e]at q
   exact⟨d,v,t,rfl,e,i,q _ H' s rfl⟩
theorem glI{x:Str}{i:Int}{t:Tok}(hm:X.mg x=some (.int i t))(hg:Gl X x:=by rfl)(hdb:(x==("__debug__":Str))=false:=by decide):PE X (.Name x pos) (tD X.K E fun _=>.ok (.int i)):=
 imp (pT hg hm (v:=.int i) ⟨t,rfl⟩ hdb) fun σ H Q ⟨g,env,os,r,m⟩=>m _ H (aC.refl H) rfl
end
section
variable{X:Cx}{E:Str->Hp->Prop}{pos:Pos}
theorem aab{tg e:Expr}{f:DE->R D}{b:D->DE->R DE}(he:PE X e (tD X.K E f))(hg:PG X tg (tG X.K E b))(hs:swapsWithSole [tg] e pos.line X.env=pure false:=by rfl)(hw:swappedStores [tg] e X.env=pure none:=by rfl)
  (h1:(assignEach [tg] X.env).map (·.2)=[assign tg X.env]:=by rfl):PS X (.Assign [tg] e pos) (tS X.K E fun env=>(f env).bind fun d=>(b d env).bind fun e'=>.ok (.nx e')):=
 oi (zG he hg hs hw h1) fun De σ H ⟨g,env,os,r,m⟩=>⟨g,env,os,r,m.bind.mono fun d _ q v H' s h=>⟨g,env,os,d,r.same s,h,q.bind.mono fun e' _ q2 σ' r'=>q2 σ' H' os r' (.same s os)⟩⟩
end
theorem iR{K:PySem.W.Frag}{P:Addr->Prop}{H:Hp}:∀{ns:List Int}{vs:List V},IsL K P H (aO ns) vs->vs=ns.map V.int
 |[],_,h=>h
 |n::ns,_,⟨v,r,e,p,q⟩=>by
  have p':v=.int n:=p
  rw[e,p',iR q];rfl
def Em(xs:List D):Option D:=(Hq xs).map fun ns=>.int ns.sum
theorem RG:bootBuiltins "sum"=some (.builtin "sum"):=by decide +kernel
section
variable{X:Cx}{E:Str->Hp->Prop}{pos:Pos}
theorem aac{p:Pos}{a:Expr}{f:DE->R (List D)}(hc:X.calm=true)(hm:X.mg "sum"=none)(ha:PE X a (tL X.K E f))(hg:Gl X "sum":=by rfl)
  (he:starEach [a] X.env=(false,eval a X.env)::starEach [] X.env:=by rfl)(hpl:(backTo pos (starEach [] X.env)).any (·.1)=false:=by rfl):PE X (.Call (.Name "sum" p) [a] [] pos) (tD X.K E fun env=>(f env).bind fun xs=>R.of (Em xs)):=by
 refine imp (je (r:=fun xs H Q=>∃(l:Addr)(ns:List Int),xs=[.ref l]/\cV X.K H l (ns.map V.int)/\Q (.int ns.sum) H) ?_ hg hm RG (aq ha aE he) (by decide) (by decide) he hpl) fun σ H Q ⟨g,env,os,r,m⟩=>⟨g,env,os,r,m.bind.mono fun xs _ q l vs H' s hl i=>?_⟩
 ·intro pins s σ H xs us Q I r h
  obtain⟨l,ns,rfl,hl,q⟩:=h
  obtain⟨u,rfl,ru⟩:=vals1 r
  have e:u=.ref l:=ru
  subst e
  obtain⟨its,rv,pl,hz⟩:=I.list hl
  have ia:=intsAre_of rv
  obtain⟨ys,hx⟩:=ia.allInts.items
  have MB:s.heap.IsList l (intItems ys):=hx▸pl.isList
  have hh:X.A.handled=none:=I.ok.hd hc
  have e1:ns=ys.toList.map (·.1):=by
   rw[<-nums_intItems,<-hx]
   exact(show numsOf its.toArray.toList=ns from ia.numsOf).symm
  refine sum_intListG hh MB fun h' tk t' hk=>?_
  have e2:preSum (numAt ys) ys.size=ns.sum:=by
   rw[preSum_eq,take_of_length_le (by simp),e1]
  rw[e2]
  exact⟨.int _,H,I.kept (s:=s) (t':=tk) hk,⟨_,rfl⟩,q⟩
 ·obtain⟨d,e,q2⟩:=q.of
  unfold Em at e
  cases z:Hq xs with
  |none=>rw[z]at e;cases e
  |some ns=>
   rw[z]at e
   have ex:=C3 z
   subst ex
   have ev:=iR i
   subst ev
   cases e
   exact⟨l,ns,rfl,hl,q2 _ H' s rfl⟩
end
def Jm(lo c:Int)(n:Nat):List D:=(range n).map fun i=>.int (lo+(i:Nat)*c)
abbrev RC(a b c:Int):Prop:= -1000000<=a/\a<=1000000/\ -1000000<=b/\b<=1000000/\c≠0/\ -1000000<=c/\c<=1000000
def Jo:List D->R (List D)
 |[.int a,.int b,.int c]=> @ite _ (RC a b c) (propDecidable _) (.ok (Jm a c (Builtin.Range.rangeSize a b c).toNat)) .bad
 |_=>.bad
theorem rN{a b c:Int}(h:RC a b c):0<=Builtin.Range.rangeSize a b c/\Builtin.Range.rangeSize a b c<=2000000:=by
 unfold Builtin.Range.rangeSize
 have e:∀x y:Int,0<=x->x<2000000->1<=y->0<=x/y/\x/y<2000000:=fun x y h1 h2 h3=>⟨Int.ediv_nonneg h1 (by omega),Int.lt_of_le_of_lt (Int.ediv_le_self _ h1) h2⟩
 split
 ·split
  ·have:=e (b-a-1) c (by omega) (by omega) (by omega)
   omega
  ·omega
 ·split
  ·have:=e (a-b-1) (-c) (by omega) (by omega) (by omega)
   omega
  ·omega
theorem MC{a b c:Int}(h:RC a b c):Builtin.Range.small a b c=true:=by
 have hs:=rN h
 unfold Builtin.Range.small
 simp only [Builtin.Range.rangeFitsLong,and_eq_true,or_eq_true,decide_eq_true_eq,beq_iff_eq]
 refine⟨by omega,.inr ?_⟩
 split<;>simp only [and_eq_true,decide_eq_true_eq]<;>omega
section
variable{X:Cx}{E:Str->Hp->Prop}{pos:Pos}{tg:Expr}
theorem IsL.RH {K:PySem.W.Frag}{P:Addr->Prop}{H:Hp}{d d2 d3:D}{vs:List V}(h:IsL K P H [d,d2,d3] vs):∃v w z,vs=[v,w,z]/\Is K P H d v/\Is K P H d2 w/\Is K P H d3 z:=by
 obtain⟨v,r,rfl,p,q⟩:=h
 obtain⟨w,z,rfl,p2,p3⟩:=IsL.Q9 q
 exact⟨v,w,z,rfl,p,p2,p3⟩
theorem vals3{x y z:V}{us:List Value}(r:Vals [x,y,z] us):∃u v w,us=[u,v,w]/\RelV x u/\RelV y v/\RelV z w:=by
 cases r with
 |cons p q=>
  obtain⟨v,w,rfl,p2,p3⟩:=vals2 q
  exact⟨_,v,w,rfl,p,p2,p3⟩
theorem MD{K:PySem.W.Frag}{P:Addr->Prop}{H:Hp}{lo c:Int}{n:Nat}:IsL K P H (Jm lo c n) ((range n).map fun i=>V.int (lo+(i:Nat)*c)):=by
 unfold Jm
 induction (range n)with
 |nil=>rfl
 |cons x r ih=>exact⟨_,_,rfl,rfl,ih⟩
theorem wV{acc:List Value}{lo c:Int}{n:Nat}(h1:acc.length=n)(h2:∀(j:Nat)(v:Value),acc[j]?=some v->∃t,v=.int (lo+(j:Nat)*c) t):Vals ((range n).map fun i=>V.int (lo+(i:Nat)*c)) acc:=by
 have gen:∀(l:List Value)(k:Nat),(∀(j:Nat)(v:Value),l[j]?=some v->∃t,v=.int (lo+((k+j:Nat):Int)*c) t)->Vals ((range' k l.length).map fun i=>V.int (lo+(i:Nat)*c)) l:=by
  intro l
  induction l with
  |nil=>intro k _;exact .nil
  |cons x r ih=>
   intro k hk
   rw[length_cons,List.range'_succ,map_cons]
   refine .cons ?_ (ih (k+1) fun j v e=>?_)
   ·obtain⟨t,e⟩:=hk 0 x (by simp)
    exact⟨t,e⟩
   ·obtain⟨t,e⟩:=hk (j+1) v (by simpa using e)
    exact⟨t,by rw[e,show k+(j+1)=k+1+j by omega]⟩
 subst h1
 rw[List.range_eq_range']
 exact gen acc 0 fun j v e=>by
  obtain⟨t,q⟩:=h2 j v e
  exact⟨t,by rw[q,zero_add]⟩
theorem ME{a b c:Expr}{p p2 yD:Pos}{f:DE->R (List D)}(hc:X.calm=true)(Mt:X.mg "list"=none)(ZW:X.mg "range"=none)(ha:PA X [a,b,c] (qo X.K E f))(ZX:Gl X "list":=by rfl)(hgr:Gl X "range":=by rfl)
  (hs:starEach [a,b,c] X.env=(false,eval a X.env)::starEach [b,c] X.env:=by rfl)(aad:(backTo yD (starEach [b,c] X.env)).any (·.1)=false:=by rfl)(he:starEach [.Call (.Name "range" p2) [a,b,c] [] yD] X.env=(false,eval (.Call (.Name "range" p2) [a,b,c] [] yD) X.env)::starEach [] X.env:=by rfl)(hpl:(backTo pos (starEach [] X.env)).any (·.1)=false:=by rfl):
  PE X (.Call (.Name "list" p) [.Call (.Name "range" p2) [a,b,c] [] yD] [] pos) (tF X.K E fun env=>(f env).bind Jo):=by
 intro pins s σ H Q I h
 obtain⟨g,env,os,r,m⟩:=h
 refine wpAny_Call_Name_kw (jN I ZX Mt vP ?_)
 refine PyProof.Rows.callWith_type1 ?_ he hpl
 rw[he]
 refine Calls.spliced_cons ?_
 refine Call_ (jN I hgr ZW Bk (PyProof.Rows.callWith_type1 (bG (ha yD pins s σ H _ I ⟨g,env,os,r,m.bind.mono fun ds _ q vs H1 s1 i1=>(⟨ds,s1,i1,q⟩:∃ds,aC H H1/\IsL X.K Tr H1 ds vs/\Good E g.H₀ (Jo ds) _)⟩) fun us s1 ⟨vs,H1,I1,r1,ds,sm,i1,q⟩=>?_) hs aad))
 unfold Jo at q
 split at q
 ·rename_i x y z
  split at q
  ·rename_i h
   obtain⟨v1,v2,v3,rfl,k1,k2,k3⟩:=IsL.RH i1
   have XX:v1=.int x:=k1
   have k2':v2=.int y:=k2
   have k3':v3=.int z:=k3
   subst XX k2' k3'
   obtain⟨u1,u2,u3,rfl,⟨t1,rfl⟩,⟨t2,rfl⟩,⟨t3,rfl⟩⟩:=vals3 r1
   refine call_range_3 h.2.2.2.2.1 ?_ (.inl (PyProof.noPylong_small (by omega)))
   have I2:Inv X pins σ H1 {s1 with heap:=s1.heap.push {cls:=.type "range",data:=.fields #[.int x t1,.int y t2,.int z t3]},toks:=s1.toks}:=I1.kept fun b o e=>Heap.get?_push_of_some _ e
   refine Calls.spliced_nil ?_
   have hd:X.A.handled=none:=I.ok.hd hc
   have hn2:=rN h
   have hsz:Builtin.Range.rangeSize x y z=((Builtin.Range.rangeSize x y z).toNat:Nat):=by omega
   refine call_list_range hd (IsRange.new ..) (MC h) hsz (by omega) fun h' tk IP c' hk hl hit=>?_
   obtain⟨hi1,hi2⟩:=hit
   have hv:Vals ((range (Builtin.Range.rangeSize x y z).toNat).map fun i=>V.int (x+(i:Nat)*z)) IP.toList:=wV (by simpa using hi1) fun i v e=>hi2 i v (by simpa using e)
   have hlen:((range (Builtin.Range.rangeSize x y z).toNat).map fun i=>V.int (x+(i:Nat)*z)).length<=sizeLine:=by
    rw[length_map,length_range]
    exact le_trans (show(Builtin.Range.rangeSize x y z).toNat<=2000000 by omega) (by decide)
   refine⟨.ref _,upd H1 _ (.lst ((range (Builtin.Range.rangeSize x y z).toNat).map fun i=>V.int (x+(i:Nat)*z))),I2.laid (a:=_) hk (le_refl _) ⟨hlen,IP.toList,c',hv,by simpa using hl⟩,rfl,?_⟩
   have hn:H1 (s1.heap.push {cls:=.type "range",data:=.fields #[.int x t1,.int y t2,.int z t3]}).objs.size=none:=I2.hok.fresh (le_refl _)
   exact q _ _ _ (sm.trans (aF hn _)) (sm.free hn) ak MD
  ·exact q.elim
 ·exact q.elim
end
def cl2(X:Cx)(scope:Scope)(C:Addr):List (Str×Addr):=cellsFrom (C+1) scope.names (yn X.env.cells scope.names [])
def aes(X:Cx)(scope:Scope)(N:List Str)(s:Shared)(H:Hp)(fp:List Addr)(C:Addr)(pl:List (Addr×Obj)):Cx where
 prog:=X.prog
 w:=X.w
 K:=X.K
 mg:=X.mg
 base:=X.base
 A:=X.A
 N:=N
 s₀:=s
 H₀:=H
 env:=compEnvC scope (cl2 X scope C) C X.env
 outer:=X.stack
 stack:=X.stack
 ex:=fp
 fn:=fun x=>scope.names.lookup x==some NameKind.cell
 calm:=X.calm
 pn:=pl
 xe:=fun _ _=>False
structure VW(X:Cx)(scope:Scope)(N:List Str)(nt:Nat)(caps:List Nat):Prop where
 kind:scope.kind=.function
 apart:∀x,scope.names.lookup x=some .free->(x,NameKind.cell)∉scope.names
 names:∀y∈scope.names,y.2=.local->scope.names.lookup y.1=some .local
 free:∀y∈scope.names,y.2=.free->X.env.kindOf y.1=some .cell\/X.env.kindOf y.1=some .free
 len:N.length=nt+caps.length
 nd:N.Nodup
 caps:∀(j i:Nat),caps[j]?=some i->∃x,N[nt+j]?=some x/\X.N[i]?=some x/\scope.names.lookup x=some .free/\yV X.env.scope x
section
variable{K:PySem.W.Frag}{g:Gh}{env:DE}{σ:St}{H H':Hp}{os:List Addr}
theorem kF{α:Type}{l:List α}{i j:Nat}{x y:α}(e:(l.set i x)[j]?=some y)(h:y≠x):i≠j/\l[j]?=some y:=by
 by_cases hj:i=j
 ·subst hj
  exact(h (aZ e)).elim
 ·rw[getElem?_set_ne hj]at e
  exact⟨hj,e⟩
theorem kG:∀{a b:List Addr},a.map V.ref=b.map V.ref->a=b
 |[],[],_=>rfl
 |[],_::_,h=>by cases h
 |_::_,[],h=>by cases h
 |x::a,y::b,h=>by
  injection h with h1 h2
  injection h1 with h1
  rw[h1,kG h2]
theorem Rel.RJ (r:Rel K g env σ H os){l:List Addr}(s:aC H H')(hn:∀a∈l,H a=none):Ext (g.P os) (g.P (l++os)) H H':=
 ⟨fun b o p e=>⟨p.1,fun hm=>by
  rcases mem_append.mp hm with z|z
  ·rw[hn b z]at e;cases e
  ·exact p.2 z⟩,fun b o _ e=>s b o e⟩
theorem Rel.aae (r:Rel K g env σ H os)(s:aC H H')(i:Nat){nss:List (List Int)}{a:Addr}{as:List Addr}(hn:∀b∈a::as,H b=none)(nd:(a::as).Nodup)(hl:as.length=nss.length)(hH:H' a=some (.lst (as.map V.ref)))
  (hi:∀(k:Nat)(b:Addr)(ns:List Int),as[k]?=some b->nss[k]?=some ns->H' b=some (.lst (ns.map V.int))):
  Rel K g (env.set i (.deep nss)) (σ.set i (some (.ref a))) H' ((a::as)++os):=by
 have ap:=r.RJ s hn
 have f:∀(j:Nat)(sl:Sl),(env.set i (Sl.deep nss))[j]?=some sl->sl≠.deep nss->i≠j/\env[j]?=some sl:=fun j sl q hn=>kF q hn
 have dp:Dp H' ((a::as)++os) a as nss:=⟨by simp,hH,hl,nd,fun k b ns e1 e2=>⟨mem_append_left _ (mem_cons_of_mem _ (mem_of_getElem? e1)),hi k b ns e1 e2⟩⟩
 have hnew:∀x∈a::as,x∉os:=fun x hx hm=>by
  obtain⟨o,ho⟩:=(r.new x hm).2
  rw[hn x hx]at ho
  cases ho
 refine⟨by simp[r.len],r.ext.trans s,fun j d q=>?_,fun j xs q=>?_,fun j k xs ys b q1 q2 q3 q4=>?_,fun b hb=>?_,fun j v q=>?_,?_⟩
 ·obtain⟨hj,q⟩:=f j _ q (fun z=>nomatch z)
  obtain⟨v,h1,h2⟩:=r.val j d q
  exact⟨v,by rw[getElem?_set_ne hj];exact h1,Is.ext ap _ _ h2⟩
 ·obtain⟨hj,q⟩:=f j _ q (fun z=>nomatch z)
  obtain⟨b,vs,h1,h2,h3,h4⟩:=r.own j xs q
  exact⟨b,vs,by rw[getElem?_set_ne hj];exact h1,mem_append_right _ h2,s _ _ h3,IsL.ext ap _ _ h4⟩
 ·obtain⟨hj,q1⟩:=f j _ q1 (fun z=>nomatch z)
  obtain⟨hk,q2⟩:=f k _ q2 (fun z=>nomatch z)
  rw[getElem?_set_ne hj]at q3
  rw[getElem?_set_ne hk]at q4
  exact r.inj j k xs ys b q1 q2 q3 q4
 ·rcases mem_append.mp hb with z|z
  ·exact⟨r.ext.free (hn b z),(dp.mem b z).2⟩
  ·obtain⟨h1,o,h2⟩:=r.new b z
   exact⟨h1,o,s _ _ h2⟩
 ·obtain⟨hj,q⟩:=f j _ q (fun z=>nomatch z)
  rw[getElem?_set_ne hj]
  exact r.raw j v q
 ·obtain⟨A,dd⟩:=r.Hk
  refine⟨fun j=>if j=i then a::as else A j,fun j qp q=>?_,fun j qp k xs b q1 q2 q3=>?_,fun j k qp RK hjk q1 q2 x hx=>?_⟩
  ·by_cases hj:j=i
   ·subst hj
    have z:=aZ q
    cases z
    exact⟨a,as,if_pos rfl,by rw[getElem?_set_self (by rw[r.len];exact za q)],dp⟩
   ·have q':=q
    rw[getElem?_set_ne (Ne.symm hj)]at q'
    obtain⟨b,bs,h1,h2,h3⟩:=dd.dp j qp q'
    refine⟨b,bs,by rw[if_neg hj];exact h1,by rw[getElem?_set_ne (Ne.symm hj)];exact h2,h3.to fun x hx=>?_⟩
    obtain⟨z1,o,z2⟩:=h3.mem x hx
    exact⟨mem_append_right _ z1,by rw[s x o z2,z2]⟩
  ·obtain⟨hk,q2⟩:=f k _ q2 (fun z=>nomatch z)
   rw[getElem?_set_ne hk]at q3
   show b∉if j=i then a::as else A j
   by_cases hj:j=i
   ·rw[if_pos hj]
    obtain⟨c,vs,h1,h2,_⟩:=r.own k xs q2
    rw[q3]at h1
    cases h1
    exact fun z=>hnew b z h2
   ·rw[if_neg hj]
    rw[getElem?_set_ne (Ne.symm hj)]at q1
    exact dd.ow j qp k xs b q1 q2 q3
  ·show x∉if k=i then a::as else A k
   have Hr:x∈if j=i then a::as else A j:=hx
   by_cases hj:j=i
   ·have hk:k≠i:=fun z=>hjk (by rw[hj,z])
    rw[if_pos hj]at Hr
    rw[if_neg hk]
    rw[getElem?_set_ne (Ne.symm hk)]at q2
    exact fun z=>hnew x Hr (dd.mem q2 x z).1
   ·rw[if_neg hj]at Hr
    rw[getElem?_set_ne (Ne.symm hj)]at q1
    by_cases hk:k=i
    ·rw[if_pos hk]
     exact fun z=>hnew x z (dd.mem q1 x Hr).1
    ·rw[if_neg hk]
     rw[getElem?_set_ne (Ne.symm hk)]at q2
     exact dd.dj j k qp RK hjk q1 q2 x Hr
theorem Rel.aaf (r:Rel K g env σ H os){i:Nat}{nss:List (List Int)}(e:env[i]?=some (.deep nss)){a:Addr}{as:List Addr}(hσ:σ[i]?=some (some (.ref a)))(ha:H a=some (.lst (as.map V.ref))){k:Nat}{b:Addr}{ns:List Int}(hk:as[k]?=some b)(hns:k<nss.length)(VX:List Int):
  b∈os/\Rel K g (env.set i (.deep (nss.set k VX))) σ (upd H b (.lst (VX.map V.int))) os:=by
 obtain⟨A,dd⟩:=r.Hk
 obtain⟨a0,yo,hA,h1,h3⟩:=dd.dp i nss e
 rw[hσ]at h1
 cases h1
 have has:yo=as:=by
  have z:=h3.ha
  rw[ha]at z
  have z2:as.map V.ref=yo.map V.ref:=by injection z with z;injection z
  exact(kG z2).symm
 subst has
 have qL:b∈os:=(h3.it k b nss[k] hk (getElem?_eq_getElem hns)).1
 have VY:b∈A i:=by rw[hA];exact mem_cons_of_mem _ (mem_of_getElem? hk)
 refine⟨qL,?_⟩
 have ex:Ext (g.P os) (g.P os) H (upd H b (.lst (VX.map V.int))):=⟨fun _ _ p _=>p,fun c o p q=>by rw[ae (fun z=>p.2 (by rw[z];exact qL))];exact q⟩
 have f:∀(j:Nat)(sl:Sl),(env.set i (Sl.deep (nss.set k VX)))[j]?=some sl->sl≠.deep (nss.set k VX)->i≠j/\env[j]?=some sl:=fun j sl q hn=>kF q hn
 have hba:b≠a:=fun z=>(nodup_cons.mp h3.nd).1 (by rw[<-z];exact mem_of_getElem? hk)
 refine⟨by simp[r.len],fun c o q=>?_,fun j d q=>?_,fun j xs q=>?_,fun j k xs ys c q1 q2 q3 q4=>?_,fun c hc=>?_,fun j v q=>?_,?_⟩
 ·rw[ae (fun z=>by rw[z,(r.new b qL).1]at q;cases q)]
  exact r.ext c o q
 ·obtain⟨hj,q⟩:=f j _ q (fun z=>nomatch z)
  obtain⟨v,h1,h2⟩:=r.val j d q
  exact⟨v,h1,Is.ext ex _ _ h2⟩
 ·obtain⟨hj,q⟩:=f j _ q (fun z=>nomatch z)
  obtain⟨c,vs,h1,h2,VZ,h4⟩:=r.own j xs q
  have hcb:c≠b:=fun z=>dd.ow i nss j xs c e q h1 (by rw[z];exact VY)
  exact⟨c,vs,h1,h2,by rw[ae hcb];exact VZ,IsL.ext ex _ _ h4⟩
 ·obtain⟨hj,q1⟩:=f j _ q1 (fun z=>nomatch z)
  obtain⟨hk,q2⟩:=f k _ q2 (fun z=>nomatch z)
  exact r.inj j k xs ys c q1 q2 q3 q4
 ·obtain⟨z1,o,z2⟩:=r.new c hc
  refine⟨z1,?_⟩
  by_cases z:c=b
  ·exact⟨_,by rw[z];exact ak⟩
  ·exact⟨o,by rw[ae z];exact z2⟩
 ·obtain⟨hj,q⟩:=f j _ q (fun z=>nomatch z)
  exact r.raw j v q
 ·have h3k:∀(m:Nat),yo[m]?=some b->m=k:=fun m hm=>by
   have aai:=(nodup_cons.mp h3.nd).2
   have hm1:=(List.getElem?_eq_some_iff.mp hm).1
   have hk1:=(List.getElem?_eq_some_iff.mp hk).1
   exact(List.getElem_inj aai).mp (by rw[(List.getElem?_eq_some_iff.mp hm).2,(List.getElem?_eq_some_iff.mp hk).2])
  refine⟨A,fun j qp q=>?_,fun j qp m xs c q1 q2 q3=>?_,fun j m qp RK TR q1 q2 x hx=>?_⟩
  ·by_cases hj:i=j
   ·subst hj
    have z:=aZ q
    cases z
    refine⟨a,yo,hA,hσ,h3.ma,by rw[ae (Ne.symm hba)];exact h3.ha,by rw[length_set];exact h3.len,h3.nd,fun m c ms e1 e2=>?_⟩
    by_cases hm:c=b
    ·subst hm
     have hmk:=h3k m e1
     subst hmk
     rw[getElem?_set_self hns]at e2
     cases e2
     exact⟨qL,ak⟩
    ·have hmk:k≠m:=fun z=>hm (by rw[z]at hk;rw[hk]at e1;cases e1;rfl)
     rw[getElem?_set_ne hmk]at e2
     rw[ae hm]
     exact h3.it m c ms e1 e2
   ·rw[getElem?_set_ne hj]at q
    obtain⟨c,cs,z1,z2,z3⟩:=dd.dp j qp q
    refine⟨c,cs,z1,z2,z3.to fun x hx=>?_⟩
    have hxb:x≠b:=fun z=>dd.dj i j nss qp hj e q b VY (by rw[z1,<-z];exact hx)
    exact⟨(z3.mem x hx).1,ae hxb⟩
  ·obtain⟨_,q2⟩:=f m _ q2 (fun z=>nomatch z)
   by_cases hj:i=j
   ·subst hj
    exact dd.ow i nss m xs c e q2 q3
   ·rw[getElem?_set_ne hj]at q1
    exact dd.ow j qp m xs c q1 q2 q3
  ·have p1:∃ms,env[j]?=some (.deep ms):=by
    by_cases hj:i=j
    ·subst hj;exact⟨nss,e⟩
    ·rw[getElem?_set_ne hj]at q1;exact⟨qp,q1⟩
   have p2:∃ms,env[m]?=some (.deep ms):=by
    by_cases hj:i=m
    ·subst hj;exact⟨nss,e⟩
    ·rw[getElem?_set_ne hj]at q2;exact⟨RK,q2⟩
   obtain⟨m1,p1⟩:=p1
   obtain⟨m2,p2⟩:=p2
   exact dd.dj j m m1 m2 TR p1 p2 x hx
end
section
variable{X:Cx}{E:Str->Hp->Prop}{pos:Pos}
def tFr(K:PySem.W.Frag)(E:Str->Hp->Prop)(f:DE->R (List (List Int))):TA:=fun σ H Q=>∃g env os,Rel K g env σ H os/\Good E g.H₀ (f env) fun nss=>∀(as:List Addr)(H':Hp),aC H H'->(∀b∈as,H b=none)->as.Nodup->as.length=nss.length->
 (∀(k:Nat)(b:Addr)(ns:List Int),as[k]?=some b->nss[k]?=some ns->H' b=some (.lst (ns.map V.int)))->Q (as.map V.ref) H'
theorem Pr:PA X [] (tFr X.K E fun _=>.ok []):=Ii aE fun σ H Q ⟨g,env,os,r,m⟩=>m [] H (aC.refl H) (fun _ z=>nomatch z) .nil rfl (fun _ _ _ z=>by simp at z)
theorem Pu(i:Nat){x:Str}{es:List Expr}{f:DE->R (List (List Int))}{pos' p:Pos}(he:PA X es (tFr X.K E f))(hN:X.N.Nodup)(hi:X.N[i]?=some x:=by rfl)(hx:Loc X.env.scope x:=by first|exact Or.inl rfl|exact Or.inr rfl)(hs:swapsWith (.List es p) (some (.Name x pos')) pos.line X.env=pure false:=by rfl)
  (hf:X.fn x=true\/X.env.scope.names.lookup x=some .local:=by first|exact .inl rfl|exact .inr rfl|assumption):PS X (.Assign [.Name x pos'] (.List es p) pos) (tS X.K E fun env=>(f env).bind fun nss=>(fit nss).bind fun nss=>.ok (.nx (env.set i (.deep nss)))):=
 oi (di hN hi hx (tZ he) hs hf) fun De σ H ⟨g,env,os,r,m⟩=>⟨g,env,os,r,m.bind.mono fun nss _ m1 as H1 s1 hn nd hl hc=>by
  obtain⟨hz,q⟩:=m1.bind.fit
  refine⟨by rw[length_map,hl];exact hz,fun p hp=>?_⟩
  have aak:p∉as:=fun z=>by
   obtain⟨k,hk,rfl⟩:=getElem_of_mem z
   have:=hc k _ _ (getElem?_eq_getElem hk) (getElem?_eq_getElem (by rw[<-hl];exact hk))
   rw[hp]at this
   cases this
  have sp:=aF hp (.lst (as.map V.ref))
  have hnew:∀b∈p::as,H b=none:=fun b hb=>by
   rcases mem_cons.mp hb with rfl|hb
   ·exact s1.free hp
   ·exact hn b hb
  have s2:=s1.trans sp
  refine q _ _ ((p::as)++os) (r.aae s2 i hnew (nodup_cons.mpr ⟨aak,nd⟩) hl ak fun k b ns e1 e2=>sp _ _ (hc k b ns e1 e2)) ⟨fun b hb=>?_,fun b hb=>s2.free hb,fun b o _ hb=>s2 b o hb⟩
  rcases mem_append.mp hb with z|z
  ·exact .inr (hnew b z)
  ·exact .inl z⟩
end
def Jp:Out->R (List (List Int))
 |.AF nss=>.ok nss
 |_=>.bad
def spT(K:PySem.W.Frag)(m:List D->R (List (List Int))):Sp:=fun vs H Q E=>∃P ds,IsL K P H ds vs/\(match m ds with
 |.ok nss=>∀(a:Addr)(as:List Addr)(H':Hp),aC H H'->Q6 H H' a as nss->Q (.ref a) H'
 |_=>False)
def mT(n N:Nat)(b:DE->R Out)(ds:List D):R (List (List Int)):=if ds.length=n then((b (au N ds)).bind Jp).ne else .bad
abbrev TU(P:Program)(w:World)(K:PySem.W.Frag)(mg:Str->Option Value)(base:Heap)(k:Nat)(f:Addr)(fd:FuncData)(ps:List Str)(m:List D->R (List (List Int))):Prop:=bH P w K mg base kh k f fd ps (spT K m)
section
variable{P:Program}{w:World}{K:PySem.W.Frag}{mg:Str->Option Value}{base:Heap}
theorem okT{x:Str}{st:Stmt}{f:Addr}{fd:FuncData}{N ps:List Str}{k:Nat}{b:DE->R Out}(S:aw N ps (aa st))(d:Df K mg x st ps f fd)
  (hb:∀(cdv:Value)(A:Around)(outer:List Env)(s:Shared)(H:Hp)(E:XK),aY k (A.deeper (envOfC x (aa st) s.heap.objs.size f cdv))->nA (bA kh P w K mg base N x (aa st) f cdv A outer s H E).DU (bx st) (tS K EN b)):
  TU P w K mg base (k+1) f fd ps (mT ps.length N.length b):=by
 refine d.F.ok S (fun vs H Q E h=>?_) (fun cdv A outer s H vs Q E hr h=>?_)
 ·obtain⟨Pa,ds,i,h⟩:=h
  cases e:mT ps.length N.length b ds with
  |ok nss=>
   rw[i.length]
   unfold mT at e
   split at e
   ·assumption
   ·cases e
  |err c=>rw[e]at h;exact h.elim
  |bad=>rw[e]at h;exact h.elim
 ·obtain⟨Pa,ds,i,h⟩:=h
  refine⟨_,hb cdv A outer s H E hr,⟨⟨Pa,H⟩,au N.length ds,[],lI i,?_⟩⟩
  cases e:mT ps.length N.length b ds with
  |err c=>rw[e]at h;exact h.elim
  |bad=>rw[e]at h;exact h.elim
  |ok nss=>
   rw[e]at h
   unfold mT at e
   split at e
   ·have q:=R.bD e
    cases eb:b (au N.length ds)with
    |bad=>rw[eb]at q;cases q
    |err c=>rw[eb]at q;cases q
    |ok o=>
     rw[eb]at q
     cases o with
     |AF qp=>
      cases q
      exact fun a as H' s' nd=>h a as H' s' nd
     |Gd _=>cases q
     |D6 _=>cases q
     |Gb _=>cases q
     |oH _=>cases q
     |rt _=>cases q
     |nx _=>cases q
     |bk _=>cases q
     |ct _=>cases q
   ·cases e
end
section
variable{X:Cx}{E:Str->Hp->Prop}{pos:Pos}
def tDp(K:PySem.W.Frag)(E:Str->Hp->Prop)(f:DE->R (List (List Int))):TE:=fun σ H Q=>∃g env os,Rel K g env σ H os/\Good E g.H₀ (f env) fun nss=>∀(a:Addr)(as:List Addr)(H':Hp),aC H H'->Q6 H H' a as nss->Q (.ref a) H'
theorem fT1{x:Str}{st:Stmt}{ps:List Str}{fa:Addr}{fd:FuncData}{k:Nat}{p:Pos}{e:Expr}{es:List Expr}{f:DE->R (List D)}{m:List D->R (List (List Int))}(d:Df X.K X.mg x st ps fa fd)(F:TU X.prog X.w X.K X.mg X.base k fa fd ps m)(hr:aY k X.A)
  (ha:PA X (e::es) (qo X.K E f))(hg:Gl X x:=by rfl)(hdb:(x==("__debug__":Str))=false:=by decide)(he:starEach (e::es) X.env=(false,eval e X.env)::starEach es X.env:=by rfl)(hpl:(backTo pos (starEach es X.env)).any (·.1)=false:=by rfl):
  PE X (.Call (.Name x p) (e::es) [] pos) (tDp X.K E fun env=>((f env).bind m).ne):=
 imp (dS (E:=fun _ _ _=>False) F hr hg d.m d.F.kp d.b .nil ky ha hdb he hpl) fun σ H Q ⟨g,env,os,r,q⟩=>⟨g,env,os,r,by
  dsimp only at q
  cases ef:f env with
  |bad=>rw[ef]at q;exact q.elim
  |err c=>rw[ef]at q;exact q.elim
  |ok ds=>
   rw[ef]at q
   cases em:m ds with
   |bad=>rw[show((R.ok ds).bind m)=m ds from rfl,em]at q;exact q.elim
   |err c=>rw[show((R.ok ds).bind m)=m ds from rfl,em]at q;exact q.elim
   |ok nss=>
    rw[show((R.ok ds).bind m)=m ds from rfl,em]at q
    intro vs H1 s1 i1
    show spT X.K m (vs++[]) H1 Q _
    rw[append_nil]
    refine⟨_,ds,i1,?_⟩
    rw[em]
    exact fun a as H' s' nd=>q a as H' (s1.trans s') (nd.back s1)⟩
def gw(i:Nat)(env:DE):R (List (List Int)):=match env[i]? with
 |some (.deep (.ls nss))=>.ok nss
 |_=>.bad
theorem Good.deep {H₀:Hp}{i:Nat}{env:DE}{p:List (List Int)->Prop}(h:Good E H₀ (gw i env) p):∃nss:List (List Int),env[i]?=some (.deep nss)/\p nss:=by
 unfold gw at h
 split at h
 ·rename_i nss e
  exact⟨nss,e,h⟩
 ·exact h.elim
theorem Pw(i:Nat){x:Str}{p:Pos}(hN:X.N[i]?=some x:=by rfl)(hv:yV X.env.scope x:=by first|exact Or.inl rfl|exact Or.inr (Or.inl rfl)|exact Or.inr (Or.inr rfl))(hd:(x==("__debug__":Str))=false:=by decide)
  (hcd:(x==("__classdict__":Str))=false:=by decide):PS X (.Return (some (.Name x p)) pos) (tS X.K E fun env=>(gw i env).bind fun nss=>.ok (.AF nss)):=
 oi (kR (jk hN hv hd hcd)) fun De σ H ⟨g,env,os,r,m⟩=>by
  obtain⟨nss,e,q⟩:=m.bind.deep
  obtain⟨A,dd⟩:=r.Hk
  obtain⟨a,as,hA,h1,h3⟩:=dd.dp i nss e
  exact⟨.ref a,h1,(show dW X.K g H os De (.AF nss)from q) a as H r.ext ⟨fun b hb=>(r.new b (h3.mem b hb).1).1,h3.nd,h3.len,h3.ha,fun k b ns e1 e2=>(h3.it k b ns e1 e2).2⟩⟩
end
section
variable{X:Cx}{E:Str->Hp->Prop}{pos:Pos}
theorem Rel.z6 {K:PySem.W.Frag}{g:Gh}{env:DE}{σ:St}{H:Hp}{os:List Addr}(r:Rel K g env σ H os){ix:Nat}{nss:List (List Int)}(e:env[ix]?=some (.deep nss)):∃(a:Addr)(as:List Addr),σ[ix]?=some (some (.ref a))/\H a=some (.lst (as.map V.ref))/\as.length=nss.length/\∀(k:Nat)(ns:List Int),nss[k]?=some ns->∃b,as[k]?=some b/\H b=some (.lst (ns.map V.int)):=by
 obtain⟨A,dd⟩:=r.Hk
 obtain⟨a,as,_,h1,h3⟩:=dd.dp ix nss e
 refine⟨a,as,h1,h3.ha,h3.len,fun k ns hk=>?_⟩
 have hl:k<as.length:=by rw[h3.len];exact(List.getElem?_eq_some_iff.mp hk).1
 exact⟨as[k],getElem?_eq_getElem hl,(h3.it k _ ns (getElem?_eq_getElem hl) hk).2⟩
def Br(nss:List (List Int)):D->R (Nat×List Int)
 |.int i=>(match qZ nss.length i with
  |some k=>(match nss[k]? with
   |some ns=>.ok (k,ns)
   |none=>.bad)
  |none=>.bad)
 |_=>.bad
theorem Good.Br {H₀:Hp}{nss:List (List Int)}{a:D}{p:Nat×List Int->Prop}(h:Good E H₀ (Br nss a) p):∃i k ns,a=.int i/\qZ nss.length i=some k/\nss[k]?=some ns/\p (k,ns):=by
 unfold DL.Br at h
 split at h
 ·rename_i i
  split at h
  ·rename_i k hk
   split at h
   ·rename_i ns hns
    exact⟨i,k,ns,rfl,hk,hns,h⟩
   ·exact h.elim
  ·exact h.elim
 ·exact h.elim
theorem RL{α:Type}{xs:List α}{i:Int}{k:Nat}{x:α}(h:qZ xs.length i=some k)(hx:xs[k]?=some x):iN xs i=some x:=by
 unfold L2.iN
 rw[h]
 exact hx
end
section
variable{K:PySem.W.Frag}{g:Gh}{env:DE}{σ:St}{H H1:Hp}{os:List Addr}
theorem Rel.V0 (r:Rel K g env σ H os)(s:aC H H1){i:Nat}{nss:List (List Int)}(e:env[i]?=some (.deep nss)){a b:Addr}{as:List Addr}{ns:List Int}(hσ:σ[i]?=some (some (.ref a)))(ha:H a=some (.lst (as.map V.ref)))(hn:H b=none)(hb:H1 b=some (.lst (ns.map V.int))):
  a∈os/\Rel K g (env.set i (.deep (nss++[ns]))) σ (upd H1 a (.lst (as.map V.ref++[.ref b]))) (b::os):=by
 obtain⟨A,dd⟩:=r.Hk
 obtain⟨a0,yo,hA,h1,h3⟩:=dd.dp i nss e
 rw[hσ]at h1
 cases h1
 have has:yo=as:=by
  have z:=h3.ha
  rw[ha]at z
  have z2:as.map V.ref=yo.map V.ref:=by injection z with z;injection z
  exact(kG z2).symm
 subst has
 have qL:a∈os:=h3.ma
 have hnew:b∉os:=fun hm=>by
  obtain⟨o,ho⟩:=(r.new b hm).2
  rw[hn]at ho
  cases ho
 have hab:b≠a:=fun z=>hnew (by rw[z];exact qL)
 refine⟨qL,?_⟩
 have ex:Ext (g.P os) (g.P (b::os)) H (upd H1 a (.lst (yo.map V.ref++[.ref b]))):=⟨fun c o p q=>⟨p.1,fun hm=>by
  rcases mem_cons.mp hm with z|z
  ·rw[z,hn]at q;cases q
  ·exact p.2 z⟩,fun c o p q=>by rw[ae (fun z=>p.2 (by rw[z];exact qL))];exact s c o q⟩
 have f:∀(j:Nat)(sl:Sl),(env.set i (Sl.deep (nss++[ns])))[j]?=some sl->sl≠.deep (nss++[ns])->i≠j/\env[j]?=some sl:=fun j sl q hn=>kF q hn
 have keep:∀c∈os,c≠a->∀o,H c=some o->(upd H1 a (.lst (yo.map V.ref++[.ref b]))) c=some o:=fun c _ hc o ho=>by rw[ae hc];exact s c o ho
 refine⟨by simp[r.len],fun c o q=>?_,fun j d q=>?_,fun j xs q=>?_,fun j k xs ys c q1 q2 q3 q4=>?_,fun c hc=>?_,fun j v q=>?_,?_⟩
 ·rw[ae (fun z=>by rw[z,(r.new a qL).1]at q;cases q)]
  exact s _ _ (r.ext c o q)
 ·obtain⟨hj,q⟩:=f j _ q (fun z=>nomatch z)
  obtain⟨v,h1,h2⟩:=r.val j d q
  exact⟨v,h1,Is.ext ex _ _ h2⟩
 ·obtain⟨hj,q⟩:=f j _ q (fun z=>nomatch z)
  obtain⟨c,vs,h1,h2,VZ,h4⟩:=r.own j xs q
  have hca:c≠a:=fun z=>dd.ow i nss j xs c e q h1 (by rw[z,hA];exact mem_cons_self)
  exact⟨c,vs,h1,mem_cons_of_mem _ h2,keep c h2 hca _ VZ,IsL.ext ex _ _ h4⟩
 ·obtain⟨hj,q1⟩:=f j _ q1 (fun z=>nomatch z)
  obtain⟨hk,q2⟩:=f k _ q2 (fun z=>nomatch z)
  exact r.inj j k xs ys c q1 q2 q3 q4
 ·rcases mem_cons.mp hc with z|z
  ·rw[z]
   exact⟨r.ext.free hn,_,by rw[ae hab];exact hb⟩
  ·obtain⟨z1,o,z2⟩:=r.new c z
   refine⟨z1,?_⟩
   by_cases w:c=a
   ·exact⟨_,by rw[w];exact ak⟩
   ·exact⟨o,keep c z w o z2⟩
 ·obtain⟨hj,q⟩:=f j _ q (fun z=>nomatch z)
  exact r.raw j v q
 ·have sub:∀(j':Nat)(y:Addr),(y∈if j'=i then a::(yo++[b])else A j')->y∈A j'\/(j'=i/\y=b):=fun j' y hy=>by
   by_cases hj:j'=i
   ·rw[if_pos hj]at hy
    rw[hj,hA]
    rcases mem_cons.mp hy with w|w
    ·rw[w];exact .inl mem_cons_self
    ·rcases mem_append.mp w with w|w
     ·exact .inl (mem_cons_of_mem _ w)
     ·exact .inr ⟨rfl,by simpa using w⟩
   ·rw[if_neg hj]at hy
    exact .inl hy
  have p1:∀(j:Nat)(ms:Ct),(env.set i (Sl.deep (nss++[ns])))[j]?=some (.deep ms)->∃RM,env[j]?=some (.deep RM):=fun j ms q=>by
   by_cases hj:i=j
   ·subst hj;exact⟨nss,e⟩
   ·rw[getElem?_set_ne hj]at q;exact⟨ms,q⟩
  refine⟨fun j=>if j=i then a::(yo++[b])else A j,fun j qp q=>?_,fun j qp m xs c q1 q2 q3 hx=>?_,fun j m qp RK TR q1 q2 x hx Ve=>?_⟩
  ·by_cases hj:j=i
   ·have q':=q
    rw[hj]at q'
    have z:=aZ q'
    cases z
    refine⟨a,yo++[b],if_pos hj,by rw[hj];exact hσ,mem_cons_of_mem _ h3.ma,by rw[map_append];exact ak,by rw[length_append,length_append,h3.len];rfl,?_,fun m c ms e1 e2=>?_⟩
    ·have aal:b∉yo:=fun z=>hnew (h3.mem b (mem_cons_of_mem _ z)).1
     have nd:=nodup_cons.mp h3.nd
     refine nodup_cons.mpr ⟨fun z=>?_,?_⟩
     ·rcases mem_append.mp z with w|w
      ·exact nd.1 w
      ·have:a=b:=by simpa using w
       exact hab this.symm
     ·rw[List.nodup_append]
      refine⟨nd.2,by simp,fun x hx y hy=>?_⟩
      have Zg:y=b:=by simpa using hy
      rw[Zg]
      exact fun z=>aal (by rw[<-z];exact hx)
    ·by_cases hm:m<yo.length
     ·rw[getElem?_append_left hm]at e1
      rw[getElem?_append_left (by rw[<-h3.len];exact hm)]at e2
      obtain⟨w1,w2⟩:=h3.it m c ms e1 e2
      have hca:c≠a:=fun z=>(nodup_cons.mp h3.nd).1 (by rw[<-z];exact mem_of_getElem? e1)
      exact⟨mem_cons_of_mem _ w1,keep c w1 hca _ w2⟩
     ·have hk2:m=yo.length:=by
       have:=(List.getElem?_eq_some_iff.mp e1).1
       rw[length_append]at this
       simp at this
       omega
      subst hk2
      have z1':b=c:=by simpa using e1
      rw[h3.len]at e2
      have z2':ns=ms:=by simpa using e2
      subst z1' z2'
      exact⟨mem_cons_self,by rw[ae hab];exact hb⟩
   ·rw[getElem?_set_ne (Ne.symm hj)]at q
    obtain⟨c,cs,z1,z2,z3⟩:=dd.dp j qp q
    refine⟨c,cs,by rw[if_neg hj];exact z1,z2,z3.to fun x hx=>?_⟩
    have hxa:x≠a:=fun z=>dd.dj i j nss qp (Ne.symm hj) e q a (by rw[hA];exact mem_cons_self) (by rw[z1,<-z];exact hx)
    obtain⟨w1,o,w2⟩:=z3.mem x hx
    exact⟨mem_cons_of_mem _ w1,by rw[keep x w1 hxa o w2,w2]⟩
  ·have X7:=(f m _ q2 (fun z=>nomatch z)).2
   obtain⟨RM,p⟩:=p1 j qp q1
   rcases sub j c hx with w|⟨_,w⟩
   ·exact dd.ow j RM m xs c p X7 q3 w
   ·obtain⟨c',vs,w1,w2,_⟩:=r.own m xs X7
    rw[q3]at w1
    cases w1
    exact hnew (by rw[<-w];exact w2)
  ·obtain⟨m1,w1⟩:=p1 j qp q1
   obtain⟨m2,w2⟩:=p1 m RK q2
   rcases sub j x hx with u|⟨u1,u⟩<;>rcases sub m x Ve with v|⟨v1,v⟩
   ·exact dd.dj j m m1 m2 TR w1 w2 x u v
   ·exact hnew (by rw[<-v];exact(dd.mem w1 x u).1)
   ·exact hnew (by rw[<-u];exact(dd.mem w2 x v).1)
   ·exact TR (by rw[u1,v1])
end
section
variable{X:Cx}{E:Str->Hp->Prop}{pos:Pos}
def C8(ix:Nat)(env:DE)(nss:List (List Int))(kn:Nat×List Int):D->R Out
 |.int v=> @ite _ (kn.2.length<sizeLine) (propDecidable _) (.ok (.nx (env.set ix (.deep (nss.set kn.1 (kn.2++[v])))))) .bad
 |_=>.bad
theorem Good.C8 {H₀:Hp}{ix:Nat}{env:DE}{nss:List (List Int)}{kn:Nat×List Int}{d:D}{p:Out->Prop}(h:Good E H₀ (C8 ix env nss kn d) p):∃v,d=.int v/\kn.2.length<sizeLine/\p (.nx (env.set ix (.deep (nss.set kn.1 (kn.2++[v]))))):=by
 unfold DL.C8 at h
 split at h
 ·split at h
  ·rename_i c
   exact⟨_,rfl,c,h⟩
  ·exact h.elim
 ·exact h.elim
theorem RN(ix:Nat){x:Str}{ei e:Expr}{fi f:DE->R D}{p V1 apos aL:Pos}(hi:PE X ei (tB X.K E fi))(he:PE X e (tB X.K E f))(hN:X.N[ix]?=some x:=by rfl)(hv:yV X.env.scope x:=by first|exact Or.inl rfl|exact Or.inr (Or.inl rfl)|exact Or.inr (Or.inr rfl))(hd:(x==("__debug__":Str))=false:=by decide)
  (hcd:(x==("__classdict__":Str))=false:=by decide)(hpi:rn ei:=by exact fun _ _=>rfl)
  (hbase:attributeBase (.Subscript (.Name x p) ei V1) "append" X.env (eval (.Subscript (.Name x p) ei V1) X.env)=eval (.Subscript (.Name x p) ei V1) X.env:=by rfl)
  (hfew:((backTo aL (starEach [e] X.env)).all (fun x=> !x.1)&&(backToKw aL (keywordEach [] X.env)).all (fun x=>x.1.isSome)
   &&decide ([e].length+([]:List Keyword).length+(if([]:List Keyword).isEmpty then 0 else 1)<30))=true:=by rfl)
  (hline:(apos.endLine==aL.line)=true:=by rfl)(hst:starEach [e] X.env=(false,eval e X.env)::starEach [] X.env:=by rfl)(hplain:(backTo aL (starEach [] X.env)).any (·.1)=false:=by rfl)
  (hs:swapsWith (.Call (.Attribute (.Subscript (.Name x p) ei V1) "append" apos) [e] [] aL) none pos.line X.env=pure false:=by rfl):
  PS X (.Expr (.Call (.Attribute (.Subscript (.Name x p) ei V1) "append" apos) [e] [] aL) pos) (tS X.K E fun env=>(gw ix env).bind fun nss=>(fi env).bind fun a=>(Br nss a).bind fun kn=>(f env).bind fun d=>C8 ix env nss kn d):=
 oi (fX (nG plainAttrs_list PySem.F.slot_list_append PySem.F.type_list_append dO (gP dE (jk hN hv hd hcd) hi hpi) (aq he aE hst) hbase hfew hline hst hplain) hs) fun De σ H ⟨g,env,os,r,m⟩=>by
  obtain⟨nss,e1,m2⟩:=m.bind.deep
  obtain⟨a,as,q1,q2,q3,q4⟩:=r.z6 e1
  refine⟨.ref a,q1,g,env,os,r,m2.bind.mono fun da _ m3 w H2 s2 i2=>?_⟩
  obtain⟨i,k,ns,rfl,hk,hns,m4⟩:=m3.bind.Br
  obtain⟨b,hb1,hb2⟩:=q4 k ns hns
  refine⟨a,as.map V.ref,i,.ref b,rfl,i2,cV.of (s2 _ _ q2),RL (by rw[length_map,q3];exact hk) (by rw[getElem?_map,hb1];rfl),.inl ⟨rfl,_,cV.of (s2 _ _ hb2)⟩,g,env,os,r.same s2,m4.bind.mono fun d _ m5 v H3 s3 i3=>?_⟩
  obtain⟨u,rfl,hl,m6⟩:=m5.C8
  have iu:v=.int u:=i3
  subst iu
  have r3:=r.same (s2.trans s3)
  have hb3:=s3 _ _ (s2 _ _ hb2)
  obtain⟨qL,r4⟩:=r3.aaf (ns:=ns) e1 q1 (s3 _ _ (s2 _ _ q2)) hb1 (List.getElem?_eq_some_iff.mp hns).1 (ns++[u])
  refine⟨b,ns.map V.int,.int u,rfl,rfl,hb3,by rw[length_map];exact hl,?_⟩
  rw[map_append]at r4
  exact(show dW X.K g H os De (.nx _)from m6) σ _ os r4 ((rB.same (s2.trans s3) os).trans (.mut qL))
def Jq(ix:Nat)(env:DE)(nss:List (List Int))(ns:List Int):R Out:= @ite _ (nss.length<sizeLine) (propDecidable _) (.ok (.nx (env.set ix (.deep (nss++[ns]))))) .bad
theorem Px(ix:Nat){x:Str}{e:Expr}{f:DE->R (List D)}{p apos aL:Pos}(he:PE X e (tF X.K E f))(hN:X.N[ix]?=some x:=by rfl)(hv:yV X.env.scope x:=by first|exact Or.inl rfl|exact Or.inr (Or.inl rfl)|exact Or.inr (Or.inr rfl))(hd:(x==("__debug__":Str))=false:=by decide)
  (hcd:(x==("__classdict__":Str))=false:=by decide)
  (hbase:attributeBase (.Name x p) "append" X.env (eval (.Name x p) X.env)=eval (.Name x p) X.env:=by rfl)
  (hfew:((backTo aL (starEach [e] X.env)).all (fun x=> !x.1)&&(backToKw aL (keywordEach [] X.env)).all (fun x=>x.1.isSome)
   &&decide ([e].length+([]:List Keyword).length+(if([]:List Keyword).isEmpty then 0 else 1)<30))=true:=by rfl)
  (hline:(apos.endLine==aL.line)=true:=by rfl)(hst:starEach [e] X.env=(false,eval e X.env)::starEach [] X.env:=by rfl)(hplain:(backTo aL (starEach [] X.env)).any (·.1)=false:=by rfl)
  (hs:swapsWith (.Call (.Attribute (.Name x p) "append" apos) [e] [] aL) none pos.line X.env=pure false:=by rfl):
  PS X (.Expr (.Call (.Attribute (.Name x p) "append" apos) [e] [] aL) pos) (tS X.K E fun env=>(gw ix env).bind fun nss=>(f env).bind fun xs=>(R.of (Hq xs)).bind fun ns=>Jq ix env nss ns):=
 oi (fX (nG plainAttrs_list PySem.F.slot_list_append PySem.F.type_list_append dO (jk hN hv hd hcd) (aq he aE hst) hbase hfew hline hst hplain) hs) fun De σ H ⟨g,env,os,r,m⟩=>by
  obtain⟨nss,e1,m2⟩:=m.bind.deep
  obtain⟨a,as,q1,q2,q3,q4⟩:=r.z6 e1
  refine⟨.ref a,q1,.inl ⟨rfl,_,cV.of q2⟩,g,env,os,r,m2.bind.mono fun xs _ m3 b vs H1 s1 hn hH i1=>?_⟩
  obtain⟨ns,e2,m4⟩:=m3.bind.of
  have e3:=C3 e2
  subst e3
  have e4:=iR i1
  subst e4
  unfold Jq at m4
  split at m4
  ·rename_i c
   obtain⟨hos,r2⟩:=r.V0 s1 e1 q1 q2 hn hH
   refine⟨a,as.map V.ref,.ref b,rfl,rfl,s1 _ _ q2,by rw[length_map,q3];exact c,?_⟩
   refine(show dW X.K g H os De (.nx _)from m4) σ _ (b::os) r2 ⟨fun y hy=>?_,fun y hy=>?_,fun y o hy ho=>?_⟩
   ·rcases mem_cons.mp hy with z|z
    ·rw[z];exact .inr hn
    ·exact .inl z
   ·by_cases z:y=a
    ·rw[z,ak]at hy;cases hy
    ·rw[ae z]at hy;exact s1.free hy
   ·rw[ae (fun z=>hy (by rw[z];exact hos))];exact s1 _ _ ho
  ·exact m4.elim
end
section
variable{X:Cx}{E:Str->Hp->Prop}{pos:Pos}{k:Nat}{fa:Addr}{fd:FuncData}{st:Stmt}{ps:List Str}{x:Str}{p:Pos}{e:Expr}{es:List Expr}{f:DE->R (List D)}
abbrev aan:=List (Str×(List D->R (List D)))
def FnR(X:Cx)(n:Str)(m:List D->R (List D)):Prop:=∃st ps fa fd k,Df X.K X.mg n st ps fa fd/\bH X.prog X.w X.K X.mg X.base kh k fa fd ps (Lf X.K Ho m)/\aY k X.A
def FnT(X:Cx)(tab:aan):Prop:=∀n m,tab.lookup n=some m->FnR X n m
end
section
variable{X:Cx}{k:Nat}{fa:Addr}{fd:FuncData}{st:Stmt}{ps:List Str}{x y:Str}{p pos aL pos':Pos}{e:Expr}{es:List Expr}{fr:DE->R (List D)}
theorem V2{c:Expr}{A B:List Stmt}{ft:DE->R Bool}{fA fB:DE->R Out}(hc:PT X.DU c (tT X.K EN ft))(hA:PB X A fA)(hB:PB X B fB):PB X [.If c A B pos] (fun env=>(ft env).ne.bind fun b=>if b=true then fA env else fB env):=by
 intro pins s σ H De g env os I r nb hok
 dsimp only at nb hok⊢
 cases q:ft env with
 |err c=>rw[q]at nb;exact(nb rfl).elim
 |bad=>rw[q]at nb;exact(nb rfl).elim
 |ok b=>
  rw[q]at nb hok
  simp only [R.ne,R.aM]at nb hok⊢
  have main:wpAny (model X.prog X.w) X.A (exec (.If c A B pos) X.env) (SP X pins De) (fun ev s'=>∃n H0 s0,(if b=true then fA env else fB env)=.err n/\Inv X pins σ H0 s0/\gJ X.prog X.w X.stack H0 s0 (fun c _ H'=>c=Ek X.K n/\aC H H') ev s') s:=by
   refine wpAny_If (wpAny_mono (hc pins s σ H (fun d H1=>d=b/\aC H H1) (I.vk _) ⟨g,env,os,r,kB q fun H1 s1=>⟨rfl,s1⟩⟩) (fun d s1 ⟨H1,I1,e,Mz⟩=>?_) fun _ _ z=>False.elim z)
   subst e
   have VP:Inv X pins σ H1 s1:=I1.kQ
   have fx:∀(f:DE->R Out)(body:List Stmt),PB X body f->f env≠.bad->(∀o,f env=.ok o->dW X.K g H os De o)->wpAny (model X.prog X.w) X.A (execs body X.env) (SP X pins De) (fun ev s'=>∃n H0 s0,f env=.err n/\Inv X pins σ H0 s0/\gJ X.prog X.w X.stack H0 s0 (fun c _ H'=>c=Ek X.K n/\aC H H') ev s') s1:=fun f body hb n1 n2=>by
    refine wpAny_mono (hb pins s1 σ H1 De g env os VP (r.same Mz) n1 fun o z=>dW.step (.same Mz os) (n2 o z)) (fun _ _ z=>z) fun ev s' z=>?_
    obtain⟨n,H0,s0,ef,I0,e,T,C,H',w1,x1,n1,n2,n3,n4,ho,bare,un,hok,hc,sm⟩:=z
    exact⟨n,H0,s0,ef,I0,e,T,C,H',w1,x1,n1,n2,n3,n4,ho,bare,un,hok,hc,Mz.trans sm⟩
   cases d with
   |true=>exact fx fA A hA nb hok
   |false=>exact fx fB B hB nb hok
  refine wpAny_execs_cons (wpAny_mono main (fun fl s1 z=>?_) fun _ _ z=>z)
  cases fl with
  |next=>exact wpAny_execs_nil z
  |ret v=>exact z
  |brk=>exact z
  |cont=>exact z
end
def Bs:D->R Int
 |.int i=>.ok i
 |_=>.bad
section
variable{X:Cx}{E:Str->Hp->Prop}{pos:Pos}
theorem Good.int {H₀:Hp}{d:D}{p:Int->Prop}(h:Good E H₀ (Bs d) p):∃i:Int,d=.int i/\p i:=by
 unfold Bs at h
 split at h
 ·rename_i i
  exact⟨i,rfl,h⟩
 ·exact h.elim
end
def aao:Out->R (List (List Int))
 |.D6 nss=>.ok nss
 |_=>.bad
def mP(n N:Nat)(b:DE->R Out)(ds:List D):R (List (List Int)):=if ds.length=n then((b (au N ds)).bind aao).ne else .bad
section
variable{X:Cx}{E:Str->Hp->Prop}{pos:Pos}
def dC(x y:D):Option D:=match x,y with
 |.str i,.str j=> @ite _ (i.length+j.length<=sizeLine) (propDecidable _) (some (.str (i++j))) none
 |_,_=>none
theorem bw:om X (fun x y H Q=>∃i j,x=.str i/\y=.str j/\i.length+j.length<=sizeLine/\Q (.str (i++j)) H) dC:=fun x y d e=>by
 unfold dC at e
 split at e
 ·rename_i i j
  split at e
  ·rename_i c
   cases e
   refine⟨_,rfl,fun H v w Q h1 h2 hq=>?_⟩
   have En:v=.str i:=h1
   have Oj:w=.str j:=h2
   subst En Oj
   exact⟨i,j,rfl,rfl,c,hq⟩
  ·cases e
 ·cases e
def lK(x:Str)(n:Int):Str:=if n<1 then Str.empty else if(n==1||x.length==0)=true then x else{cps:=foldl (fun x1 x2=>x1++x2) #[] (replicate n.toNat x.cps)}
theorem wW:tP X (binaryOp .Mult) (fun x y H Q=>∃i n,x=.str i/\y=.int n/\ -(2^62)<n/\n<2^20/\i.length<2^20/\i.length*n.toNat<=sizeLine/\Q (.str (lK i n)) H):=by
 intro pins s σ H x y v u Q I rx ry h
 obtain⟨i,n,rfl,rfl,h1,h2,h3,h4,q⟩:=h
 obtain⟨t,rfl⟩:=rx
 obtain⟨t',rfl⟩:=ry
 have e1:(decide (n< -2^63)||decide (n>=2^63))=false:=by
  rw[decide_eq_false (by omega),decide_eq_false (by omega)]
  rfl
 refine PySem.P.mul_str e1 (fun hn _ hc=>?_) (fun _ _=>?_) ?_
 ·have h5:n<=2^20:=by omega
  have h6:(2^63-1)/(2^20:Int)<=(2^63-1)/n:=by
   refine Int.le_ediv_of_mul_le (by omega) ?_
   have:(2^63-1)/(2^20:Int)=8796093022207:=by decide
   rw[this]
   have:=Int.mul_le_mul_of_nonneg_left h5 (show(0:Int)<=8796093022207 by decide)
   omega
  have h7:(2^63-1)/(2^20:Int)=8796093022207:=by decide
  omega
 ·unfold Builtin.Str.tooLong
  exact decide_eq_false (by omega)
 ·unfold lK at q
  have hl:∀m:Nat,(foldl (fun x1 x2=>x1++x2) (#[]:Array Nat) (replicate m i.cps)).size=m*i.cps.size:=fun m=>by
   have key:∀(m:Nat)(a:Array Nat),(foldl (fun x1 x2=>x1++x2) a (replicate m i.cps)).size=a.size+m*i.cps.size:=fun m=>by
    induction m with
    |zero=>intro a;simp
    |succ m ih=>
     intro a
     rw[replicate_succ,foldl_cons,ih,Array.size_append,succ_mul]
     omega
   rw[key]
   simp
  split
  ·rename_i c
   rw[if_pos c]at q
   exact⟨by decide,⟨.str Str.empty,H,I.tok _,⟨_,rfl⟩,q⟩⟩
  ·rename_i c
   rw[if_neg c]at q
   split
   ·rename_i c2
    rw[if_pos c2]at q
    exact⟨.str i,H,I,⟨_,rfl⟩,q⟩
   ·rename_i c2
    rw[if_neg c2]at q
    refine⟨?_,⟨.str _,H,I.tok _,⟨_,rfl⟩,q⟩⟩
    show(foldl (fun x1 x2=>x1++x2) (#[]:Array Nat) (replicate n.toNat i.cps)).size<=sizeLine
    rw[hl,Nat.mul_comm]
    exact h4
def Bt(x y:D):Option D:=match x,y with
 |.str i,.int n=> @ite _ (-(2^62)<n/\n<2^20/\i.length<2^20/\i.length*n.toNat<=sizeLine) (propDecidable _) (some (.str (lK i n))) none
 |_,_=>none
theorem Bu:om X (fun x y H Q=>∃i n,x=.str i/\y=.int n/\ -(2^62)<n/\n<2^20/\i.length<2^20/\i.length*n.toNat<=sizeLine/\Q (.str (lK i n)) H) Bt:=fun x y d e=>by
 unfold Bt at e
 split at e
 ·rename_i i n
  split at e
  ·rename_i c
   cases e
   refine⟨_,rfl,fun H v w Q h1 h2 hq=>?_⟩
   have En:v=.str i:=h1
   have Oj:w=.int n:=h2
   subst En Oj
   exact⟨i,n,rfl,rfl,c.1,c.2.1,c.2.2.1,c.2.2.2,hq⟩
  ·cases e
 ·cases e
def toS:List D->Option (List Str)
 |[]=>some []
 |.str x::r=>(toS r).map (x::·)
 |_::_=>none
theorem Jr:∀{xs:List D}{ys:List Str},toS xs=some ys->xs=ys.map D.str
 |[],ys,h=>by cases h;rfl
 |d::r,ys,h=>by
  cases d with
  |str x=>
   unfold toS at h
   cases e:toS r with
   |none=>rw[e]at h;cases h
   |some zs=>rw[e]at h;cases h;rw[Jr e];rfl
  |non=>cases h
  |bl _=>cases h
  |int _=>cases h
  |lst _=>cases h
  |tup _=>cases h
  |exc _=>cases h
  |fn _=>cases h
theorem RO(ys:List Str):toS (ys.map D.str)=some ys:=by
 induction ys with
 |nil=>rfl
 |cons y ys ih=>
  show(toS (ys.map D.str)).map (y::·)=_
  rw[ih]
  rfl
theorem Bv{K:PySem.W.Frag}{P:Addr->Prop}{H:Hp}:∀{ys:List Str}{vs:List V},IsL K P H (ys.map D.str) vs->vs=ys.map V.str
 |[],_,h=>h
 |y::ys,_,⟨v,r,e,p,q⟩=>by
  have p':v=.str y:=p
  rw[e,p',Bv q]
  rfl
theorem Bw:∀{ys:List Str}{us:List Value},Vals (ys.map V.str) us->StrsAre us ys
 |[],_,.nil=>.nil
 |y::ys,_,.cons r t=>by
  obtain⟨tk,rfl⟩:=r
  exact .cons y tk (Bw t)
def rJoin(K:PySem.W.Frag)(x:V)(xs:List V)(H:Hp)(Q:VK):Prop:=∃sep l ys,x=.str sep/\xs=[.ref l]/\cV K H l (map V.str ys)/\(map (fun y=>Str.length y) ys).sum+ys.length*sep.length<=16777216/\Q (.str (Txt.join sep ys)) H
theorem MF:Oc X "str.join" (rJoin X.K):=by
 intro pins s σ H x xs v us Q I rx MG h
 obtain⟨sep,l,ys,rfl,rfl,hq,hz,q⟩:=h
 obtain⟨t,rfl⟩:=rx
 obtain⟨u,rfl,ru⟩:=vals1 MG
 have e:u=.ref l:=ru
 subst e
 obtain⟨its,rv,pl,_⟩:=I.list hq
 exact join_list pl.isList (by simpa using Bw rv) hz fun t' k=>⟨.str _,H,I.tok _,⟨_,rfl⟩,q⟩
def cB:D->R Str
 |.str i=>.ok i
 |_=>.bad
theorem Good.str {H₀:Hp}{d:D}{p:Str->Prop}(h:Good E H₀ (cB d) p):∃i:Str,d=.str i/\p i:=by
 unfold cB at h
 split at h
 ·rename_i i
  exact⟨i,rfl,h⟩
 ·exact h.elim
def rO(sep:Str)(xs:List D):Option D:=(toS xs).bind fun ys=> @ite _ ((map (fun y=>Str.length y) ys).sum+ys.length*sep.length<=16777216) (propDecidable _) (some (.str (Txt.join sep ys))) none
theorem Eo{o e:Expr}{apos aL:Pos}{fo:DE->R D}{f:DE->R (List D)}(ho:PE X o (tB X.K E fo))(he:PE X e (tL X.K E f))
  (hbase:attributeBase o "join" X.env (eval o X.env)=eval o X.env:=by rfl)
  (hfew:((backTo aL (starEach [e] X.env)).all (fun x=> !x.1)&&(backToKw aL (keywordEach [] X.env)).all (fun x=>x.1.isSome)
   &&decide ([e].length+([]:List Keyword).length+(if([]:List Keyword).isEmpty then 0 else 1)<30))=true:=by rfl)
  (hline:(apos.endLine==aL.line)=true:=by rfl)(hs:starEach [e] X.env=(false,eval e X.env)::starEach [] X.env:=by rfl)(hplain:(backTo aL (starEach [] X.env)).any (·.1)=false:=by rfl):
  PE X (.Call (.Attribute o "join" apos) [e] [] aL) (tD X.K E fun env=>(fo env).bind fun s=>(cB s).bind fun sep=>(f env).bind fun xs=>R.of (rO sep xs)):=
 imp (nG plainAttrs_str PySem.F.slot_str_join PySem.F.type_str_join MF ho (aq he aE hs) hbase hfew hline hs hplain) fun σ H Q ⟨g,env,os,r,m⟩=>⟨g,env,os,r,m.bind.mono fun s _ m1 v H1 s1 i1=>by
  obtain⟨sep,rfl,m2⟩:=m1.bind.str
  have hv:v=.str sep:=i1
  subst hv
  refine⟨rfl,g,env,os,r.same s1,m2.bind.mono fun xs _ m3 a ws H2 s2 q2 i2=>?_⟩
  obtain⟨d,e1,m4⟩:=m3.of
  unfold rO at e1
  cases e2:toS xs with
  |none=>rw[e2]at e1;cases e1
  |some ys=>
   rw[e2]at e1
   have F9:(@ite _ ((map (fun y=>Str.length y) ys).sum+ys.length*sep.length<=16777216) (propDecidable _) (some (D.str (Txt.join sep ys))) none)=some d:=e1
   split at F9
   ·rename_i c
    cases F9
    have e3:=Jr e2
    subst e3
    have e4:=Bv i2
    subst e4
    exact⟨sep,a,ys,rfl,rfl,q2,c,m4 _ H2 (s1.trans s2) rfl⟩
   ·cases F9⟩
def RQ(x:V)(xs:List V)(H:Hp)(Q:VK):Prop:=∃i j,x=.str i/\xs=[.str j]/\i.length<=sizeLine/\Q (.str (Txt.stripChars i j)) H
theorem Js:Oc X "str.strip" RQ:=by
 intro pins s σ H x xs v us Q I rx MG h
 obtain⟨i,j,rfl,rfl,hz,q⟩:=h
 obtain⟨t,rfl⟩:=rx
 obtain⟨u,rfl,ru⟩:=vals1 MG
 obtain⟨t2,rfl⟩:=ru
 exact SCL.stripChars (fun t' k _=>⟨.str _,H,I.tok _,⟨_,rfl⟩,q⟩) hz
def z7(i:Str)(y:D):Option D:=match y with
 |.str j=> @ite _ (i.length<=sizeLine) (propDecidable _) (some (.str (Txt.stripChars i j))) none
 |_=>none
theorem RT{o e:Expr}{apos aL:Pos}{fo f:DE->R D}(ho:PE X o (tB X.K E fo))(he:PE X e (tB X.K E f))
  (hbase:attributeBase o "strip" X.env (eval o X.env)=eval o X.env:=by rfl)
  (hfew:((backTo aL (starEach [e] X.env)).all (fun x=> !x.1)&&(backToKw aL (keywordEach [] X.env)).all (fun x=>x.1.isSome)
   &&decide ([e].length+([]:List Keyword).length+(if([]:List Keyword).isEmpty then 0 else 1)<30))=true:=by rfl)
  (hline:(apos.endLine==aL.line)=true:=by rfl)(hs:starEach [e] X.env=(false,eval e X.env)::starEach [] X.env:=by rfl)(hplain:(backTo aL (starEach [] X.env)).any (·.1)=false:=by rfl):
  PE X (.Call (.Attribute o "strip" apos) [e] [] aL) (tD X.K E fun env=>(fo env).bind fun s=>(cB s).bind fun i=>(f env).bind fun y=>R.of (z7 i y)):=
 imp (nG plainAttrs_str PySem.F.slot_str_strip PySem.F.type_str_strip Js ho (aq he aE hs) hbase hfew hline hs hplain) fun σ H Q ⟨g,env,os,r,m⟩=>⟨g,env,os,r,m.bind.mono fun s _ m1 v H1 s1 i1=>by
  obtain⟨i,rfl,m2⟩:=m1.bind.str
  have hv:v=.str i:=i1
  subst hv
  refine⟨rfl,g,env,os,r.same s1,m2.bind.mono fun y _ m3 w H2 s2 i2=>?_⟩
  obtain⟨d,e1,m4⟩:=m3.of
  unfold z7 at e1
  split at e1
  ·rename_i j _
   split at e1
   ·rename_i c
    cases e1
    have hw:w=.str j:=i2
    subst hw
    exact⟨i,j,rfl,rfl,c,m4 _ H2 (s1.trans s2) rfl⟩
   ·cases e1
  ·cases e1⟩
theorem rP{K:PySem.W.Frag}{P:Addr->Prop}{H:Hp}:∀{as:List Addr}{nss:List (List Int)},as.length=nss.length->(∀b∈as,P b)->(∀(k:Nat)(b:Addr)(ns:List Int),as[k]?=some b->nss[k]?=some ns->H b=some (.lst (ns.map V.int)))->IsL K P H (nss.map fun ns=>D.lst (ns.map D.int)) (as.map V.ref)
 |[],[],_,_,_=>rfl
 |[],_::_,h,_,_=>by simp at h
 |_::_,[],h,_,_=>by simp at h
 |a::as,ns::nss,h,hp,hi=>⟨_,_,rfl,⟨a,_,rfl,.inl ⟨hp a (by simp),.inl (hi 0 a ns rfl rfl)⟩,bW ns⟩,rP (by simpa using h) (fun b hb=>hp b (by simp[hb])) fun k b ms e1 e2=>hi (k+1) b ms e1 e2⟩
theorem PE.aap {e:Expr}{f:DE->R (List (List Int))}(h:PE X e (tDp X.K E f)):PE X e (tL X.K E fun env=>(f env).bind fun nss=>.ok (nss.map fun ns=>D.lst (ns.map D.int))):=
 imp h fun σ H Q ⟨g,env,os,r,m⟩=>⟨g,env,os,r,m.bind.mono fun nss _ q a as H' s nd=>q a _ H' s (cV.of nd.ha) (rP nd.len (fun b hb=>r.fresh (nd.fr b (mem_cons_of_mem _ hb))) nd.it)⟩
end
section
variable{X:Cx}{E:Str->Hp->Prop}{pos:Pos}
def oR:List D->Option D
 |[.int i]=> @ite _ (i.natAbs.log2<1920) (propDecidable _) (some (.str (toString i:String))) none
 |_=>none
theorem jS:CY X (fun xs H Q=>∃i,xs=[V.int i]/\i.natAbs.log2<1920/\Q (V.str (toString i:String)) H) oR:=fun ds d e=>by
 unfold oR at e
 split at e
 ·rename_i i
  split at e
  ·rename_i c
   cases e
   refine⟨_,rfl,fun H vs Q h q=>?_⟩
   obtain⟨v,rfl,h1⟩:=IsL.vv h
   have h':v=.int i:=h1
   subst h'
   exact⟨i,rfl,c,q⟩
  ·cases e
 ·cases e
def MH(x:V)(xs:List V)(H:Hp)(Q:VK):Prop:=∃i j,x=.str i/\xs=[.str j]/\Q (.bl (Txt.startswith i j)) H
theorem GC:Oc X "str.startswith" MH:=by
 intro pins s σ H x xs v us Q I rx MG h
 obtain⟨i,j,rfl,rfl,q⟩:=h
 obtain⟨t,rfl⟩:=rx
 obtain⟨u,rfl,ru⟩:=vals1 MG
 obtain⟨t2,rfl⟩:=ru
 exact SC.startswith ⟨.bl _,H,I,rfl,q⟩
theorem Ep{o e:Expr}{apos aL:Pos}{fo f:DE->R D}(ho:PE X o (tB X.K E fo))(he:PE X e (tB X.K E f))
  (hbase:attributeBase o "startswith" X.env (eval o X.env)=eval o X.env:=by rfl)
  (hfew:((backTo aL (starEach [e] X.env)).all (fun x=> !x.1)&&(backToKw aL (keywordEach [] X.env)).all (fun x=>x.1.isSome)
   &&decide ([e].length+([]:List Keyword).length+(if([]:List Keyword).isEmpty then 0 else 1)<30))=true:=by rfl)
  (hline:(apos.endLine==aL.line)=true:=by rfl)(hs:starEach [e] X.env=(false,eval e X.env)::starEach [] X.env:=by rfl)(hplain:(backTo aL (starEach [] X.env)).any (·.1)=false:=by rfl):
  PE X (.Call (.Attribute o "startswith" apos) [e] [] aL) (tD X.K E fun env=>(fo env).bind fun s=>(cB s).bind fun i=>(f env).bind fun y=>(cB y).bind fun j=>.ok (.bl (Txt.startswith i j))):=
 imp (nG plainAttrs_str PySem.F.slot_str_startswith PySem.F.type_str_startswith GC ho (aq he aE hs) hbase hfew hline hs hplain) fun σ H Q ⟨g,env,os,r,m⟩=>⟨g,env,os,r,m.bind.mono fun s _ m1 v H1 s1 i1=>by
  obtain⟨i,rfl,m2⟩:=m1.bind.str
  have hv:v=.str i:=i1
  subst hv
  refine⟨rfl,g,env,os,r.same s1,m2.bind.mono fun y _ m3 w H2 s2 i2=>?_⟩
  obtain⟨j,rfl,m4⟩:=m3.bind.str
  have hw:w=.str j:=i2
  subst hw
  exact⟨i,j,rfl,rfl,m4 _ H2 (s1.trans s2) rfl⟩⟩
end
section
variable{X:Cx}{E:Str->Hp->Prop}{pos:Pos}
theorem RU:Y9 X (fun x lo hi H Q=>∃z:Str,x=.str z/\z.length<=sizeLine/\Q (.str (Txt.slice z lo hi)) H):=by
 intro pins s σ H x v vl vu lo hi sl Q I rx hs pl pu ⟨z,e,hz,q⟩
 subst e
 obtain⟨t,rfl⟩:=rx
 refine⟨"str",_,PySem.F.slot_str_getitem.lookup,typeIs_str _ _ _,?_⟩
 have key:∀(l u:Option (Int×Tok)),vl=partValue l->vu=partValue u->l.map (·.1)=lo->u.map (·.1)=hi->wpAny (model X.prog X.w) X.A (getItem (.str z t) (.ref sl)) (EP X pins σ Q) X.xe s:=by
  intro l u e1 e2 e3 e4
  subst e1 e2
  refine wpAny_getItem_str_slice (l:=l) (u:=u) (st:=none) hs rfl ?_
  subst e3 e4
  exact post_val_or_str ⟨le_trans (Txt.slice_le z _ _) hz,fun t' k=>⟨.str _,H,I.tok _,⟨_,rfl⟩,q⟩⟩
 cases pl with
 |none=>cases pu with
  |none=>exact key none none rfl rfl rfl rfl
  |int j u=>exact key none (some (j,u)) rfl rfl rfl rfl
 |int i t1=>cases pu with
  |none=>exact key (some (i,t1)) none rfl rfl rfl rfl
  |int j u=>exact key (some (i,t1)) (some (j,u)) rfl rfl rfl rfl
def MI(x:D)(lo hi:Option Int):Option D:=match x with
 |.str z=> @ite _ (z.length<=sizeLine) (propDecidable _) (some (.str (Txt.slice z lo hi))) none
 |_=>none
theorem aaq{e:Expr}{lo hi:Option Expr}{f:DE->R D}{fl fh:DE->R (Option Int)}{p2:Pos}(he:PE X e (tB X.K E f))(hl:L2.PO X lo (tO X.K E fl))(hh:L2.PO X hi (tO X.K E fh)):
  PE X (.Subscript e (.Slice lo hi none p2) pos) (tD X.K E fun env=>(f env).bind fun x=>(fl env).bind fun l=>(fh env).bind fun h=>R.of (MI x l h)):=
 imp (wz RU he hl hh) fun σ H Q ⟨g,env,os,r,m⟩=>⟨g,env,os,r,m.bind.mono fun x _ m1 v1 H1 s1 i1=>⟨g,env,os,r.same s1,m1.bind.mono fun l _ m2 H2 s2=>⟨g,env,os,r.same (s1.trans s2),m2.bind.mono fun h _ m3 H3 s3=>by
  obtain⟨d,e1,m4⟩:=m3.of
  unfold MI at e1
  split at e1
  ·rename_i z _
   split at e1
   ·rename_i c
    cases e1
    exact⟨z,i1,c,m4 _ H3 (s1.trans (s2.trans s3)) rfl⟩
   ·cases e1
  ·cases e1⟩⟩⟩
section
variable{prog:Program}{w:World}{A:Around}{Ex:Value->Shared->Prop}{s:Shared}{x y:Str}{t u:Tok}{Q:Value->Shared->Prop}
theorem Jt(hy:(y.length==0)=false)(hsz:x.length<=sizeLine)
  (h:∀ta tb tc k,Q (.ref s.heap.objs.size) {s with heap:=s.heap.push {cls:=.type "tuple",data:=.seq [.str (Txt.partition x y).1 ta,.str (Txt.partition x y).2.1 tb,.str (Txt.partition x y).2.2 tc].toArray},toks:=k}):
  wpAny (model prog w) A (call (.builtin "str.partition") [.str x t,.str y u]) Q Ex s:=by
 refine call_meets PySem.F.slot_str_partition (typeIs_str _ _ _) PySem.F.entry_str_partition (PySem.F.args_str_partition_2 _ _) (meets_str_partition x y t u hy hsz) ?_
 have h':=h
 unfold Txt.partition at h'
 revert h'
 cases Builtin.Str.occurrences x y 0 x.length 1 with
 |nil=>intro h';exact h' _ _ _ _
 |cons i r=>intro h';exact h' _ _ _ _
theorem GD(hy:(y.length==0)=false)(hsz:x.length+2<=sizeLine)
  (h:∀(l:List (Str×Tok)) k,l.map (·.1)=Txt.split x y->Q (.ref s.heap.objs.size) {s with heap:=s.heap.push {cls:=.type "list",data:=.seq (strValues l).toArray},toks:=k}):
  wpAny (model prog w) A (call (.builtin "str.split") [.str x t,.str y u]) Q Ex s:=by
 have hn:(Builtin.Str.partsBetween x (Builtin.Str.occurrences x y 0 x.length (x.length+1)) y.length).length<=sizeLine:=by
  rw[length_partsBetween]
  exact le_trans (Nat.add_le_add_right (StrLaws.occ_length_le x y 0 x.length (x.length+1)) 1) (by omega)
 cases h1:(decide (x.length<y.length)||decide (Builtin.Str.strKind x<Builtin.Str.strKind y))
 ·cases hf:(Builtin.Str.occurrences x y 0 x.length (x.length+1)).isEmpty
  ·refine call_meets slot_str_split (typeIs_str _ _ _) entry_str_split (args_str_split_2 _ _) (meets_str_split_sep x y t u h1 hy hf (by omega) hn) ?_
   show wants Q Ex _ {s with toks:=_,heap:=s.heap.push {cls:=.type "list",data:=.seq (strsFrom s.toks (Builtin.Str.partsBetween x (Builtin.Str.occurrences x y 0 x.length (x.length+1)) y.length)).toArray}}
   rw[strsFrom_eq]
   exact h (numbered s.toks _) _ ((numbered_texts _ _).trans ((if_neg (ne_true_of_eq_false h1)).trans (if_neg (ne_true_of_eq_false hf))).symm)
  ·exact call_meets slot_str_split (typeIs_str _ _ _) entry_str_split (args_str_split_2 _ _) (meets_str_split_not_found x y t u h1 hy hf)
    (h [(x,t)] s.toks ((if_neg (ne_true_of_eq_false h1)).trans (if_pos hf)).symm)
 ·exact call_meets slot_str_split (typeIs_str _ _ _) entry_str_split (args_str_split_2 _ _) (meets_str_split_cannot_occur x y t u h1)
   (h [(x,t)] s.toks (if_pos h1).symm)
end
theorem zd:∀(l:List (Str×Tok)),Vals ((l.map (·.1)).map V.str) (strValues l)
 |[]=>.nil
 |p::l=>.cons ⟨p.2,rfl⟩ (zd l)
def V3(x:V)(xs:List V)(H:Hp)(Q:VK):Prop:=∃i j:Str,x=.str i/\xs=[.str j]/\(j.length==0)=false/\i.length<=sizeLine/\∀p,H p=none->Q (.ref p) (upd H p (.tup [.str (Txt.partition i j).1,.str (Txt.partition i j).2.1,.str (Txt.partition i j).2.2]))
theorem MJ:Oc X "str.partition" V3:=by
 intro pins s σ H x xs v us Q I rx MG h
 obtain⟨i,j,rfl,rfl,h1,h2,q⟩:=h
 obtain⟨t,rfl⟩:=rx
 obtain⟨u,rfl,ru⟩:=vals1 MG
 obtain⟨t2,rfl⟩:=ru
 refine Jt h1 h2 fun ta tb tc k=>?_
 have hf:H s.heap.objs.size=none:=I.hok.fresh (le_refl _)
 exact⟨.ref s.heap.objs.size,_,I.laid (o:=.tup [.str (Txt.partition i j).1,.str (Txt.partition i j).2.1,.str (Txt.partition i j).2.2]) (t':=k) (fun b u e=>Heap.get?_push_of_some _ e) (le_refl _) ⟨by(show 3<=sizeLine);decide,_,.cons ⟨_,rfl⟩ (.cons ⟨_,rfl⟩ (.cons ⟨_,rfl⟩ .nil)),⟨_,Heap.get?_push_size _ rfl,rfl,_,rfl⟩⟩,rfl,q _ hf⟩
def RV(x:V)(xs:List V)(H:Hp)(Q:VK):Prop:=∃i j:Str,x=.str i/\xs=[.str j]/\(j.length==0)=false/\i.length+2<=sizeLine/\(Txt.split i j).length<=sizeLine/\∀p,H p=none->Q (.ref p) (upd H p (.lst ((Txt.split i j).map V.str)))
theorem Ju:Oc X "str.split" RV:=by
 intro pins s σ H x xs v us Q I rx MG h
 obtain⟨i,j,rfl,rfl,h1,h2,h3,q⟩:=h
 obtain⟨t,rfl⟩:=rx
 obtain⟨u,rfl,ru⟩:=vals1 MG
 obtain⟨t2,rfl⟩:=ru
 refine GD h1 h2 fun l k e=>?_
 have hf:H s.heap.objs.size=none:=I.hok.fresh (le_refl _)
 rw[<-e]at q h3
 exact⟨.ref s.heap.objs.size,_,I.laid (o:=.lst ((l.map (·.1)).map V.str)) (t':=k) (fun b u e=>Heap.get?_push_of_some _ e) (le_refl _) ⟨by simpa using h3,strValues l,0,zd l,Heap.get?_push_size _ rfl⟩,rfl,q _ hf⟩
def Er(i j:Str):Option D:= @ite _ ((j.length==0)=false/\i.length<=sizeLine) (propDecidable _) (some (.tup [.str (Txt.partition i j).1,.str (Txt.partition i j).2.1,.str (Txt.partition i j).2.2])) none
theorem V4{o e:Expr}{apos aL:Pos}{fo f:DE->R D}(ho:PE X o (tB X.K E fo))(he:PE X e (tB X.K E f))
  (hbase:attributeBase o "partition" X.env (eval o X.env)=eval o X.env:=by rfl)
  (hfew:((backTo aL (starEach [e] X.env)).all (fun x=> !x.1)&&(backToKw aL (keywordEach [] X.env)).all (fun x=>x.1.isSome)
   &&decide ([e].length+([]:List Keyword).length+(if([]:List Keyword).isEmpty then 0 else 1)<30))=true:=by rfl)
  (hline:(apos.endLine==aL.line)=true:=by rfl)(hs:starEach [e] X.env=(false,eval e X.env)::starEach [] X.env:=by rfl)(hplain:(backTo aL (starEach [] X.env)).any (·.1)=false:=by rfl):
  PE X (.Call (.Attribute o "partition" apos) [e] [] aL) (tD X.K E fun env=>(fo env).bind fun s=>(cB s).bind fun i=>(f env).bind fun y=>(cB y).bind fun j=>R.of (Er i j)):=
 imp (nG plainAttrs_str PySem.F.slot_str_partition PySem.F.type_str_partition MJ ho (aq he aE hs) hbase hfew hline hs hplain) fun σ H Q ⟨g,env,os,r,m⟩=>⟨g,env,os,r,m.bind.mono fun s _ m1 v H1 s1 i1=>by
  obtain⟨i,rfl,m2⟩:=m1.bind.str
  have hv:v=.str i:=i1
  subst hv
  refine⟨rfl,g,env,os,r.same s1,m2.bind.mono fun y _ m3 w H2 s2 i2=>?_⟩
  obtain⟨j,rfl,m4⟩:=m3.bind.str
  have hw:w=.str j:=i2
  subst hw
  obtain⟨d,e1,m5⟩:=m4.of
  unfold Er at e1
  split at e1
  ·rename_i c
   cases e1
   refine⟨i,j,rfl,rfl,c.1,c.2,fun p hp=>?_⟩
   have sm:=s1.trans s2
   exact m5 _ _ (sm.trans (aF hp _)) ⟨p,_,rfl,.inl ⟨(r.same sm).fresh hp,.inl ak⟩,⟨_,_,rfl,rfl,⟨_,_,rfl,rfl,⟨_,_,rfl,rfl,rfl⟩⟩⟩⟩
  ·cases e1⟩
def wX(i j:Str):Option (List D):= @ite _ ((j.length==0)=false/\i.length+2<=sizeLine/\(Txt.split i j).length<=sizeLine) (propDecidable _) (some ((Txt.split i j).map D.str)) none
theorem Es{K:PySem.W.Frag}{P:Addr->Prop}{H:Hp}:∀(ys:List Str),IsL K P H (ys.map D.str) (ys.map V.str)
 |[]=>rfl
 |y::ys=>⟨_,_,rfl,rfl,Es ys⟩
theorem RW{o e:Expr}{apos aL:Pos}{fo f:DE->R D}(ho:PE X o (tB X.K E fo))(he:PE X e (tB X.K E f))
  (hbase:attributeBase o "split" X.env (eval o X.env)=eval o X.env:=by rfl)
  (hfew:((backTo aL (starEach [e] X.env)).all (fun x=> !x.1)&&(backToKw aL (keywordEach [] X.env)).all (fun x=>x.1.isSome)
   &&decide ([e].length+([]:List Keyword).length+(if([]:List Keyword).isEmpty then 0 else 1)<30))=true:=by rfl)
  (hline:(apos.endLine==aL.line)=true:=by rfl)(hs:starEach [e] X.env=(false,eval e X.env)::starEach [] X.env:=by rfl)(hplain:(backTo aL (starEach [] X.env)).any (·.1)=false:=by rfl):
  PE X (.Call (.Attribute o "split" apos) [e] [] aL) (tF X.K E fun env=>(fo env).bind fun s=>(cB s).bind fun i=>(f env).bind fun y=>(cB y).bind fun j=>R.of (wX i j)):=
 imp (nG plainAttrs_str slot_str_split PySem.F.type_str_split Ju ho (aq he aE hs) hbase hfew hline hs hplain) fun σ H Q ⟨g,env,os,r,m⟩=>⟨g,env,os,r,m.bind.mono fun s _ m1 v H1 s1 i1=>by
  obtain⟨i,rfl,m2⟩:=m1.bind.str
  have hv:v=.str i:=i1
  subst hv
  refine⟨rfl,g,env,os,r.same s1,m2.bind.mono fun y _ m3 w H2 s2 i2=>?_⟩
  obtain⟨j,rfl,m4⟩:=m3.bind.str
  have hw:w=.str j:=i2
  subst hw
  obtain⟨d,e1,m5⟩:=m4.of
  unfold wX at e1
  split at e1
  ·rename_i c
   cases e1
   refine⟨i,j,rfl,rfl,c.1,c.2.1,c.2.2,fun p hp=>?_⟩
   obtain⟨b1,b2,b3,b4⟩:=Gk r (s1.trans s2) hp (Es (Txt.split i j))
   exact m5 p _ _ b1 b2 b3 b4
  ·cases e1⟩
theorem oU{α β:Type}{f:α->β}(k:Str):∀(T:List (Str×α)),KTD.datumAt k (T.map fun p=>(p.1,f p.2))=(KTD.datumAt k T).map f
 |[]=>rfl
 |(x,a)::T=>by
  show(if decide (k=x)=true then some (f a)else KTD.datumAt k (T.map fun p=>(p.1,f p.2)))=(if decide (k=x)=true then some a else KTD.datumAt k T).map f
  rw[oU k T]
  split<;>rfl
def C9(T:List (Str×Int)):List (Str×PyData):=T.map fun p=>(p.1,PyData.int p.2)
def uW(K:PySem.W.Frag)(a:Addr)(T:List (Str×Int)):Prop:=KTD.tabLook KTD.flatLooks (fun b=>K.lookup b) a (C9 T)=true
theorem uW.here {pins:List (Addr×Obj)}{σ:St}{H:Hp}{s:Shared}{a:Addr}{T:List (Str×Int)}(h:uW X.K a T)(I:Inv X pins σ H s):KTD.Here X.base s.heap a ((C9 T).map fun p=>(p.1,KTD.Dat.flat p.2)):=
 ⟨(KTD.tab_of_look (R:=fun d v=>PyProof.V.Flat v d) (fun d v=>KTD.flat_of_looks) I.mod.N8 h).text,I.bk⟩
theorem wY(T:List (Str×Int))(k:Str):KTD.datumAt k ((C9 T).map fun p=>(p.1,KTD.Dat.flat p.2))=(KTD.datumAt k T).map fun i=>KTD.Dat.flat (.int i):=by
 rw[oU,C9,oU]
 cases KTD.datumAt k T<;>rfl
theorem Jv(T:List (Str×Int))(k:Str):KTD.inKeys k ((C9 T).map fun p=>(p.1,KTD.Dat.flat p.2))=(KTD.datumAt k T).isSome:=by
 rw[<-KTD.isSome_datumAt,wY]
 cases KTD.datumAt k T<;>rfl
theorem MK{x:Str}{a:Addr}{T:List (Str×Int)}{e ed:Expr}{p apos aL:Pos}{f fd:DE->R D}(hx:X.mg x=some (.ref a))(hT:uW X.K a T)(he:PE X e (tB X.K E f))(hed:PE X ed (tB X.K E fd))(hg:Gl X x:=by rfl)(hdb:(x==("__debug__":Str))=false:=by decide)
  (hbase:attributeBase (.Name x p) "get" X.env (eval (.Name x p) X.env)=eval (.Name x p) X.env:=by rfl)
  (hfew:((backTo aL (starEach [e,ed] X.env)).all (fun x=> !x.1)&&(backToKw aL (keywordEach [] X.env)).all (fun x=>x.1.isSome)
   &&decide ([e,ed].length+([]:List Keyword).length+(if([]:List Keyword).isEmpty then 0 else 1)<30))=true:=by rfl)
  (hline:(apos.endLine==aL.line)=true:=by rfl)(hs:starEach [e,ed] X.env=(false,eval e X.env)::starEach [ed] X.env:=by rfl)(hs2:starEach [ed] X.env=(false,eval ed X.env)::starEach [] X.env:=by rfl)(hplain:(backTo aL (starEach [ed] X.env)).any (·.1)=false:=by rfl):
  PE X (.Call (.Attribute (.Name x p) "get" apos) [e,ed] [] aL) (tD X.K E fun env=>(f env).bind fun d=>(cB d).bind fun k=>(fd env).bind fun d2=>(Bs d2).bind fun i=>.ok (.int ((KTD.datumAt k T).getD i))):=by
 intro pins s σ H Q I ⟨g,env,os,r,m⟩
 refine wpAny_Call_method_late hbase hfew hline rfl (bG (pT (v:=.ref a) hg hx rfl hdb pins s σ H (fun v H1=>v=.ref a/\H1=H) I ⟨rfl,rfl⟩) fun v s1 ⟨y,H1,I1,r1,e1,e2⟩=>?_)
 subst e1 e2
 cases r1
 have T1:=hT.here I1
 refine⟨"dict","dict.get",PySem.F.plainAttrs_dict,slot_dict_get,type_dict_get,T1.typeIs,T1.noDict,?_⟩
 have hA:=(aq he (aq hed aE hs2) hs:PA X [e,ed] _) aL pins s1 σ H1 (fun vs H3=>∃k i,vs=[.str k,.int i]/\Q (.int ((KTD.datumAt k T).getD i)) H3) I1 ⟨g,env,os,r,m.bind.mono fun d _ m1 v2 H2 s2 i2=>by
  obtain⟨k,rfl,m2⟩:=m1.bind.str
  have hv:v2=.str k:=i2
  subst hv
  refine⟨g,env,os,r.same s2,m2.bind.mono fun d2 _ m3 w H3 s3 i3=>?_⟩
  obtain⟨i,rfl,m4⟩:=m3.bind.int
  have hw:w=.int i:=i3
  subst hw
  exact⟨k,i,rfl,m4 _ H3 (s2.trans s3) rfl⟩⟩
 ·rw[hs]at hA⊢
  refine Calls.callWith_builtin (by show(false||(backTo aL (starEach [ed] X.env)).any (·.1))=false;rw[hplain]<;>rfl) (Calls.evalArgs_plain ?_)
  refine bG hA fun us s2 ⟨vs,H2,I2,r2,k,i,e3,q2⟩=>?_
  subst e3
  cases r2 with
  |cons ra rb=>
   cases rb with
   |cons rc rd=>
    cases rd
    obtain⟨t1,rfl⟩:=ra
    obtain⟨t2,rfl⟩:=rc
    have T2:=hT.here I2
    refine call_meetsIn slot_dict_get T2.typeIs entry_dict_get (PySem.F.args_dict_get_3 _ _ _) (KTD.meets_get2 (h₀:=X.base)) ⟨T2,fun d v ha hv=>?_,fun hn=>?_⟩
    ·rw[wY]at ha
     cases hd:KTD.datumAt k T with
     |none=>rw[hd]at ha;cases ha
     |some j=>
      rw[hd]at ha q2
      cases ha
      have UA:PyProof.V.Flat v (.int j):=hv
      obtain⟨t3,rfl⟩:=PyProof.V.Flat.int_inv UA
      exact⟨.int j,H2,I2.tok _,⟨_,rfl⟩,q2⟩
    ·rw[wY]at hn
     cases hd:KTD.datumAt k T with
     |some j=>rw[hd]at hn;cases hn
     |none=>
      rw[hd]at q2
      exact⟨.int i,H2,I2.tok _,⟨_,rfl⟩,q2⟩
theorem RX{prog:Program}{w:World}{A:Around}{Ex:Value->Shared->Prop}{s:Shared}{h₀:Heap}{a:Addr}{k:Str}{tk:Tok}{T:List (Str×Int)}{i:Int}{value slice:Expr}{Q:Value->Shared->Prop}(T1:KTD.Here h₀ s.heap a ((C9 T).map fun p=>(p.1,KTD.Dat.flat p.2)))(hk:KTD.datumAt k T=some i)(h:∀t,Q (.int i t) {s with toks:=s.toks+1})
  (hs:subscripted slice false (.ref a) (.str k tk)=operate [.ref a,.str k tk] (getItem (.ref a) (.str k tk))):
  wpAny (model prog w) A (subscriptTail value slice (.ref a) (.str k tk)) Q Ex s:=by
 refine subscriptTail_builtin_flat T1.typeIs slot_dict_getitem.lookup ?_ hs
 unfold getItem
 (try with_reducible refine wpAny_holding ?_)<;>refine wpAny_bind (wpAny_sequenceKey T1.typeIs (by decide) ?_)
 refine wpAny_bind (wpAny_callSpecial?_slot (name:=Str.ofString "__getitem__") T1.typeIs slot_dict_getitem
  (wpAny_call_entry slot_dict_getitem T1.typeIs entry_dict_getitem ?_ (args_dict_getitem _ _)))
 refine wpAny_bind (m:=dictGet a (.str k tk)) (KTD.dictGet_text T1 (fun d v ha hv=>?_) fun hn=>?_)
 ·rw[wY,hk]at ha
  cases ha
  have UA:PyProof.V.Flat v (.int i):=hv
  obtain⟨t3,rfl⟩:=PyProof.V.Flat.int_inv UA
  exact wpAny_pure ⟨_,rfl,wpAny_pure ⟨fun b e=>(nomatch e),h t3⟩⟩
 ·rw[wY,hk]at hn
  cases hn
theorem GF{a:Addr}{T:List (Str×Int)}(hT:uW X.K a T):tP X (compareOp .NotIn) (fun x y H Q=>∃k:Str,x=.str k/\y=.ref a/\Q (.bl (!(KTD.datumAt k T).isSome)) H):=by
 intro pins s σ H x y v u Q I rx ry h
 obtain⟨k,rfl,rfl,q⟩:=h
 obtain⟨t,rfl⟩:=rx
 cases ry
 refine KTD.notin_text (hT.here I) ⟨.bl _,H,I.tok _,rfl,?_⟩
 rw[Jv]
 exact q
theorem ML{x:Str}{a:Addr}{T:List (Str×Int)}{e:Expr}{p:Pos}{f:DE->R D}(hx:X.mg x=some (.ref a))(hT:uW X.K a T)(he:PE X e (tB X.K E f))(hg:Gl X x:=by rfl)(hdb:(x==("__debug__":Str))=false:=by decide)(hm:behindInMarks .NotIn (.Name x p)=false:=by rfl):
  PT X (.Compare e [.NotIn] [.Name x p] pos) (tT X.K E fun env=>(f env).bind fun d=>(cB d).bind fun k=>.ok (!(KTD.datumAt k T).isSome)):=
 L8 (iK (GF hT) he (pT (v:=.ref a) hg hx rfl hdb) hm) fun σ H Q ⟨g,env,os,r,m⟩=>⟨g,env,os,r,m.bind.mono fun d _ m1 v H1 s1 i1=>by
  obtain⟨k,rfl,m2⟩:=m1.bind.str
  have hv:v=.str k:=i1
  subst hv
  exact⟨k,rfl,rfl,_,rfl,m2 H1 s1⟩⟩
theorem RY{a:Addr}{T:List (Str×Int)}(hT:uW X.K a T):Ld X (fun x y H Q=>∃(k:Str)(i:Int),x=.ref a/\y=.str k/\KTD.datumAt k T=some i/\Q (.int i) H):=by
 intro value slice pins s σ H x y v u Q I rx ry h hs
 obtain⟨k,i,rfl,rfl,hk,q⟩:=h
 cases rx
 obtain⟨t,rfl⟩:=ry
 have T1:=hT.here I
 exact RX T1 hk (fun t=>⟨.int i,H,I.tok _,⟨_,rfl⟩,q⟩) hs
def Et(T:List (Str×Int))(k:Str):R D:=match KTD.datumAt k T with
 |some i=>.ok (.int i)
 |none=>.bad
theorem RZ{x:Str}{a:Addr}{T:List (Str×Int)}{e:Expr}{p:Pos}{f:DE->R D}(hx:X.mg x=some (.ref a))(hT:uW X.K a T)(he:PE X e (tB X.K E f))(hg:Gl X x:=by rfl)(hdb:(x==("__debug__":Str))=false:=by decide)(hs:rn e:=by exact fun _ _=>rfl):
  PE X (.Subscript (.Name x p) e pos) (tD X.K E fun env=>(f env).bind fun d=>(cB d).bind fun k=>Et T k):=
 imp (gP (RY hT) (pT (v:=.ref a) hg hx rfl hdb) he hs) fun σ H Q ⟨g,env,os,r,m⟩=>⟨g,env,os,r,m.bind.mono fun d _ m1 v H1 s1 i1=>by
  obtain⟨k,rfl,m2⟩:=m1.bind.str
  have hv:v=.str k:=i1
  subst hv
  unfold Et at m2
  split at m2
  ·rename_i i hk
   exact⟨k,i,rfl,rfl,hk,m2 _ H1 s1 rfl⟩
  ·exact m2.elim⟩
end
section
variable{X:Cx}{E:Str->Hp->Prop}{pos:Pos}
def aex:D->R Unit
 |.int 1=>.ok ()
 |_=>.bad
end
section
variable{X:Cx}{E:Str->Hp->Prop}{pos:Pos}
def aey:D->R Unit
 |.int 2=>.ok ()
 |_=>.bad
end
section
variable{M:Model}{A:Around}{E:Value->Shared->Prop}{s:Shared}{base:Heap}{env:Env}{outer:List Env}{L e T C:Addr}{Q:Unit->Shared->Prop}
theorem Jw{fl:Value}(fr:Option Addr)(x:Exc s.heap e T C fl)(hQ:∀h',Exc h' e T C (fr.elim .none fun f=>rawInt f)->vU [] [T] s.heap h'->Q () {s with heap:=h'}):wpAny M A (setFlight (.ref e) fr) Q E s:=by
 obtain⟨⟨vs,x1,x2⟩,x3,oT,ts,x4,x5,x6⟩:=x
 have y3:3<ts.size:=(Array.getElem?_eq_some_iff.mp x6).1
 unfold setFlight
 refine wpAny_bind (wpAny_field x1 rfl x2 ?_)
 rw[if_pos (show(Value.ref T !=Value.none)=true from rfl)]
 refine wpAny_setField x4 x5 y3 (hQ _ ?_ (.of_eq fun b o q hn=>?_))
 ·refine⟨⟨vs,?_,x2⟩,x3,_,_,Heap.get?_update_self _ x4 (Obj.isFreed_of_fields (Obj.data_mapFields x5 _)),Obj.data_mapFields x5 _,by simp[y3]⟩
  rw[Heap.get?_update_other _ _ x3]
  exact x1
 ·rw[Heap.get?_update_other _ _ (fun z=>hn (by simp[z]))]
  exact q
theorem GG{fl:Value}(hfl:fl≠rawInt L)(hfr:A.frames=some (env::outer))(hl:s.heap.FunFrames base (env::outer))(hf:env.frame=some L)(x:Exc s.heap e T C fl)
  (hQ:∀h' T',s.heap.get? T'=none->Exc h' e T' C (rawInt L)->vU ((env::outer).filterMap (·.frame)) [e,T] s.heap h'->Q () {s with heap:=h'}):wpAny M A (noteFrame (.ref e) env) Q E s:=by
 obtain⟨⟨vs,x1,x2⟩,x3,oT,ts,x4,x5,x6⟩:=x
 unfold noteFrame
 simp only [hf]
 refine wpAny_bind (wpAny_field x1 rfl x2 ?_)
 rw[if_pos (show(Value.ref T !=Value.none)=true from rfl)]
 refine wpAny_bind (wpAny_field x4 x5 x6 ?_)
 rw[if_neg (show¬((fl==rawInt L)=true)from fun z=>hfl (beq_iff_eq.mp z))]
 refine wpAny_bind (wpAny_setField x4 x5 (Array.getElem?_eq_some_iff.mp x6).1 ?_)
 have oth:∀b,b≠T->(s.heap.update T (Obj.mapFields (·.setIfInBounds 3 Value.none))).get? b=s.heap.get? b:=fun b z=>Heap.get?_update_other _ _ (Ne.symm z)
 have hl2:(s.heap.update T (Obj.mapFields (·.setIfInBounds 3 Value.none))).FunFrames base (env::outer):=hl.of_keeps fun b o q nf=>⟨o,(oth b fun z=>by rw[z,x4]at q;cases q;exact nf ts x5).trans q,rfl⟩
 refine ug (s:={s with heap:=s.heap.update T (Obj.mapFields (·.setIfInBounds 3 Value.none))}) hfr hl2 hf ((oth e (Ne.symm x3)).trans x1) (Array.getElem?_eq_some_iff.mp x2).1 fun h' T' n1 n2 n3=>hQ h' T' ?_ n2 ?_
 ·by_cases z:T'=T
  ·have VJ:(s.heap.update T (Obj.mapFields (·.setIfInBounds 3 Value.none))).get? T'=none:=n1
   rw[z,Heap.get?_update_self _ x4 (Obj.isFreed_of_fields (Obj.data_mapFields x5 _))]at VJ
   cases VJ
  ·exact(oth T' z).symm.trans n1
 ·refine vU.trans (xs:=[T]) (ys:=[e]) (.of_eq fun b o q hn=>(oth b fun z=>hn (by simp[z])).trans q) n3 ?_ ?_
  ·intro c hc;simp at hc;simp[hc]
  ·intro c hc;simp at hc;simp[hc]
end
theorem qu{h h' base:Heap}:∀{l:List Env},h.FunFrames base l->(∀b∈l.filterMap (·.frame),∀o,h.get? b=some o->∃sl,h'.get? b=some {o with slots:=sl})->h'.FunFrames base l
 |[],_,_=>trivial
 |env::rest,⟨hk,⟨L,o,hf,hn,ho,hd⟩,hr⟩,k=>by
  obtain⟨sl,q⟩:=k L (by rw[filterMap_cons,hf];exact mem_cons_self) o ho
  exact⟨hk,⟨L,_,hf,hn,q,hd⟩,qu hr fun b hb=>k b (by rw[filterMap_cons,hf];exact mem_cons_of_mem _ hb)⟩
def Jy(X:Cx)(E1:Str->Hp->Prop):Prop:=∀(n:Str)(pins:List (Addr×Obj))(σ:St)(H1 H6:Hp)(s1 s6:Shared)(e T C Cc:Addr)(mC:Str->Option Value)(use:Option (Value->Sem Unit))(Qv:Value->Shared->Prop)(acc:Value)(E':Value->Shared->Prop),
 Inv X pins σ H1 s1->Inv X pins σ H6 s6->s1.heap.get? e=none->s1.heap.get? T=none->Exc s6.heap e T C .none->H6 e=none->H6 T=none->Value.ref C=Ek X.K n->E1 n H6->(∃o,s1.heap.get? Cc=some o)->kg X pins H6 Cc->s6.heap.Ns Cc mC->
  wpAny (model X.prog X.w) X.A (noteFrame (.ref e) X.env) (fun _ UG=>compPost (model X.prog X.w) X.A X.xe use Qv acc Cc (.error (.ref e)) UG) E' s6
section
variable{P:Program}{w:World}{K:PySem.W.Frag}{mg:Str->Option Value}{base:Heap}{N:List Str}{qual:Str}{scope:Scope}{f:Addr}{cd:Value}{A:Around}{outer:List Env}{s:Shared}{H:Hp}{E:XK}
theorem V5{pins:List (Addr×Obj)}{σ:St}{H2:Hp}{s2:Shared}{e C:Addr}(I2:Inv (bA (gJ P w) P w K mg base N qual scope f cd A outer s H E) pins σ H2 s2)
  (n1:s.heap.get? e=none)(Z3:H2 e=none)(hE:E (.ref C) none H2)
  {h':Heap}{T':Addr}(xs:List Addr)(hxs:∀b∈xs,s.heap.get? b=none)(TQ:∀b∈xs,H2 b=none)(k:vU ((envOfC qual scope s.heap.objs.size f cd::outer).filterMap (·.frame)) xs s2.heap h')(hT:s.heap.get? T'=none)(Z4:H2 T'=none)(hx:Exc h' e T' C .none):
  gJ P w outer H s E (.ref e) {s2 with heap:=h'}:=by
 have fr:∀b∈(envOfC qual scope s.heap.objs.size f cd::outer).filterMap (·.frame),b∈wk outer\/s.heap.get? b=none:=fun b hb=>by
  rcases mem_cons.mp (I2.qI b hb)with z|z
  ·refine .inr ?_
   have hn:(s.heap.get? b)=none:=by
    rw[z]
    exact Heap.get?_none_of_le (le_refl _)
   exact hn
  ·exact .inl z
 exact⟨e,T',C,H2,rfl,hx,n1,hT,Z3,Z4,I2.os,I2.bare,uh I2.base k hxs fr,pZ I2.hok k TQ (fun b hb=>I2.pS b hb),hE⟩
theorem Jz{h h':Heap}{e T C:Addr}{fl:Value}(x:Exc h e T C fl)(k:∀b o,(b=e\/b=T)->h.get? b=some o->h'.get? b=some o):Exc h' e T C fl:=by
 obtain⟨⟨vs,x1,x2⟩,x3,oT,ts,x4,x5,x6⟩:=x
 exact⟨⟨vs,k e _ (.inl rfl) x1,x2⟩,x3,oT,ts,k T _ (.inr rfl) x4,x5,x6⟩
theorem V6:Jy (bA (gJ P w) P w K mg base N qual scope f cd A outer s H E) (EW K E):=by
 intro n pins σ H1 H6 s1 s6 e T C Cc mC use Qv acc E' I1 I6 n1 n2 x he hT hc hE hCs fC hn
 have nn:∀b,s1.heap.get? b=none->s.heap.get? b=none:=fun b q=>gu I1.base q
 have hE':E (.ref C) none H6:=by rw[hc];exact hE
 obtain⟨oC,hoC⟩:=hCs
 have hCe:Cc≠e:=fun z=>by rw[z,n1]at hoC;cases hoC
 have hCT:Cc≠T:=fun z=>by rw[z,n2]at hoC;cases hoC
 have hCn:s.heap.get? Cc=none:=by
  rcases fC.2.2.2.1 with z|z
  ·cases z
  ·exact Heap.get?_none_of_le z
 have hCf:Cc∉(envOfC qual scope s.heap.objs.size f cd::outer).filterMap (·.frame):=fun hb=>by
  rcases mem_cons.mp (I6.qI Cc hb)with z|z
  ·exact fC.2.1 z
  ·exact fC.2.2.1 z
 refine rL (L:=s.heap.objs.size) I6.ok.frames I6.stack rfl x fun h' T' t1 t2 t3=>?_
 have hTn:s1.heap.get? T'=none\/True:=.inr trivial
 have T'n:s.heap.get? T'=none:=gu I6.base t1
 have T'f:H6 T'=none:=cK I6.hok t1
 obtain⟨ob,es,ep,ho,r⟩:=hn
 have aat:Cc≠T':=fun z=>by rw[<-z,ho]at t1;cases t1
 have hCk:h'.get? Cc=some ob:=(t3 Cc ob ho (by simp[hCe,hCT])).1 hCf
 refine⟨mC,⟨ob,es,ep,hCk,r⟩,fun Mh sb cenv hcl=>?_⟩
 have Zv:Exc Mh e T' C (rawInt s.heap.objs.size):=Jz t2 fun b o hb q=>by
  have hbC:b≠Cc:=by
   rcases hb with rfl|rfl
   ·exact Ne.symm hCe
   ·exact Ne.symm aat
  exact(sb.2 b hbC).trans q
 have k12:vU ((envOfC qual scope s.heap.objs.size f cd::outer).filterMap (·.frame)) [e,T,Cc] s6.heap Mh:=t3.trans (ys:=[Cc]) (.of_eq fun b o q hn=>(sb.2 b fun z=>hn (by simp[z])).trans q) (fun c hc=>by simp at hc;rcases hc with rfl|rfl<;>simp) (fun c hc=>by simp at hc;simp[hc])
 unfold PySem.passOn
 obtain⟨⟨vs,y1,y2⟩,y3,y4⟩:=Zv
 refine wpAny_bind (wpAny_field (s:={s6 with heap:=Mh}) y1 rfl y2 ?_)
 rw[if_neg (show¬((Value.ref T'==Value.none)=true)from fun z=>by cases (beq_iff_eq.mp z))]
 refine wpAny_bind (Jw (s:={s6 with heap:=Mh}) cenv.frame ⟨⟨vs,y1,y2⟩,y3,y4⟩ fun h3 u1 u2=>wpAny_throw ?_)
 have JA:vU ((envOfC qual scope s.heap.objs.size f cd::outer).filterMap (·.frame)) [e,T,Cc,T'] s6.heap h3:=k12.trans (ys:=[T']) (fun b o q hn=>⟨fun _=>(u2 b o q hn).1 (by simp),(u2 b o q hn).2⟩) (fun c hc=>by simp at hc;rcases hc with rfl|rfl|rfl<;>simp) (fun c hc=>by simp at hc;simp[hc])
 show wpAny _ _ (leaving _ (.ref e)) _ _ {s6 with heap:=h3}
 unfold leaving
 by_cases hfl:(cenv.frame.elim Value.none fun f=>rawInt f)=rawInt s.heap.objs.size
 ·rw[hfl]at u1
  refine wpAny_bind (Gy (s:={s6 with heap:=h3}) (L:=s.heap.objs.size) rfl u1 (kE (s:={s6 with heap:=h3}) u1 fun h4 v1 v2=>?_))
  refine V5 (s2:=s6) I6 (nn e n1) he hE' [e,T,Cc,T'] ?_ ?_ (JA.trans (ys:=[T']) (fun b o q hn=>⟨fun _=>(v2 b o q hn).1 (by simp),(v2 b o q hn).2⟩) (fun c hc=>hc) (fun c hc=>by simp at hc;simp[hc])) T'n T'f v1
  ·intro b hb
   simp at hb
   rcases hb with rfl|rfl|rfl|rfl
   ·exact nn _ n1
   ·exact nn _ n2
   ·exact hCn
   ·exact T'n
  ·intro b hb
   simp at hb
   rcases hb with rfl|rfl|rfl|rfl
   ·exact he
   ·exact hT
   ·exact fC.1
   ·exact T'f
 ·have rg:h3.FunFrames base (envOfC qual scope s.heap.objs.size f cd::outer):=qu I6.stack fun b hb o q=>by
   obtain⟨_,ob',MM,nf'⟩:=I6.stack.mem hb
   have eo:ob'=o:=by rw[MM]at q;exact Option.some.inj q
   rw[eo]at MM nf'
   obtain⟨⟨vs0,x1,_⟩,_,oT,ts,x4,x5,_⟩:=x
   refine(JA b o MM fun z=>?_).2
   simp at z
   rcases z with rfl|rfl|rfl|rfl
   ·rw[x1]at MM;cases MM;exact nf' vs0 rfl
   ·rw[x4]at MM;cases MM;exact nf' ts x5
   ·exact hCf hb
   ·rw[t1]at MM;cases MM
  refine wpAny_bind (GG (s:={s6 with heap:=h3}) (L:=s.heap.objs.size) hfl I6.ok.frames rg rfl u1 fun h4 T2 v1 v2 v3=>kE (s:={s6 with heap:=h4}) v2 fun h5 w1 w2=>?_)
  have v1':h3.get? T2=none:=v1
  have hxs:∀b∈[e,T,Cc,T'],s.heap.get? b=none:=fun b hb=>by
   simp at hb
   rcases hb with rfl|rfl|rfl|rfl
   ·exact nn _ n1
   ·exact nn _ n2
   ·exact hCn
   ·exact T'n
  have TQ:∀b∈[e,T,Cc,T'],H6 b=none:=fun b hb=>by
   simp at hb
   rcases hb with rfl|rfl|rfl|rfl
   ·exact he
   ·exact hT
   ·exact fC.1
   ·exact T'f
  have T2n:s.heap.get? T2=none:=by
   cases q:s.heap.get? T2 with
   |none=>rfl
   |some o=>
    obtain⟨o',q2⟩:=I6.base.there T2 o q (fun z=>nomatch z)
    obtain⟨_,sl,q3⟩:=JA T2 o' q2 fun z=>by rw[hxs T2 z]at q;cases q
    rw[v1']at q3;cases q3
  have T2f:H6 T2=none:=by
   cases q:H6 T2 with
   |none=>rfl
   |some o=>
    obtain⟨o',q2⟩:=Jc (I6.hok T2 o q)
    obtain⟨_,sl,q3⟩:=JA T2 o' q2 fun z=>by rw[TQ T2 z]at q;cases q
    rw[v1']at q3;cases q3
  refine V5 (s2:=s6) I6 (nn e n1) he hE' [e,T,Cc,T',T2] ?_ ?_ ((JA.trans (zs:=[e,T,Cc,T',T2]) v3 (fun c hc=>by simp at hc;rcases hc with rfl|rfl|rfl|rfl<;>simp) (fun c hc=>by simp at hc;rcases hc with rfl|rfl<;>simp)).trans (ys:=[T2]) (fun b o q hn=>⟨fun _=>(w2 b o q hn).1 (by simp),(w2 b o q hn).2⟩) (fun c hc=>hc) (fun c hc=>by simp at hc;simp[hc])) T2n T2f w1
  ·intro b hb
   by_cases z:b=T2
   ·rw[z];exact T2n
   ·exact hxs b (by simp at hb⊢;rcases hb with rfl|rfl|rfl|rfl|rfl<;>simp_all)
  ·intro b hb
   by_cases z:b=T2
   ·rw[z];exact T2f
   ·exact TQ b (by simp at hb⊢;rcases hb with rfl|rfl|rfl|rfl|rfl<;>simp_all)
end
section
variable{prog:Program}{w:World}{A:Around}{E:Value->Shared->Prop}{R:Result->Shared->Prop}{s:Shared}
theorem z8{elt target iter:Expr}{ifs:List Expr}{scope:Scope}{pos:Pos}{it acc:Value}{env:Env}(I:Nat->Shared->Prop)
  (turn:∀n s,I n s->wpAny (model prog w) A (pyNext it) (fun r s₁=>match r with
   |none=>R (.ok .next) s₁
   |some v=>wpAny (model prog w) A (letOwnedTupleGo target it v) (fun _ Vh=>wpAny (model prog w) A (assign target env v) (fun _ s₂=>
     wpAny (model prog w) A (forIn ifs true fun c r=>if r=true then do let ok<-isTrue c env (eval c env);pure (ForInStep.yield ok)else pure (ForInStep.yield r)) (fun ok s₃=>
      if ok=true then wpAny (model prog w) A (eval elt env) (fun x s₄=>
       wpAny (model prog w) A (call (.builtin "list.append") [acc,x]) (fun _ s₅=>∃m,m<n/\I m s₅) (fun _ _=>False) s₄) (notedBy (model prog w) A env fun e s'=>R (.error e) s') s₃
      else∃m,m<n/\I m s₃) (fun _ _=>False) s₂) (fun _ _=>False) Vh) (fun _ _=>False) s₁) (fun _ _=>False) s)
  (n:Nat)(h:I n s):
  codeAny (model prog w) A (.compLoop (.ListComp elt [⟨target,iter,ifs,0⟩] scope pos) 0 it acc env) R s:=by
 refine codeAny_loop rfl I (fun n s hI=>?_) n h
 show wpAny _ A ((compTurn (.ListComp elt [⟨target,iter,ifs,0⟩] scope pos) 0 it acc env).onRaise (fun x=>do noteFrame x env;theTreesLotGoes x)) _ _ s
 refine wpAny_noted ?_
 rw[compTurn_list]
 refine wpAny_bind (wpAny_standAt (wpAny_bind (wpAny_mono (turn n s hI) (fun r s₁ h₁=>?_) fun _ _ h'=>h'.elim)))
 cases r with
 |none=>exact wpAny_pure h₁
 |some v=>
  refine wpAny_bind (wpAny_mono h₁ (fun _ Vh ZD=>?_) fun _ _ h'=>h'.elim)
  refine wpAny_bind (wpAny_mono ZD (fun _ s₂ h₂=>wpAny_bind (wpAny_mono h₂ (fun ok s₃ h₃=>?_) fun _ _ h'=>h'.elim)) fun _ _ h'=>h'.elim)
  cases ok with
  |false=>exact wpAny_pure ⟨rfl,h₃⟩
  |true=>
   exact wpAny_bind (wpAny_bind (wpAny_mono h₃ (fun x s₄ h₄=>wpAny_bind (wpAny_mono h₄ (fun _ s₅ h₅=>wpAny_pure (wpAny_pure ⟨rfl,h₅⟩)) fun _ _ h'=>h'.elim)) fun _ _ h'=>h'))
end
theorem Inv.xe {X:Cx}{pins:List (Addr×Obj)}{σ:St}{H:Hp}{s:Shared}(I:Inv X pins σ H s)(xe:Value->Shared->Prop):Inv {X with xe:=xe} pins σ H s:=by
 obtain⟨ok,a,b,c,d,e,f,g,h,i,j⟩:=I
 obtain⟨o1,o2,o3,o4,o5,o6,o7,o8,o9,o10,o11,GH,o13,o14,o15,o16,o17,o18⟩:=ok
 exact⟨⟨o1,o2,o3,o4,o5,o6,o7,o8,o9,o10,o11,GH,o13,o14,o15,o16,o17,o18⟩,a,b,c,d,e,f,g,h,i,j⟩
section
variable{X:Cx}{E:Str->Hp->Prop}{pos:Pos}{scope:Scope}{N:List Str}{nt:Nat}{caps:List Nat}
def wZ(X:Cx)(scope:Scope)(N:List Str)(s:Shared)(H:Hp)(fp:List Addr)(C:Addr)(pl:List (Addr×Obj))(xe:Value->Shared->Prop):Cx:={lJ X scope N s H fp C pl with xe:=xe}
theorem MN{elt tg iter:Expr}{ifs:List Expr}{fi:DE->R (List D)}{b:D->DE->R DE}{ct:DE->R Bool}{fe:DE->R D}{E1:Str->Hp->Prop}(S:fY X scope N nt caps)(jx:X.calm=true)(hF:Jy X E1)(hi:PI X tg iter (Tt X.K E fi))
  (hb1:∀ds d e,b d (eT nt ds)=.ok e->∃ts,e=ts++ds.map .val/\ts.length=nt)
  (hg:∀s H fp C pl,PG (lJ X scope N s H fp C pl) tg (tG X.K EN b))(ht:∀s H fp C pl,Tw (lJ X scope N s H fp C pl) ifs (tT X.K EN ct))
  (he:∀s H fp C pl xe (E2:Str->Hp->Prop),Passes (gJ X.prog X.w) (wZ X scope N s H fp C pl xe) (EX (Ek X.K) E2)->PE (wZ X scope N s H fp C pl xe) elt (tD X.K E2 fe))
  (hs:∀x,foldedSetIterable iter X.env x=pure x){use:Option (Value->Sem Unit)}{Qv:Value->Shared->Prop}{pins:List (Addr×Obj)}{s:Shared}{σ:St}{H:Hp}{env:DE}{os:List Addr}{g:Gh}(I:Inv X pins σ H s)(r:Rel X.K g env σ H os)
  {xs:List D}{ds:List D}{nm:Str}(hxs:fi env=.ok xs)(hds:eR env caps=.ok ds)(hxl:xs.length<=sizeLine)(ec:bh (fun d e=>(b d e).ne) (fun e=>(ct e).ne) fe (eT nt ds) xs=.err nm)(hE1:∀H',aC g.H₀ H'->E1 nm H'){ps:Pos}:
  wpAny (model X.prog X.w) X.A (comprehension (.ListComp elt [⟨tg,iter,ifs,0⟩] scope pos) scope X.env ps (newList []) false (eval iter X.env) use) Qv X.xe s:=by
 refine wpAny_comprehension_free (use:=use) rfl hs (kW (S.cells I)) S.kind S.names ?_
 refine bG (hi pins s σ H (fun J H1=>aC H H1/\Zz X.K (g.P os) J H1 xs) I ⟨g,env,os,r,by rw[hxs];exact fun J H1 s1 yl=>⟨s1,yl⟩⟩) fun v s1 h1=>bG h1 fun itv s2 h2=>?_
 obtain⟨it,fp,tn,J,H2,rfl,I2,T,FU,f2,CA,yl⟩:=h2
 have r2:=r.same CA
 obtain⟨JB,vs,eds,Rf,Ba,aav,hvs⟩:=(show Good (fun _ _=>False) g.H₀ (eR env caps) (fun d=>d=ds)by rw[hds];rfl).eR r2
 subst eds
 refine wpAny_newObj_type (wpAny_newFunctionEnv S.cell (by intro y hy;simp at hy) (fun h₁ wJ hsb₁=>?_) S.kind)
 dsimp only at wJ hsb₁⊢
 have Hl:H2 s2.heap.objs.size=none:=I2.hok.fresh (le_refl _)
 have I3:Inv X pins σ (upd H2 s2.heap.objs.size (.lst [])) {s2 with heap:=s2.heap.push {cls:=.type "list",dict:=none,data:=.seq ([]:List Value).toArray}}:=
  I2.laid (t':=s2.toks) (fun b u e=>Heap.get?_push_of_some _ e) (le_refl _) ⟨zero_le _,[],0,.nil,Heap.get?_push_size _ rfl⟩
 generalize Ot:({s2 with heap:=s2.heap.push {cls:=.type "list",dict:=none,data:=.seq ([]:List Value).toArray}}:Shared)=s3 at I3
 have IA:s3.heap=s2.heap.push {cls:=.type "list",dict:=none,data:=.seq ([]:List Value).toArray}:=by rw[<-Ot]
 rw[<-IA]at wJ hsb₁⊢
 generalize Vj:s2.heap.objs.size=Dd at*
 have k3:∀b o,s3.heap.get? b=some o->h₁.get? b=some o:=fun b o e=>hsb₁.extBut b o (ne_of_lt (Heap.lt_size e)) (Heap.get?_push_of_some _ e)
 have Bb:∀b∈fp,∃o,s2.heap.get? b=some o:=fun b hb=>let⟨o,e,_⟩:=T.obj 0 _ FU b hb;⟨o,e⟩
 have IB:∀b∈fp,∃o,s3.heap.get? b=some o:=fun b hb=>let⟨o,e⟩:=Bb b hb;⟨o,by rw[IA];exact Heap.get?_push_of_some _ e⟩
 have Vk:∀b∈fp,b≠Dd:=fun b hb=>let⟨o,e⟩:=Bb b hb;by rw[<-Vj];exact ne_of_lt (Heap.lt_size e)
 have f3:∀b∈fp,kg X pins (upd H2 Dd (.lst [])) b:=fun b hb=>⟨by rw[ae (Vk b hb)];exact(f2 b hb).1,(f2 b hb).2⟩
 have sD:aC H2 (upd H2 Dd (.lst [])):=aF Hl _
 have I4:=S.start (t':=s2.toks+([]:List (Str×Value)).length) I3 f3 (le_refl _) wJ k3 IB Rf (fun j i v e1 e2=>hvs j i v e1 e2) _ rfl
 generalize hX:lJ X scope N s3 (upd H2 Dd (.lst [])) fp s3.heap.objs.size (X.pn++pins)=X' at I4
 have Ou:=hg s3 (upd H2 Dd (.lst [])) fp s3.heap.objs.size (X.pn++pins)
 have Vl:=ht s3 (upd H2 Dd (.lst [])) fp s3.heap.objs.size (X.pn++pins)
 rw[hX]at Ou Vl
 have eK:X'.K=X.K:=by rw[<-hX];rfl
 have eP:X'.prog=X.prog:=by rw[<-hX];rfl
 have eW:X'.w=X.w:=by rw[<-hX];rfl
 have eA:X'.A=X.A:=by rw[<-hX];rfl
 have eE:X'.xe=fun _ _=>False:=by rw[<-hX];rfl
 have eC:X'.calm=true:=by rw[<-hX];exact jx
 have eL:X'.env.locals=s3.heap.objs.size:=by rw[<-hX];rfl
 have eS:X'.s₀=s3:=by rw[<-hX];rfl
 have eX:X'.ex=fp:=by rw[<-hX];rfl
 have eF:X'.fs=wk X.stack:=by rw[<-hX];rfl
 have eN:X'.pn=X.pn++pins:=by rw[<-hX];rfl
 have eH:X'.H₀=upd H2 Dd (.lst []):=by rw[<-hX];rfl
 have eV:X'.env=compEnvC scope (yn X.env.cells scope.names []) s3.heap.objs.size X.env:=by rw[<-hX];rfl
 have Lg:∀{Hx:Hp},(∀b∈fp,Hx b=none)->∀b∈fp,kg X' [] Hx b:=fun{Hx} hn b hb=>by
  obtain⟨_,c1,c2,c3,c4,c5⟩:=f3 b hb
  have q:=I4.ok.Oa b (by rw[eX];exact hb)
  refine⟨hn b hb,q.1,I4.ok.yu b (by rw[eX];exact hb),.inl (by rw[eX];exact hb),q.2,fun p hp=>?_⟩
  rw[eN,append_nil]at hp
  exact c5 p hp
 let g':Gh:=⟨g.P os,H2⟩
 have Vn:∀{Hx:Hp},aC H2 Hx->Ext (g.P os) (g'.P [Dd]) H2 Hx:=fun sx=>⟨fun a o p e=>⟨.inl p,fun z=>by
  have z':a=Dd:=by simpa using z
  rw[z',Hl]at e;cases e⟩,fun a o _ e=>sx a o e⟩
 have Rg:Rel X.K g' (eT nt JB) (replicate nt none++vs.map some) (upd H2 Dd (.lst [])) [Dd]:=by
  refine⟨by simp[eT,Rf,Ba],sD,fun i d e=>?_,fun i xs e=>(pW e).elim,fun i j xs ys b e=>(pW e).elim,fun b hb=>?_,fun i w e=>(zT e).elim,A0.none fun i w e=>wI e⟩
  ·obtain⟨h1,h2⟩:=zS e
   obtain⟨v,q1,q2⟩:=aav.get h2
   refine⟨v,?_,Is.ext (Vn sD) _ _ q2⟩
   rw[getElem?_append_right (by simpa using h1),getElem?_map,length_replicate,q1]<;>rfl
  ·have e:b=Dd:=by simpa using hb
   subst e
   exact⟨Hl,_,ak⟩
 have toX:∀{xe:Value->Shared->Prop}{pl:List (Addr×Obj)}{yW:List (Addr×Obj)}{σ':St}{H1:Hp}{s1:Shared},pl=X.pn++pins->Inv (wZ X scope N s3 (upd H2 Dd (.lst [])) fp s3.heap.objs.size pl xe) yW σ' H1 s1->Inv X pins σ H1 s1/\(∃m,s1.heap.Ns s3.heap.objs.size m)/\kg X pins H1 s3.heap.objs.size:=fun{xe pl yW σ' H1 s1} hpl J=>by
  obtain⟨m6,IG,_⟩:=J.loc
  have Vv:Un (wk X.stack) fp (upd H2 Dd (.lst [])) H1 s3.heap s1.heap:=J.base
  have Vw:s1.os=s3.os:=J.os
  have I6:Inv X pins σ H1 s1:=I3.nz (s':=s1) Vw Vv J.hok J.bare fun b hb=>by
   obtain⟨_,c1,c2,c3,c4,c5⟩:=f3 b hb
   exact⟨c3,c1,c4,c5⟩
  exact⟨I6,⟨m6,IG⟩,J.free,(I3.CI (le_refl _) (I3.hok.fresh (le_refl _))).2⟩
 have pass:Passes (gJ X.prog X.w) (wZ X scope N s3 (upd H2 Dd (.lst [])) fp s3.heap.objs.size (X.pn++pins) (notedBy (model X.prog X.w) X.A (compEnvC scope (yn X.env.cells scope.names []) s3.heap.objs.size X.env) fun x s'=>compPost (model X.prog X.w) X.A X.xe use Qv (.ref Dd) s3.heap.objs.size (.error x) s')) (EX (Ek X.K) fun n' H'=>n'=nm/\aC g.H₀ H'):=by
  intro yW σ' H1 s1 ev s2' J h
  obtain⟨e,Te,C,H6,rfl,x,n1,n2,n3,n4,gO,bare,un,hok,n,hc,rfl,hsm⟩:=h
  have J6:=J.nz gO un hok bare (fun b z=>nomatch z)
  obtain⟨I1,⟨m1,X8,_,_,ho1,_⟩,_⟩:=toX rfl J
  obtain⟨I6,⟨m6,IG⟩,fC⟩:=toX rfl J6
  exact hF n pins σ H1 H6 s1 s2' e Te C s3.heap.objs.size m6 use Qv (.ref Dd) _ I1 I6 n1 n2 x n3 n4 hc (hE1 H6 hsm) ⟨X8,ho1⟩ fC IG
 have heX:=he s3 (upd H2 Dd (.lst [])) fp s3.heap.objs.size (X.pn++pins) _ _ pass
 have nD:∀{α:Type}{r:R α}{k:α->R (List D)}{c:Str},r.ne.bind k=.err c->∃a,r=.ok a/\k a=.err c:=fun{α r k c} h=>by
  cases r with
  |ok a=>exact⟨a,rfl,h⟩
  |err _=>cases h
  |bad=>cases h
 have loop:∀s4:Shared,Inv X' [] (replicate nt none++vs.map some) (upd H2 Dd (.lst [])) s4->tn 0 s4.heap->
   codeAny (model X.prog X.w) X.A (.compLoop (.ListComp elt [⟨tg,iter,ifs,0⟩] scope pos) 0 (.ref it) (.ref Dd) (compEnvC scope (yn X.env.cells scope.names []) s3.heap.objs.size X.env))
    (compPost (model X.prog X.w) X.A X.xe use Qv (.ref Dd) s3.heap.objs.size) s4:=by
  intro s4 J4 Bc
  refine z8 (fun n s'=>∃i acc Hx σ',n=xs.length-i/\i<=xs.length/\Inv X' [] σ' Hx s'/\tn i s'.heap/\(∀b∈fp,Hx b=none)/\Hx Dd=some (.lst acc)/\acc.length<=i/\
   bh (fun d e=>(b d e).ne) (fun e=>(ct e).ne) fe (eT nt JB) (xs.drop i)=.err nm/\Rel X.K g' (eT nt JB) σ' Hx [Dd]) ?_ xs.length
   ⟨0,[],_,_,by simp,zero_le _,J4,Bc,fun b hb=>(f3 b hb).1,ak,le_refl _,by rw[drop_zero];exact ec,Rg⟩
  rintro n s5 ⟨i,acc,Hx,σ5,rfl,hi5,J5,HJ,Hh,Md,la5,c5,r5⟩
  obtain⟨y1,y2⟩:=yl i Hx (g'.P [Dd]) r5.ext (Vn r5.ext)
  by_cases hlt:i<xs.length
  ·have hx:xs[i]?=some xs[i]:=getElem?_eq_getElem hlt
   obtain⟨go,y3⟩:=y1 _ hx
   rw[List.drop_eq_getElem_cons hlt]at c5
   obtain⟨e1,Me,c6⟩:=nD (show(b xs[i] (eT nt JB)).ne.bind _=.err nm from c5)
   obtain⟨t,Tz,c7⟩:=nD c6
   have TI:=T.item X' eP eW eK eC i [] s5 σ5 Hx (fun _ _=>False) J5 (Lg Hh) HJ go
   rw[eA]at TI
   refine bG TI fun r s6 h6=>?_
   obtain⟨u,rfl,h6⟩:=h6
   refine bG h6 fun _ s7 h7=>?_
   obtain⟨x,H7,J7,rx,hy,IC,Vo⟩:=h7
   obtain⟨ID,hix⟩:=y3 x H7 hy
   have ix:Is X.K (g'.P [Dd]) H7 xs[i] x:=Is.ext ⟨fun a o p _=>p.elim (fun z=>z) fun z=>r5.fresh z,fun _ _ _ z=>z⟩ _ _ hix
   have Vp:=J7.pinned (Lg Vo) (T.obj _ _ IC)
   have TG:=Ou _ s7 σ5 H7 x u (fun σ8 H8=>∃e8,b xs[i] (eT nt JB)=.ok e8/\Rel X.K g' e8 σ8 H8 [Dd]/\H8=H7) Vp rx ⟨g',eT nt JB,[Dd],xs[i],r5.same ID,ix,kB Me fun σ8 r8=>⟨e1,Me,r8,rfl⟩⟩
   rw[eP,eW,eA,eE,eV]at TG
   refine bG TG fun _ s8 h8=>?_
   obtain⟨σ8,H8,J8,e8,Vq,r8,XY⟩:=h8
   rw[XY]at J8 r8
   rw[Me]at Vq
   cases Vq
   have TT:=Vl _ s8 σ8 H7 (fun t' H9=>t'=t/\aC H7 H9) J8 ⟨g',e1,[Dd],r8,kB Tz fun H9 s9=>⟨rfl,s9⟩⟩
   rw[eP,eW,eA,eE,eV]at TT
   refine bG TT fun ok s9 h9=>?_
   obtain⟨H9,J9,rfl,zU⟩:=h9
   obtain⟨ts,hts,CB⟩:=hb1 JB _ _ Me
   have wK:∀{σx:St}{Hy:Hp}{sx:Shared},Inv X' ([]++my fp s7.heap) σx Hy sx->tn (i+1) sx.heap/\∀b∈fp,Hy b=none:=fun{σx Hy sx} Jx=>
    ⟨T.keep _ _ _ IC fun b hb o e=>(Jx.pin (b,o) (mem_append_right _ (mem_append_right _ (eM hb e)))).1,fun b hb=>by
     obtain⟨o,e,d⟩:=T.obj _ _ IC b hb
     exact(Jx.pin (b,o) (mem_append_right _ (mem_append_right _ (eM hb e)))).2.1⟩
   cases ok with
   |false=>
    rw[if_neg Bool.false_ne_true]
    have c8:bh (fun d e=>(b d e).ne) (fun e=>(ct e).ne) fe (eT nt JB) (xs.drop (i+1))=.err nm:=c7
    obtain⟨k1,k2⟩:=wK J9
    exact⟨xs.length-(i+1),by omega,i+1,acc,H9,σ8,rfl,hlt,J9.jd,k1,k2,zU _ _ (ID _ _ Md),by omega,c8,
     vO r8 hts CB (.same zU) (r8.ext.trans zU) ⟨_,zU _ _ (ID _ _ Md)⟩⟩
   |true=>
    rw[if_pos rfl]
    have c8:(fe e1).bind (fun d=>(bh (fun d e=>(b d e).ne) (fun e=>(ct e).ne) fe (eT nt JB) (xs.drop (i+1))).bind fun r=>.ok (d::r))=.err nm:=c7
    have J9x:Inv (wZ X scope N s3 (upd H2 Dd (.lst [])) fp s3.heap.objs.size (X.pn++pins) (notedBy (model X.prog X.w) X.A (compEnvC scope (yn X.env.cells scope.names []) s3.heap.objs.size X.env) fun x s'=>compPost (model X.prog X.w) X.A X.xe use Qv (.ref Dd) s3.heap.objs.size (.error x) s')) ([]++my fp s7.heap) σ8 H9 s9:=by
     have z:=J9
     rw[<-hX]at z
     exact Inv.xe z _
    have TE:=heX _ s9 σ8 H9 (fun v rG=>∃d,fe e1=.ok d/\aC H9 rG/\Is X.K (g'.P [Dd]) rG d v) J9x ⟨g',e1,[Dd],r8.same zU,by
     cases hfe:fe e1 with
     |ok d=>exact fun v rG Gq ZG=>⟨d,rfl,Gq,ZG⟩
     |bad=>rw[hfe]at c8;cases c8
     |err c=>
      rw[hfe]at c8
      cases c8
      exact fun H' sm=>⟨rfl,(r2.ext.trans sm)⟩⟩
    refine bG TE fun y Gq Vr=>?_
    obtain⟨v,rG,aax,rv,d,hfe,Bd,iv⟩:=Vr
    rw[hfe]at c8
    have c9:bh (fun d e=>(b d e).ne) (fun e=>(ct e).ne) fe (eT nt JB) (xs.drop (i+1))=.err nm:=by
     cases q9:bh (fun d e=>(b d e).ne) (fun e=>(ct e).ne) fe (eT nt JB) (xs.drop (i+1))with
     |ok r9=>rw[q9]at c8;cases c8
     |bad=>rw[q9]at c8;cases c8
     |err c=>rw[q9]at c8;exact c8
    have Vs:Inv X' ([]++my fp s7.heap) σ8 rG Gq:=by
     rw[<-hX]
     exact Inv.xe aax _
    have IF:rG Dd=some (.lst acc):=Bd _ _ (zU _ _ (ID _ _ Md))
    have TM:=dO (X:=X') _ Gq σ8 rG (.ref Dd) [v] (.ref Dd) [y] (fun _ Mf=>Mf=upd rG Dd (.lst (acc++[v]))) Vs rfl (.cons rv .nil) ⟨Dd,acc,v,rfl,rfl,IF,by omega,rfl⟩
    rw[eP,eW,eA,eE]at TM
    refine bG TM fun _ Vu h11=>?_
    obtain⟨v',Mf,Ov,_,rfl⟩:=h11
    obtain⟨k1,k2⟩:=wK Ov
    have X0:Ext (g'.P [Dd]) (g'.P [Dd]) rG (upd rG Dd (.lst (acc++[v]))):=⟨fun _ _ p _=>p,fun a o p e=>by rw[ae (fun z=>p.2 (by simp[z]))];exact e⟩
    have Rh:aC H2 rG:=(r8.ext.trans zU).trans Bd
    refine⟨xs.length-(i+1),by omega,i+1,acc++[v],_,σ8,rfl,hlt,Ov.jd,k1,k2,ak,by rw[length_append,length_singleton];omega,c9,?_⟩
    exact vO (r8.same (zU.trans Bd)) hts CB X0 (fun a o e=>by rw[ae (ao (show H2 a=some o from e) Hl)];exact Rh a o e) ⟨_,ak⟩
  ·have e:i=xs.length:=by omega
   subst e
   rw[drop_length]at c5
   cases c5
 have Bc:tn 0 h₁:=T.keep _ _ _ FU fun b hb o e=>k3 b o (by rw[IA];exact Heap.get?_push_of_some _ e)
 have eG:({heap:=h₁,gens:=s3.gens,drawn:=s3.drawn,toks:=s2.toks+([]:List (Str×Value)).length,os:=s3.os}:Shared)={heap:=h₁,gens:=s2.gens,drawn:=s2.drawn,toks:=s2.toks+([]:List (Str×Value)).length,os:=s2.os}:=by rw[<-Ot]
 rw[eG]at I4
 exact codeAny_compStart_list (loop _ I4 Bc) (T.self _ 0 _ _ _ Bc (loop _ I4 Bc))
theorem qM{b:D->DE->R DE}{ct:DE->R Bool}{fe V7:DE->R D}{e₀:DE}(hfe:∀e d,fe e=.ok d->V7 e=.ok d):∀{xs ys:List D},bh (fun d e=>(b d e).ne) (fun e=>(ct e).ne) fe e₀ xs=.ok ys->bh b ct V7 e₀ xs=.ok ys
 |[],ys,h=>h
 |x::xs,ys,h=>by
  obtain⟨e,h1,h2⟩:=R.cu (show((b x e₀).ne).bind _=.ok ys from h)
  obtain⟨t,h3,h4⟩:=R.cu (show((ct e).ne).bind _=.ok ys from h2)
  have g1:b x e₀=.ok e:=by
   cases q:b x e₀ with
   |ok a=>rw[q]at h1;exact h1
   |err c=>rw[q]at h1;cases h1
   |bad=>rw[q]at h1;cases h1
  have g2:ct e=.ok t:=by
   cases q:ct e with
   |ok a=>rw[q]at h3;exact h3
   |err c=>rw[q]at h3;cases h3
   |bad=>rw[q]at h3;cases h3
  show(b x e₀).bind _=_
  rw[g1,R.aM,g2,R.aM]
  cases t with
  |false=>
   rw[if_neg (by decide)]at h4⊢
   exact qM hfe h4
  |true=>
   rw[if_pos rfl]at h4⊢
   obtain⟨d,h5,h6⟩:=R.cu h4
   obtain⟨r,h7,h8⟩:=R.cu h6
   rw[hfe e d h5,R.aM,qM hfe h7]
   exact h8
theorem R0{elt tg iter:Expr}{ifs:List Expr}{fi:DE->R (List D)}{b:D->DE->R DE}{ct:DE->R Bool}{fe V7:DE->R D}(S:fY X scope N nt caps)(jx:X.calm=true)(hF:Jy X E)(hi:PI X tg iter (Tt X.K E fi))
  (hb1:∀ds d e,b d (eT nt ds)=.ok e->∃ts,e=ts++ds.map .val/\ts.length=nt)
  (hg:∀s H fp C pl,PG (lJ X scope N s H fp C pl) tg (tG X.K EN b))(ht:∀s H fp C pl,Tw (lJ X scope N s H fp C pl) ifs (tT X.K EN ct))(V8:∀s H fp C pl,PE (lJ X scope N s H fp C pl) elt (tD X.K EN V7))
  (he:∀s H fp C pl xe (E2:Str->Hp->Prop),Passes (gJ X.prog X.w) (wZ X scope N s H fp C pl xe) (EX (Ek X.K) E2)->PE (wZ X scope N s H fp C pl xe) elt (tD X.K E2 fe))(hfe:∀e d,fe e=.ok d->V7 e=.ok d)
  (hs:∀x,foldedSetIterable iter X.env x=pure x:=by intro _;rfl):
  PE X (.ListComp elt [⟨tg,iter,ifs,0⟩] scope pos) (tF X.K E fun env=>(fi env).bind fun xs=>(eR env caps).bind fun ds=>(fit xs).bind fun xs=>(bh (fun d e=>(b d e).ne) (fun e=>(ct e).ne) fe (eT nt ds) xs).bind fit):=by
 intro pins s σ H Q I h
 obtain⟨g,env,os,r,m⟩:=h
 dsimp only at m
 cases hxs:fi env with
 |bad=>exact kC S jx hi hb1 hg ht V8 hs pins s σ H Q I ⟨g,env,os,r,by dsimp only;rw[hxs]at m⊢;exact m⟩
 |err c=>exact kC S jx hi hb1 hg ht V8 hs pins s σ H Q I ⟨g,env,os,r,by dsimp only;rw[hxs]at m⊢;exact m⟩
 |ok xs=>
  cases hds:eR env caps with
  |bad=>exact kC S jx hi hb1 hg ht V8 hs pins s σ H Q I ⟨g,env,os,r,by dsimp only;rw[hxs,R.aM,hds]at m⊢;exact m⟩
  |err c=>exact kC S jx hi hb1 hg ht V8 hs pins s σ H Q I ⟨g,env,os,r,by dsimp only;rw[hxs,R.aM,hds]at m⊢;exact m⟩
  |ok ds=>
   rw[hxs,R.aM,hds,R.aM]at m
   obtain⟨hxl,m2⟩:=m.bind.fit
   cases ec:bh (fun d e=>(b d e).ne) (fun e=>(ct e).ne) fe (eT nt ds) xs with
   |bad=>rw[ec]at m2;exact m2.elim
   |ok ys=>
    rw[ec,R.aM]at m2
    exact kC S jx hi hb1 hg ht V8 hs pins s σ H Q I ⟨g,env,os,r,by dsimp only;rw[hxs,R.aM,hds,R.aM,qM hfe ec];exact m2⟩
   |err nm=>
    rw[ec]at m2
    rw[eval_ListComp]
    exact MN S jx hF hi hb1 hg ht he hs I r hxs hds hxl ec m2
theorem MO{a:R (List D)}{mX:List D->R D}{d:D}(h:a.bind mX=.ok d):(a.bind fun ds=>(mX ds).ne)=.ok d:=by
 cases a with
 |ok ds=>
  have h':mX ds=.ok d:=h
  show(mX ds).ne=_
  rw[h']
  rfl
 |err c=>cases h
 |bad=>cases h
end
section
variable{X:Cx}{E:Str->Hp->Prop}{pos:Pos}
def aeH:D->R Unit
 |.int 0=>.ok ()
 |_=>.bad
end
def MP:D->D->Option D
 |.int i,.int j=> @ite _ (FW i j) (propDecidable _) (some (.int (i*2^j.toNat))) none
 |_,_=>none
section
variable{X:Cx}{E:Str->Hp->Prop}{pos:Pos}
theorem MQ:om X (rI FW fun i j=>.int (i*2^j.toNat)) MP:=rE (h:=fun i j=>.int (i*2^j.toNat)) (fun _ _=>rfl) fun x y d e=>by
 unfold MP at e
 split at e
 ·split at e
  ·rename_i i j c
   cases e
   exact⟨i,j,rfl,rfl,c,rfl⟩
  ·cases e
 ·cases e
theorem V9:Tn X .BitOr (Uo fun i j=>Builtin.bitOr i j):=by
 intro pins s σ H x y v u Q I r1 r2 h
 obtain⟨i,j,rfl,rfl,q⟩:=h
 obtain⟨t,rfl⟩:=r1
 obtain⟨t',rfl⟩:=r2
 exact ior_int ⟨.int _,H,I.tok _,⟨_,rfl⟩,q⟩
end
section
variable{K:PySem.W.Frag}{g:Gh}{env:DE}{σ:St}{H H1:Hp}{os:List Addr}
theorem Rel.Wa (r:Rel K g env σ H os){i:Nat}{c c':Ct}(e:env[i]?=some (.deep c)){a:Addr}(hσ:σ[i]?=some (some (.ref a))){o:HO}{as':List Addr}
  (hd:∀as,Dp H os a as c->(∀x,x∈as'↔x∈as)/\Dp (upd H a o) os a as' c'):a∈os/\Rel K g (env.set i (.deep c')) σ (upd H a o) os:=by
 obtain⟨A,dd⟩:=r.Hk
 obtain⟨a0,yo,hA,h1,h3⟩:=dd.dp i c e
 rw[hσ]at h1
 cases h1
 obtain⟨hm,Ud⟩:=hd yo h3
 have qL:a∈os:=(h3.mem a (by simp)).1
 have VY:a∈A i:=by rw[hA];simp
 refine⟨qL,?_⟩
 have ex:Ext (g.P os) (g.P os) H (upd H a o):=⟨fun _ _ p _=>p,fun c o p q=>by rw[ae (fun z=>p.2 (by rw[z];exact qL))];exact q⟩
 have f:∀(j:Nat)(sl:Sl),(env.set i (Sl.deep c'))[j]?=some sl->sl≠.deep c'->i≠j/\env[j]?=some sl:=fun j sl q hn=>kF q hn
 refine⟨by simp[r.len],fun b o' q=>?_,fun j d q=>?_,fun j xs q=>?_,fun j k xs ys b q1 q2 q3 q4=>?_,fun b hc=>?_,fun j v q=>?_,?_⟩
 ·rw[ae (fun z=>by rw[z,(r.new a qL).1]at q;cases q)]
  exact r.ext b o' q
 ·obtain⟨hj,q⟩:=f j _ q (fun z=>nomatch z)
  obtain⟨v,h1,h2⟩:=r.val j d q
  exact⟨v,h1,Is.ext ex _ _ h2⟩
 ·obtain⟨hj,q⟩:=f j _ q (fun z=>nomatch z)
  obtain⟨b,vs,h1,h2,VZ,h4⟩:=r.own j xs q
  have hcb:b≠a:=fun z=>dd.ow i c j xs b e q h1 (by rw[z];exact VY)
  exact⟨b,vs,h1,h2,by rw[ae hcb];exact VZ,IsL.ext ex _ _ h4⟩
 ·obtain⟨hj,q1⟩:=f j _ q1 (fun z=>nomatch z)
  obtain⟨hk,q2⟩:=f k _ q2 (fun z=>nomatch z)
  exact r.inj j k xs ys b q1 q2 q3 q4
 ·obtain⟨z1,o',z2⟩:=r.new b hc
  refine⟨z1,?_⟩
  by_cases z:b=a
  ·exact⟨_,by rw[z];exact ak⟩
  ·exact⟨o',by rw[ae z];exact z2⟩
 ·obtain⟨hj,q⟩:=f j _ q (fun z=>nomatch z)
  exact r.raw j v q
 ·have sub:∀(j:Nat)(y:Addr),(y∈if j=i then a::as' else A j)->y∈A j:=fun j y hy=>by
   by_cases hj:j=i
   ·rw[if_pos hj]at hy
    rw[hj,hA]
    rcases mem_cons.mp hy with w|w
    ·rw[w];exact mem_cons_self
    ·exact mem_cons_of_mem _ ((hm y).mp w)
   ·rw[if_neg hj]at hy
    exact hy
  have p1:∀(j:Nat)(ms:Ct),(env.set i (Sl.deep c'))[j]?=some (.deep ms)->∃RM,env[j]?=some (.deep RM):=fun j ms q=>by
   by_cases hj:i=j
   ·subst hj;exact⟨c,e⟩
   ·rw[getElem?_set_ne hj]at q;exact⟨ms,q⟩
  refine⟨fun j=>if j=i then a::as' else A j,fun j qp q=>?_,fun j qp m xs b q1 q2 q3 hx=>?_,fun j m qp RK TR q1 q2 x hx Ve=>?_⟩
  ·by_cases hj:j=i
   ·have q':=q
    rw[hj]at q'
    have z:=aZ q'
    cases z
    exact⟨a,as',if_pos hj,by rw[hj];exact hσ,Ud⟩
   ·rw[getElem?_set_ne (Ne.symm hj)]at q
    obtain⟨b,cs,z1,z2,z3⟩:=dd.dp j qp q
    refine⟨b,cs,by rw[if_neg hj];exact z1,z2,z3.to fun x hx=>?_⟩
    have hxb:x≠a:=fun z=>dd.dj i j c qp (Ne.symm hj) e q a VY (by rw[z1,<-z];exact hx)
    exact⟨(z3.mem x hx).1,ae hxb⟩
  ·have X7:=(f m _ q2 (fun z=>nomatch z)).2
   obtain⟨RM,p⟩:=p1 j qp q1
   exact dd.ow j RM m xs b p X7 q3 (sub j b hx)
  ·obtain⟨m1,w1⟩:=p1 j qp q1
   obtain⟨m2,w2⟩:=p1 m RK q2
   exact dd.dj j m m1 m2 TR w1 w2 x (sub j x hx) (sub m x Ve)
end
section
variable{X:Cx}{E:Str->Hp->Prop}{pos:Pos}
theorem Wb(ix:Nat){x:Str}{p apos aL:Pos}(hN:X.N[ix]?=some x:=by rfl)(hv:yV X.env.scope x:=by first|exact Or.inl rfl|exact Or.inr (Or.inl rfl)|exact Or.inr (Or.inr rfl))(hd:(x==("__debug__":Str))=false:=by decide)
  (hcd:(x==("__classdict__":Str))=false:=by decide)
  (hbase:attributeBase (.Name x p) "reverse" X.env (eval (.Name x p) X.env)=eval (.Name x p) X.env:=by rfl)(hline:(apos.endLine==aL.line)=true:=by rfl)
  (hs:swapsWith (.Call (.Attribute (.Name x p) "reverse" apos) [] [] aL) none pos.line X.env=pure false:=by rfl):
  PS X (.Expr (.Call (.Attribute (.Name x p) "reverse" apos) [] [] aL) pos) (tS X.K E fun env=>(gw ix env).bind fun nss=>.ok (.nx (env.set ix (.deep (.ls nss.reverse))))):=
 oi (fX (zK plainAttrs_list PySem.F.slot_list_reverse PySem.F.type_list_reverse CV (jk hN hv hd hcd) hbase hline) hs) fun De σ H ⟨g,env,os,r,m⟩=>by
  obtain⟨nss,e1,m2⟩:=m.bind.deep
  obtain⟨a,as,q1,q2,q3,q4⟩:=r.z6 e1
  refine⟨.ref a,q1,.inl ⟨rfl,_,cV.of q2⟩,a,as.map V.ref,rfl,rfl,q2,?_⟩
  obtain⟨hos,r2⟩:=r.Wa (c':=.ls nss.reverse) (o:=.lst (as.map V.ref).reverse) (as':=as.reverse) e1 q1 (fun yo dp=>by
   have d:AD HO.lst H os a yo nss:=dp
   have has:yo=as:=by
    have z:=d.ha
    rw[q2]at z
    have z2:as.map V.ref=yo.map V.ref:=by injection z with z;injection z
    exact(kG z2).symm
   subst has
   refine⟨fun x=>mem_reverse,d.ma,by rw[<-map_reverse];exact ak,by rw[length_reverse,length_reverse];exact d.len,?_,fun k b ns e1 e2=>?_⟩
   ·have nd:=nodup_cons.mp d.nd
    exact nodup_cons.mpr ⟨fun z=>nd.1 (mem_reverse.mp z),(reverse_perm yo).nodup_iff.mpr nd.2⟩
   ·have hk:=(List.getElem?_eq_some_iff.mp e1).1
    rw[length_reverse]at hk
    rw[getElem?_reverse hk]at e1
    rw[getElem?_reverse (by rw[<-d.len];exact hk),<-d.len]at e2
    obtain⟨w1,w2⟩:=d.it _ b ns e1 e2
    have hba:b≠a:=fun z=>(nodup_cons.mp d.nd).1 (by rw[<-z];exact mem_of_getElem? e1)
    exact⟨w1,by rw[ae hba];exact w2⟩)
  exact(show dW X.K g H os De (.nx _)from m2) σ _ os r2 (.mut hos)
end
section
variable{X:Cx}{E:Str->Hp->Prop}{pos:Pos}
def Eu:List D->Option D
 |[.int i]=> @ite _ (i.natAbs.log2<1920) (propDecidable _) (some (.str (toString i:String))) none
 |[.str t]=>some (.str t)
 |_=>none
def Py(xs:List V)(H:Hp)(Q:VK):Prop:=(∃i,xs=[V.int i]/\i.natAbs.log2<1920/\Q (V.str (toString i:String)) H)\/∃t,xs=[V.str t]/\Q (V.str t) H
theorem JC:CY X Py Eu:=fun ds d e=>by
 unfold Eu at e
 split at e
 ·rename_i i
  split at e
  ·rename_i c
   cases e
   refine⟨_,rfl,fun H vs Q h q=>?_⟩
   obtain⟨v,rfl,h1⟩:=IsL.vv h
   have h':v=.int i:=h1
   subst h'
   exact .inl ⟨i,rfl,c,q⟩
  ·cases e
 ·rename_i t
  cases e
  refine⟨_,rfl,fun H vs Q h q=>?_⟩
  obtain⟨v,rfl,h1⟩:=IsL.vv h
  have h':v=.str t:=h1
  subst h'
  exact .inr ⟨t,rfl,q⟩
 ·cases e
theorem z9:lE X (.type "str") Py:=by
 intro pins s σ H xs us Q I r h
 rcases h with⟨i,rfl,hz,q⟩|⟨x,rfl,q⟩
 ·exact cH pins s σ H _ us Q I r ⟨i,rfl,hz,q⟩
 ·obtain⟨u,rfl,t,rfl⟩:=vals1 r
  exact PySem.P.str_of_str ⟨.str _,H,I,⟨_,rfl⟩,q⟩
end
theorem dfm{K:PySem.W.Frag}{h:Heap}{mg:Str->Option Value}{x:Str}{st:Stmt}{ps:List Str}{f:Addr}{oc:Value}{od an:Option Addr}{DX:Array (Option Value)}{kV doc pm cdv ct:Value}(X:K.In h)(G:h.Ns mainGlobals mg)(a:nsIn K mainGlobals x=some (some (.ref f)))
  (l:K.lookup f=some ⟨oc,od,.func (PySem.W.fnOf x x (dU st) (bx st) (aa st) .none kV doc pm an cdv ct),DX⟩)(c:codeIn K cdv x=true)(k:keepIn K (.ref f)=true)
  (hb:∀(kV doc pm:Value)(an:Option Addr)(cdv ct:Value)(us:List Value),us.length=ps.length->bindArgs (PySem.W.fnOf x x (dU st) (bx st) (aa st) .none kV doc pm an cdv ct) ⟨us,[]⟩=pure (ps.zip us)):
  Df K mg x st ps f (PySem.W.fnOf x x (dU st) (bx st) (aa st) .none kV doc pm an cdv ct):=⟨CW l c k,(CW l c k).binds hb,mg_of X G a,a⟩
theorem nK{N P:List Str}{sc:Scope}(h1:sc.kind=.function:=by rfl)(h2:sc.isCoroutine=false:=by rfl)(h3:sc.isGenerator=false:=by rfl)(h4:N.Nodup:=by decide +kernel)(h5:N.take P.length=P:=by rfl)
  (h6:∀x∈P,sc.names.lookup x=some .local\/sc.names.lookup x=some .cell:=by decide +kernel)(h7:∀y∈sc.names,y.2≠.free:=by decide +kernel):aw N P sc:=⟨h1,h2,h3,h4,h5,h6,h7⟩
def nxO:Out->R Out
 |.nx e=>.ok (.nx e)
 |_=>.bad
def Dc(ms:List Str)(c d:Str)(f f1 f2:DE->R Out)(env:DE):R Out:=match f env with
 |.ok o=>.ok o
 |.err n=>if n∈ms then(if ou c n=true then(f1 env).ne.bind nxO else if ou d n=true then(f2 env).ne.bind nxO else .bad)else .bad
 |.bad=>.bad
structure MR(K:PySem.W.Frag)(mg:Str->Option Value)(c:Str)(ms:List Str):Prop where
 ex:∃C,mg c=some (.ref C)/\∀n∈ms,∃D,nsIn K mainGlobals n=some (some (.ref D))/\exmOne K (.ref D) (.ref C)=some (ou c n)
section
variable{X:Cx}{E:Str->Hp->Prop}
theorem Wc{l:List Stmt}:nA X l (tS X.K E fun _=>.bad):=fun pins s σ H De I ⟨g,env,os,r,m⟩=>m.elim
theorem Wd{ms:List Str}{body:List Stmt}{b₁ b₂:Stmt}{u₁ u₂:List Stmt}{c d:Str}{cp hp dp hq pos:Pos}{f f1 f2:DE->R Out}(ct:MR X.K X.mg c ms)(cd:MR X.K X.mg d ms)(hb:PB X body f)(h1:∀e,nA (Ba X e) (b₁::u₁) (tS X.K EN f1))(h2:∀e,nA (Ba X e) (b₂::u₂) (tS X.K EN f2))
  (jx:X.calm=true)(hst:X.stack=X.env::X.outer:=by rfl)(hfr:X.env.frame=some X.env.locals:=by rfl)(hg:Gl X c:=by rfl)(hdb:(c==("__debug__":Str))=false:=by decide)(hg2:Gl X d:=by rfl)(aaz:(d==("__debug__":Str))=false:=by decide):
  PS X (.Try body [.ExceptHandler (some (.Name c cp)) none (b₁::u₁) hp,.ExceptHandler (some (.Name d dp)) none (b₂::u₂) hq] [] [] pos) (tS X.K E (Dc ms c d f f1 f2)):=by
 intro pins s σ H De I ⟨g,env,os,r,m⟩
 obtain⟨Cc,cm,cx⟩:=ct.ex
 obtain⟨Cd,dm,dx⟩:=cd.ex
 have hnb:f env≠.bad:=fun z=>by unfold Dc at m;rw[z]at m;exact m
 refine wpAny_Try_except (wpAny_mono (hb pins s σ H De g env os I r hnb fun o q=>by unfold Dc at m;rw[q]at m;exact m) (fun fl s1 q=>?_) fun ev s1 q=>?_)
 ·cases fl with
  |next=>exact wpAny_execs_nil q
  |ret v=>exact q
  |brk=>exact q
  |cont=>exact q
 ·obtain⟨n,H0,s0,ef,I0,e,T,C,H',rfl,x1,n1,n2,n3,n4,ho,bare,un,hok,hc,sm⟩:=q
  unfold Dc at m
  rw[ef]at m
  dsimp only at m
  split at m
  ·rename_i hms
   obtain⟨Dn,dn,nx⟩:=cx n hms
   obtain⟨Dn2,dn2,nx2⟩:=dx n hms
   have eC:C=Dn:=by rw[z4 dn]at hc;exact Value.ref.inj hc
   have eC2:C=Dn2:=by rw[z4 dn2]at hc;exact Value.ref.inj hc
   subst eC
   subst eC2
   have I1:Inv X pins σ H' s1:=I0.nz ho un hok bare (fun b z=>nomatch z)
   have MA:∀b∈(X.env::X.outer).filterMap (·.frame),H' b=none:=fun b hb=>I1.pS b (by rw[hst];exact hb)
   have VR:=I1.stack
   rw[hst]at VR
   refine rL (L:=X.env.locals) (by rw[I.ok.frames,hst]) VR hfr x1 fun Oj T2 t1 t2 t3=>kE t2 fun h3 u1 u2=>?_
   have T0:s0.heap.get? T2=none:=gu un t1
   have TH:H' T2=none:=cK hok t1
   have kk:vU ((X.env::X.outer).filterMap (·.frame)) [e,T,T2] s1.heap h3:=t3.trans (ys:=[T2]) (fun b o q hn=>⟨fun _=>(u2 b o q hn).1 (by simp),(u2 b o q hn).2⟩) (by intro c hc;simp at hc;rcases hc with rfl|rfl<;>simp) (by intro c hc;simp at hc;simp[hc])
   have xs0:∀b∈[e,T,T2],s0.heap.get? b=none:=by
    intro b hb
    simp at hb
    rcases hb with rfl|rfl|rfl
    ·exact n1
    ·exact n2
    ·exact T0
   have VS:∀b∈[e,T,T2],H' b=none:=by
    intro b hb
    simp at hb
    rcases hb with rfl|rfl|rfl
    ·exact n3
    ·exact n4
    ·exact TH
   have Jj:∀b∈(X.env::X.outer).filterMap (·.frame),b∈wk X.stack\/s0.heap.get? b=none:=fun b hb=>.inl (by rw[hst];exact hb)
   have un3:=uh un kk xs0 Jj
   have RA:=pZ hok kk VS MA
   have I3:Inv X pins σ H' {s1 with heap:=h3}:=I0.nz (s':={s1 with heap:=h3}) ho un3 RA bare (fun b z=>nomatch z)
   have X4:(Value.ref e)≠byPass:=by intro q;cases q
   obtain⟨vs,a1,a2⟩:=u1.at_
   have lt:Looks (model X.prog X.w) h3 (typeOf (.ref e)) (.ref C):=(Looks.ld a1).andThen .now
   have su:∀(b:Stmt)(u:List Stmt)(hpos:Pos)(fs:DE->R Out),(∀e,nA (Ba X e) (b::u) (tS X.K EN fs))->Good E g.H₀ ((fs env).ne.bind nxO) (dW X.K g H os De)->
     ∀(Q':Result->Shared->Prop),(∀s',SP X pins De .next s'->Q' (.ok .next) s')->codeAny (model X.prog X.w) (X.A.mark (some (.ref e))) (.handlers (.ref e) [.ExceptHandler none none (b::u) hpos] X.env) Q' {s1 with heap:=h3}:=by
    intro b u hpos fs Z9 m' Q' hQ
    refine codeAny_handlers_suite (kE u1 fun h4 w1 w2=>?_)
    have k4:vU ((X.env::X.outer).filterMap (·.frame)) [e,T,T2] s1.heap h4:=kk.trans (ys:=[T2]) (fun b o q hn=>⟨fun _=>(w2 b o q hn).1 (by simp),(w2 b o q hn).2⟩) (fun _ z=>z) (by intro c hc;simp at hc;simp[hc])
    have I4:Inv X pins σ H' {s1 with heap:=h4}:=I0.nz (s':={s1 with heap:=h4}) ho (uh un k4 xs0 Jj) (pZ hok k4 VS MA) bare (fun b z=>nomatch z)
    refine wpAny_mono (Z9 e pins _ σ H' ⟨fun σ' Hn=>∀s',Inv X pins σ' Hn s'->SP X pins De .next s',fun _ _=>False,fun _ _=>False,fun _ _=>False⟩ (Inv.Ba I4 e) ⟨g,_,os,r.same sm,?_⟩) (fun fl s6 q=>?_) fun _ _ z=>False.elim z
    ·cases q:fs env with
     |err c2=>rw[q]at m';exact m'.elim
     |bad=>rw[q]at m';exact m'.elim
     |ok o=>
      rw[q]at m'
      cases o with
      |nx e2=>
       have m2:dW X.K g H os De (.nx e2):=m'
       exact fun σ' Hn gO r' st s' I'=>⟨_,Hn,I',m2 _ Hn gO r' ((rB.same sm os).trans st)⟩
      |bk _=>exact m'.elim
      |ct _=>exact m'.elim
      |rt _=>exact m'.elim
      |oH _=>exact m'.elim
      |Gd _=>exact m'.elim
      |D6 _=>exact m'.elim
      |Gb _=>exact m'.elim
      |AF _=>exact m'.elim
    ·cases fl with
     |next=>
      obtain⟨σ',Hn,I7,q⟩:=q
      exact hQ _ (q _ (Inv.Pp I.ok.hd I7))
     |ret v=>obtain⟨_,_,_,_,_,z⟩:=q;exact z.elim
     |brk=>obtain⟨_,_,_,z⟩:=q;exact z.elim
     |cont=>obtain⟨_,_,_,z⟩:=q;exact z.elim
   refine wpAny_handleBy_cons (codeAny_handlers_test (kj (Inv.Ba I3 e) hg cm ?_ hdb)) X4
   refine(exm_one I3.pR lt nx).here ?_
   split at m
   ·rename_i hs1
    simp only [hs1,if_true]
    exact su b₁ u₁ hp f1 h1 m _ fun s' z=>z
   ·rename_i hs1
    split at m
    ·rename_i hs2
     have aaA:ou c n=false:=by simpa using hs1
     simp only [aaA,false_eq_true,if_false]
     refine wpAny_handleBy_cons (codeAny_handlers_test (kj (Inv.Ba I3 e) hg2 dm ?_ aaz)) X4
     refine(exm_one I3.pR lt nx2).here ?_
     simp only [hs2,if_true]
     exact su b₂ u₂ hq f2 h2 m _ fun s' z=>z
    ·exact m.elim
  ·exact m.elim
end
def xf(env:DE):R Out:=
 (R.bind (R.bind (R.bind (R.bind (R.bind (R.bind (R.bind (R.bind (br 0 env) fun gI=>R.bind (R.ok (D.int 1000003)) fun kc=>R.of (mH gI kc)) fun jT=>R.bind (R.ok (D.int 7)) fun jj=>R.of (Gf jT jj)) fun v10=>R.bind (R.bind (br 1 env) fun kY=>R.bind (br 1 env) fun lL=>R.of (Gf kY lL)) fun v11=>R.of (kD v10 v11)) fun v8=>R.bind (R.ok (D.int 1)) fun v9=>R.of (kD v8 v9)) fun v6=>R.bind (br 2 env) fun v7=>R.of (Gf v6 v7)) fun v4=>R.bind (R.ok (D.int 2147483647)) fun v5=>R.of (mH v4 v5)) fun v2=>R.bind (R.ok (D.int 16)) fun v3=>R.of (ud v2 v3)) fun v1=>R.ok (Out.rt v1))
def jU:=mS 3 3 xf
def oV(env:DE):R Out:=
 (aX (R.bind (R.bind (R.bind (br 1 env) fun v4=>R.bind (R.ok (D.int 1)) fun v5=>R.bind (R.of (CC v4 v5)) mr) fun v3=>if v3=true then(R.bind (R.bind (br 0 env) fun v8=>R.bind (R.ok (D.int 13)) fun v9=>R.of (mH v8 v9)) fun v6=>R.bind (R.ok (D.int 5)) fun v7=>R.bind (R.of (CC v6 v7)) mr)else R.ok false) fun v2=>if v2=true then(R.bind (R.ok (D.int 1)) fun v10=>R.ok (Out.rt v10))else(R.ok (Out.nx env))) fun v1=>
 (aX (R.bind (R.bind (R.bind (R.ok (D.int 2)) fun gI=>R.bind (R.bind (br 1 v1) fun kY=>R.bind (R.ok []) fun lL=>R.ok (kY::lL)) fun kc=>R.ok (gI::kc)) fun jj=>R.of (D9 jj)) fun jT=>R.ok (Out.nx (List.set v1 1 (Sl.val jT)))) fun v11=>
 (R.bind (R.bind (br 1 v11) fun oy=>R.bind (R.bind (R.bind (br 0 v11) fun uj=>R.bind (R.ok (D.int 13)) fun vz=>R.of (ud uj vz)) fun qv=>R.bind (R.bind (R.bind (br 2 v11) fun yF=>R.bind (br 1 v11) fun Dg=>R.of (mG yF Dg)) fun yG=>R.bind (R.ok (D.int 1)) fun Aa=>R.of (kD yG Aa)) fun oA=>R.of (mH qv oA)) fun v20=>R.of (kD oy v20)) fun mR=>R.ok (Out.rt mR))))
def eY:=mS 3 3 oV
def nM(env:DE):R Out:=
 (aX (R.bind (R.bind (R.ok (D.int 1)) fun v3=>R.bind (R.bind (br 0 env) fun v5=>R.bind (R.bind (br 1 env) fun v7=>R.bind (R.ok (D.int 1)) fun v8=>R.of (mG v7 v8)) fun v6=>R.of (mH v5 v6)) fun v4=>R.of (kD v3 v4)) fun v2=>R.ok (Out.nx (List.set env 2 (Sl.val v2)))) fun v1=>
 (aX (R.bind (R.bind (R.bind (R.bind (br 0 v1) fun kc=>R.bind (R.ok (D.int 8)) fun kY=>R.of (ud kc kY)) fun jj=>R.bind (R.ok (D.int 2)) fun gI=>R.of (mH jj gI)) fun v11=>R.bind (R.ok (D.int 1)) fun jT=>R.bind (R.of (CC v11 jT)) mr) fun v10=>if v10=true then(R.bind (R.bind (br 2 v1) fun mR=>R.of (ue mR)) fun lL=>R.ok (Out.rt lL))else(R.ok (Out.nx v1))) fun v9=>
 (R.bind (ck 2 v9) fun oy=>R.ok (Out.rt oy))))
def dH:=mS 2 3 nM
def rQ(env:DE):R Out:=
 (aX (R.bind (R.bind (R.bind (br 0 env) fun v3=>R.bind (R.bind (br 1 env) fun v5=>R.bind (R.ok []) fun v6=>R.ok (v5::v6)) fun v4=>R.ok (v3::v4)) dH) fun v2=>R.ok (Out.nx (List.set env 2 (Sl.val v2)))) fun v1=>
 (aX (R.bind (R.bind (R.bind (R.bind (R.bind (br 0 v1) fun gI=>R.bind (R.ok (D.int 16)) fun kc=>R.of (ud gI kc)) fun jT=>R.bind (R.ok (D.int 4)) fun jj=>R.of (mH jT jj)) fun v10=>R.bind (R.ok (D.int 0)) fun v11=>R.bind (R.of (Gg v10 v11)) mr) fun v9=>if v9=true then R.ok true else(R.bind (br 1 v1) fun kY=>R.bind (R.ok (D.int 3)) fun lL=>R.bind (R.of (Oi kY lL)) mr)) fun v8=>if v8=true then(R.bind (R.bind (R.bind (R.bind (ck 2 v1) fun v20=>R.bind (R.ok []) fun qv=>R.ok (v20::qv)) fit) fun oy=>R.ok (D.lst oy)) fun mR=>R.ok (Out.rt mR))else(R.ok (Out.nx v1))) fun v7=>
 (aX (R.bind (R.bind (R.bind (R.bind (R.bind (R.bind (R.bind (br 2 v7) fun R3=>R.bind (R.ok (D.int 1)) fun JD=>R.of (kD R3 JD)) fun GJ=>R.bind (R.ok []) fun v30=>R.ok (GJ::v30)) fun Dg=>R.of (Gn Dg)) fun Aa=>R.bind (br 1 v7) fun yF=>R.bind (R.of (Oi Aa yF)) mr) fun yG=>if yG=true then(R.bind (R.bind (br 2 v7) fun Pz=>R.bind (R.ok (D.int 1)) fun MS=>R.of (kD Pz MS)) fun MT=>R.bind (R.ok (D.int 0)) fun Hs=>R.bind (R.of (Hm MT Hs)) mr)else R.ok false) fun vz=>if vz=true then(R.bind (br 2 v7) fun MU=>R.bind (R.ok (D.int 1)) fun MV=>R.of (kD MU MV))else(R.bind (br 2 v7) fun MX=>R.bind (R.ok (D.int 1)) fun Ll=>R.of (mG MX Ll))) fun uj=>R.ok (Out.nx (List.set v7 3 (Sl.val uj)))) fun oA=>
 (R.bind (R.bind (R.bind (R.bind (R.bind (R.bind (R.bind (ck 2 oA) fun R4=>R.bind (R.bind (ck 3 oA) fun We=>R.bind (R.bind (ck 2 oA) fun R5=>R.bind (R.ok []) fun TV=>R.ok (R5::TV)) fun Wf=>R.ok (We::Wf)) fun Wg=>R.ok (R4::Wg)) fit) fun R6=>R.ok (D.lst R6)) fun Ln=>R.bind (R.bind (R.bind (R.bind (R.bind (ck 2 oA) fun Wh=>R.bind (R.bind (ck 3 oA) fun Wi=>R.bind (R.ok []) fun Wj=>R.ok (Wi::Wj)) fun MY=>R.ok (Wh::MY)) fit) fun v55=>R.ok (D.lst v55)) fun Wk=>R.bind (R.bind (R.bind (R.bind (R.bind (ck 2 oA) fun Wl=>R.bind (R.bind (ck 2 oA) fun Wm=>R.bind (R.ok []) fun Wn=>R.ok (Wm::Wn)) fun Wo=>R.ok (Wl::Wo)) fit) fun Wq=>R.ok (D.lst Wq)) fun Wr=>R.bind (R.bind (R.bind (R.bind (R.bind (ck 2 oA) fun Ws=>R.bind (R.bind (R.bind (br 3 oA) fun Wt=>R.of (ue Wt)) fun Wu=>R.bind (R.bind (ck 2 oA) fun v75=>R.bind (R.ok []) fun X9=>R.ok (v75::X9)) fun Wv=>R.ok (Wu::Wv)) fun Ww=>R.ok (Ws::Ww)) fit) fun TX=>R.ok (D.lst TX)) fun Wx=>R.bind (R.ok []) fun Wy=>R.ok (Wx::Wy)) fun PD=>R.ok (Wr::PD)) fun v54=>R.ok (Wk::v54)) fun R7=>R.ok (Ln::R7)) fit) fun MZ=>R.bind (R.bind (R.bind (br 0 oA) fun v79=>R.bind (R.ok (D.int 64)) fun v80=>R.of (ud v79 v80)) fun v77=>R.bind (R.ok (D.int 4)) fun v78=>R.of (mH v77 v78)) fun M0=>zP MZ M0) fun M4=>R.ok (Out.rt M4)))))
def gS:=mD 2 4 rQ
def jm(d:D)(env:DE):R Out:=
 R.bind ((bT 2 (qt (bN 4) (qt (bN 5) Gu))) d env) fun v8=>
  (R.bind (R.bind (br 1 v8) fun v10=>R.bind (R.ok (D.int 1)) fun v11=>R.bind (R.of (Gg v10 v11)) mr) fun v9=>if v9=true then(R.bind (R.bind (R.bind (tQ 3 v8) fun gI=>R.bind (R.bind (R.bind (R.bind (R.bind (R.bind (br 5 v8) fun mR=>R.bind (R.bind (br 4 v8) fun v20=>R.bind (R.bind (R.ok (D.int 48271)) fun oA=>R.bind (R.ok []) fun uj=>R.ok (oA::uj)) fun qv=>R.ok (v20::qv)) fun oy=>R.ok (mR::oy)) jU) fun kY=>R.bind (R.bind (ck 1 v8) fun vz=>R.bind (R.ok []) fun yG=>R.ok (vz::yG)) fun lL=>R.ok (kY::lL)) gS) uU) fun kc=>fit (gI++kc)) fun jj=>R.ok (D.lst jj)) fun jT=>R.ok (Out.nx (List.set v8 3 (Sl.val jT))))else(R.ok (Out.nx v8)))
def rR(env:DE):R Out:=
 (aX (R.bind (R.bind (R.bind (R.ok []) fit) fun v3=>R.ok (D.lst v3)) fun v2=>R.ok (Out.nx (List.set env 3 (Sl.val v2)))) fun v1=>
 (aX (R.bind (R.bind (ck 0 v1) fun Aa=>R.bind (uU Aa) fun xs=>R.ok (jf xs)) fun v5=>fq jm v5 v1) fun v4=>
 (R.bind (R.bind (tQ 3 v4) fun Dg=>R.bind (R.ok none) fun GJ=>R.bind (R.bind (br 2 v4) Q8) fun v30=>R.ok (cut Dg GJ v30)) fun yF=>R.ok (Out.oH yF))))
def gU:=cU 3 6 rR
def JE(c k f:Int):Int:=(c%1000003*7+k*k+1)*f%2147483647/16
theorem R8(c k f:Int)(hk:0<=k/\k<1000000)(hf:0<=f/\f<2147483647):jU [.int c,.int k,.int f]=.ok (.int (JE c k f)):=by
 have h1:=emod_nonneg c (show(1000003:Int)≠0 by decide)
 have h2:=emod_lt_of_pos c (show(0:Int)<1000003 by decide)
 unfold jU xf
 simp -implicitDefEqProofs only [mS,mD,mF,cU,au,reduceAdd,reduceSub,reduceEqDiff,reduceIte,ai,aj,aG,aH,aI,aJ]
 rw[gQ c 1000003 (by decide)]
 simp -implicitDefEqProofs only [R.kq,R.aM]
 rw[C1 _ 7 (.inr (by decide))]
 simp -implicitDefEqProofs only [R.kq,R.aM]
 rw[C1 k k (.inl (by omega))]
 simp -implicitDefEqProofs only [R.kq,R.aM,zV]
 rw[C1 _ f (.inr (by omega))]
 simp -implicitDefEqProofs only [R.kq,R.aM]
 rw[gQ _ 2147483647 (by decide)]
 simp -implicitDefEqProofs only [R.kq,R.aM]
 rw[oO _ 16 (by decide)]
 rfl
def lM(s:Int):Int:=if s%13=5 then 1 else 2+s/13%6
theorem Dh(s:Int):eY [.int s,.int 1,.int 7]=.ok (.int (lM s)):=by
 unfold eY oV lM
 simp -implicitDefEqProofs only [mS,mD,mF,cU,au,reduceAdd,reduceSub,reduceEqDiff,reduceIte,ai,aj,aG,aH,aI,aJ]
 rw[gQ s 13 (by decide)]
 simp -implicitDefEqProofs only [reduceIte,ai,aj,aG,aH,aI,aJ,beq_self_eq_true]
 by_cases h:s%13=5
 ·simp -implicitDefEqProofs only [h,beq_self_eq_true,reduceIte,ai,aj,aG,aH,aI,aJ]
 ·have h':(s%13==5)=false:=beq_false_of_ne h
  simp -implicitDefEqProofs only [h',h,reduceIte,ai,aj,aG,aH,aI,aJ]
  rw[oO s 13 (by decide)]
  simp -implicitDefEqProofs only [reduceIte,ai,aj,aG,aH,aI,aJ]
  rw[gQ _ _ (by decide)]
  rfl
theorem Bx(s:Int):1<=lM s/\lM s<=7:=by
 unfold lM
 split<;>omega
def dR(x n:Int):Int:=if x/8%2=1 then-(1+x%(n-1))else 1+x%(n-1)
theorem JF(x n:Int)(h:2<=n):dH [.int x,.int n]=.ok (.int (dR x n)):=by
 unfold dH nM dR
 simp -implicitDefEqProofs only [mS,mD,mF,cU,au,reduceAdd,reduceSub,reduceEqDiff,reduceIte,ai,aj,aG,aH,aI,aJ]
 rw[gQ x (n-1) (by omega)]
 simp -implicitDefEqProofs only [reduceIte,ai,aj,aG,aH,aI,aJ]
 rw[oO x 8 (by decide)]
 simp -implicitDefEqProofs only [reduceIte,ai,aj,aG,aH,aI,aJ]
 rw[gQ _ 2 (by decide)]
 simp -implicitDefEqProofs only [reduceIte,ai,aj,aG,aH,aI,aJ]
 by_cases hc:x/8%2=1
 ·simp -implicitDefEqProofs only [hc,beq_self_eq_true,reduceIte,ai,aj,aG,aH,aI,aJ]
 ·have Hu:(x/8%2==1)=false:=beq_false_of_ne hc
  simp -implicitDefEqProofs only [hc,Hu,reduceIte,ai,aj,aG,aH,aI,aJ]
def rS(n k:Int):Prop:=k≠0/\ -n<k/\k<n
theorem JG(x n:Int)(h:2<=n):rS n (dR x n):=by
 unfold dR rS
 have h1:=emod_nonneg x (show n-1≠0 by omega)
 have h2:=emod_lt_of_pos x (show 0<n-1 by omega)
 split<;>omega
def uk(k n:Int):Int:=if(if k+1<0 then-(k+1)else k+1)<n/\k+1≠0 then k+1 else k-1
def oW(x n:Int):List Int:=
 if x/16%4>0\/n<3 then[dR x n]else
  let k:=dR x n
  let o:=uk k n
  if x/64%4=0 then[k,o,k]else if x/64%4=1 then[k,o]else if x/64%4=2 then[k,k]else[k,-o,k]
theorem JH{k n:Int}(h:3<=n)(hk:rS n k):rS n (uk k n):=by
 unfold uk rS at*
 split<;>split at* <;>omega
theorem JI{x n:Int}(h:2<=n):∀k∈oW x n,rS n k:=by
 have h1:=JG x n h
 unfold oW
 split
 ·simp[h1]
 ·rename_i hc
  have h2:=JH (n:=n) (by omega) h1
  have h3:rS n (-uk (dR x n) n):=by unfold rS at*;omega
  dsimp only
  split
  ·simp[h1,h2]
  ·split
   ·simp[h1,h2]
   ·split<;>simp[h1,h3]
theorem ze(x n:Int):(oW x n).length<=3:=by
 unfold oW
 split
 ·simp
 ·dsimp only
  split
  ·simp
  ·split
   ·simp
   ·split<;>simp
theorem JJ(x n:Int)(h:2<=n):gS [.int x,.int n]=.ok (.lst (aO (oW x n))):=by
 unfold gS rQ oW
 simp -implicitDefEqProofs only [mS,mD,mF,cU,au,reduceAdd,reduceSub,reduceEqDiff,reduceIte,ai,aj,aG,aH,aI,aJ]
 rw[JF x n h]
 simp -implicitDefEqProofs only [reduceIte,ai,aj,aG,aH,aI,aJ]
 rw[oO x 16 (by decide)]
 simp -implicitDefEqProofs only [reduceIte,ai,aj,aG,aH,aI,aJ]
 rw[gQ _ 4 (by decide)]
 simp -implicitDefEqProofs only [reduceIte,ai,aj,aG,aH,aI,aJ]
 by_cases h1:0<x/16%4
 ·have En:x/16%4>0\/n<3:=.inl h1
  rw[if_pos En]
  simp -implicitDefEqProofs only [h1,decide_true,reduceIte,ai,aj,aG,aH,aI,aJ]
  rfl
 ·by_cases h2:n<3
  ·have En:x/16%4>0\/n<3:=.inr h2
   rw[if_pos En]
   simp -implicitDefEqProofs only [h1,h2,decide_true,decide_false,reduceIte,ai,aj,aG,aH,aI,aJ]
   rfl
  ·have En:¬(x/16%4>0\/n<3):=by omega
   rw[if_neg En]
   simp -implicitDefEqProofs only [h1,h2,decide_false,reduceIte,ai,aj,aG,aH,aI,aJ]
   have ho:(R.bind (if decide ((if dR x n+1<0 then-(dR x n+1)else dR x n+1)<n)=true then R.ok (!(dR x n+1==0))else R.ok false) fun t=>if t=true then R.ok (D.int (dR x n+1))else R.ok (D.int (dR x n-1)))=R.ok (D.int (uk (dR x n) n)):=by
    unfold uk
    by_cases c1:(if dR x n+1<0 then-(dR x n+1)else dR x n+1)<n
    ·by_cases c2:dR x n+1=0
     ·simp[c1,c2,R.aM]
     ·simp[c1,c2,R.aM]
    ·simp[c1,R.aM]
   rw[ho]
   simp -implicitDefEqProofs only [reduceIte,ai,aj,aG,aH,aI,aJ]
   rw[oO x 64 (by decide)]
   simp -implicitDefEqProofs only [reduceIte,ai,aj,aG,aH,aI,aJ]
   rw[gQ _ 4 (by decide)]
   simp -implicitDefEqProofs only [reduceIte,ai,aj,aG,aH,aI,aJ]
   have h5:=emod_nonneg (x/64) (show(4:Int)≠0 by decide)
   have h6:=emod_lt_of_pos (x/64) (show(0:Int)<4 by decide)
   have h7:x/64%4=0\/x/64%4=1\/x/64%4=2\/x/64%4=3:=by omega
   rcases h7 with q|q|q|q<;>simp[q,L2.iN,L2.qZ,R.kq,R.aM,R.Iz,ai,aO]
def oB(n:Int)(cells:List Int)(i:Nat):List Int:=((range i).map fun k=>match cells[k]? with
 |some c=>oW (JE c k 48271) n
 |none=>[]).flatten
theorem JK{n:Int}{cells:List Int}{i:Nat}{c:Int}(h:cells[i]?=some c):oB n cells (i+1)=oB n cells i++oW (JE c i 48271) n:=by
 unfold oB
 rw[range_succ,map_append,flatten_append]
 simp[h]
theorem Ew(n:Int)(cells:List Int):∀i:Nat,(oB n cells i).length<=3*i
 |0=>by simp[oB]
 |i+1=>by
  unfold oB
  rw[range_succ,map_append,flatten_append,length_append]
  have ih:=Ew n cells i
  unfold oB at ih
  cases h:cells[i]? with
  |none=>simp -implicitDefEqProofs only [h,map_cons,map_nil,flatten_cons,flatten_nil,length_append,length_nil];omega
  |some c=>
   have:=ze (JE c i 48271) n
   simp -implicitDefEqProofs only [h,map_cons,map_nil,flatten_cons,flatten_nil,length_append,length_nil];omega
theorem R9{n:Int}(hn:2<=n)(cells:List Int)(i:Nat):∀k∈oB n cells i,rS n k:=by
 intro k hk
 unfold oB at hk
 rw[List.mem_flatten]at hk
 obtain⟨l,hl,hk⟩:=hk
 rw[mem_map]at hl
 obtain⟨j,_,rfl⟩:=hl
 cases h:cells[j]? with
 |none=>rw[h]at hk;cases hk
 |some c=>rw[h]at hk;exact JI hn k hk
def um(cells:List Int)(n most:Int):List Int:=(if 1<n then oB n cells cells.length else[]).take most.toNat
theorem JL{cells:List Int}{n most:Int}:∀k∈um cells n most,rS n k:=by
 intro k hk
 unfold um at hk
 have:=mem_of_mem_take hk
 split at this
 ·exact R9 (by omega) _ _ k this
 ·cases this
theorem Di(cells:List Int)(n most:Int):(um cells n most).length<=most.toNat:=by
 unfold um
 rw[length_take]
 omega
theorem JM(cells:List Int)(n most:Int)(hc:cells.length<=1000)(hn:1<=n)(hm:0<=most):gU [.lst (aO cells),.int n,.int most]=.ok (aO (um cells n most)):=by
 unfold gU rR
 simp -implicitDefEqProofs only [mS,mD,mF,cU,au,reduceAdd,reduceSub,reduceEqDiff,reduceIte,ai,aj,aG,aH,aI,aJ]
 obtain⟨s',e,hj⟩:=oQ (S:=List Int×Sl×Sl) (b:=jm)
  (fun i s=>s.1=if 1<n then oB n cells i else[]) (fun s=>[.val (.lst (aO cells)),.val (.int n),.val (.int most),.val (.lst (aO s.1)),s.2.1,s.2.2]) (jf (aO cells)) 0 ([],.no,.no) (by simp[oB]) (by
   rintro j ⟨wd,s4,s5⟩ x hs hx
   obtain⟨c,hcj,rfl⟩:=zc hx
   have hj:j<cells.length:=(List.getElem?_eq_some_iff.mp hcj).1
   rw[zero_add]at hs⊢
   have GK:wd=if 1<n then oB n cells j else[]:=hs
   unfold jm
   simp -implicitDefEqProofs only [Z2,reduceIte,ai,aj,aG,aH,aI,aJ]
   by_cases h1:1<n
   ·rw[if_pos h1]at GK
    subst GK
    have hl:=Ew n cells j
    have hl2:=ze (JE c j 48271) n
    refine⟨(oB n cells (j+1),.val (.int (j:Nat)),.val (.int c)),?_,by simp[h1]⟩
    simp -implicitDefEqProofs only [h1,decide_true,reduceIte,ai,aj,aG,aH,aI,aJ]
    rw[R8 c j 48271 (by omega) (by decide)]
    simp -implicitDefEqProofs only [reduceIte,ai,aj,aG,aH,aI,aJ]
    rw[JJ _ n (by omega)]
    simp -implicitDefEqProofs only [reduceIte,ai,aj,aG,aH,aI,aJ,vR]
    rw[iQ (by rw[length_append];omega)]
    simp -implicitDefEqProofs only [reduceIte,ai,aj,aG,aH,aI,aJ,JK hcj]
   ·rw[if_neg h1]at GK
    subst GK
    exact⟨([],.val (.int (j:Nat)),.val (.int c)),by simp -implicitDefEqProofs only [h1,decide_false,reduceIte,ai,aj,aG,aH,aI,aJ],by simp[h1]⟩)
 obtain⟨wd,s4,s5⟩:=s'
 have Dj:wd=if 1<n then oB n cells (0+(jf (aO cells)).length)else[]:=hj
 have he:(jf (aO cells)).length=cells.length:=by rw[Gw,cJ]
 rw[zero_add,he]at Dj
 rw[show aO []=[]from rfl]at e
 rw[e]
 simp -implicitDefEqProofs only [reduceIte,ai,aj,aG,aH,aI,aJ,zW]
 rw[C6 _ _ hm,jy]
 simp -implicitDefEqProofs only [reduceIte,ai,aj,aG,aH,aI,aJ,Dj]
 rfl
theorem Ey{w:List Int}{j:Nat}{x:D}(h:(aO w)[j]?=some x):∃k,w[j]?=some k/\x=.int k:=by
 rw[Mx]at h
 cases q:w[j]? with
 |none=>rw[q]at h;cases h
 |some k=>rw[q]at h;cases h;exact⟨k,rfl,rfl⟩
theorem xg{α:Type}{w:List α}{j:Nat}{k:α}(h:w[j]?=some k):w.take (j+1)=w.take j++[k]:=by
 rw[take_succ,h];rfl
theorem Wz(ns:List Int):∃c,(ns++[0])[0]?=some c:=by cases ns<;>simp
theorem WA{K:PySem.W.Frag}{H:Hp}{a:Addr}{m:List D->R D}{ns:List Int}(h:m [.lst (aO ns)]=.ok (.bl true))(hS:cV K H a (ns.map V.int)):Ea K Ho m [.ref a] H (fun v _=>v=.bl true) fun _ _ _=>False:=by
 refine⟨Tr,[.lst (aO ns)],IsL.one ⟨a,_,rfl,vq.any hS,?_⟩,?_⟩
 ·clear h hS
  induction ns with
  |nil=>rfl
  |cons x r ih=>exact⟨_,_,rfl,rfl,ih⟩
 ·rw[h]
  intro v H' _ i
  exact i
def tl(x:Str):List Nat:=x.cps.toList
def ofT(l:List Nat):Str:=⟨l.toArray⟩
theorem nN(l:List Nat):tl (ofT l)=l:=by unfold tl ofT;rfl
theorem xh{a b:Str}(h:tl a=tl b):a=b:=by
 cases a with
 |mk a=>
  cases b with
  |mk b=>
   have h':a.toList=b.toList:=h
   rw[Array.toList_inj.mp h']
theorem Ez(x:Str):ofT (tl x)=x:=xh (nN _)
theorem Sd{x:Str}{l:List Nat}(h:tl x=l):x=ofT l:=by rw[<-h,Ez]
theorem bV(a b:Str):tl (a++b)=tl a++tl b:=by
 show(a.cps++b.cps).toList=a.cps.toList++b.cps.toList
 exact Array.toList_append
theorem bz(a:Str):(tl a).length=a.length:=by unfold tl Str.length;exact length_toList
theorem Dk:tl ("":Str)=[]:=rfl
def tU(c:Nat):List Nat->List (List Nat)
 |[]=>[[]]
 |x::r=>if x=c then[]::tU c r else match tU c r with
  |[]=>[[x]]
  |h::t=>(x::h)::t
def jn(c:Nat):List (List Nat)->List Nat
 |[]=>[]
 |[p]=>p
 |p::q::r=>p++c::jn c (q::r)
theorem xj(c:Nat):∀ps:List Str,tl (Str.join ⟨#[c]⟩ ps)=jn c (ps.map tl)
 |[]=>rfl
 |[p]=>rfl
 |p::q::r=>by
  show tl (p++⟨#[c]⟩++Str.join ⟨#[c]⟩ (q::r))=tl p++c::jn c ((q::r).map tl)
  rw[bV,bV,xj c (q::r),List.append_assoc]
  rfl
theorem xm(c:Nat):∀p:List Nat,c∉p->tU c p=[p]
 |[],_=>rfl
 |x::p,h=>by
  have h1:¬x=c:=fun z=>h (by rw[z];exact mem_cons_self)
  have h2:=xm c p fun z=>h (mem_cons_of_mem _ z)
  unfold tU
  rw[if_neg h1,h2]
theorem Ab(c:Nat)(l:List Nat):∀p:List Nat,c∉p->tU c (p++c::l)=p::tU c l
 |[],_=>by
  show tU c (c::l)=_
  conv=>lhs;unfold tU
  rw[if_pos rfl]
 |x::p,h=>by
  have h1:¬x=c:=fun z=>h (by rw[z];exact mem_cons_self)
  have h2:=Ab c l p fun z=>h (mem_cons_of_mem _ z)
  show tU c (x::(p++c::l))=_
  conv=>lhs;unfold tU
  rw[if_neg h1,h2]
theorem JN(c:Nat):∀ps:List (List Nat),ps≠[]->(∀p∈ps,c∉p)->tU c (jn c ps)=ps
 |[],h,_=>(h rfl).elim
 |[p],_,h=>xm c p (h p (by simp))
 |p::q::r,_,h=>by
  show tU c (p++c::jn c (q::r))=_
  rw[Ab c _ p (h p (by simp)),JN c (q::r) (by simp) fun x hx=>h x (mem_cons_of_mem _ hx)]
theorem JO(x y:Str):Txt.split x y≠[]:=by
 unfold Txt.split
 split
 ·simp
 ·split
  ·simp
  ·rw[StrLaws.partsBetween_eq]
   obtain⟨p,r,e⟩:=StrLaws.partsFrom_ne x y.length 0 (PySem.Builtin.Str.occurrences x y 0 x.length (x.length+1))
   rw[e]
   simp
theorem JP(x:Str)(c:Nat):(Txt.split x ⟨#[c]⟩).map tl=tU c (tl x):=by
 have h1:=StrLaws.join_split x ⟨#[c]⟩
 have h2:=StrLaws.split_free x c
 conv=>rhs;rw[<-h1]
 rw[xj,JN]
 ·intro z
  exact JO x ⟨#[c]⟩ (List.map_eq_nil_iff.mp z)
 ·intro p hp
  obtain⟨q,hq,rfl⟩:=mem_map.mp hp
  exact h2 q hq
theorem By(x:Str)(c:Nat):Txt.split x ⟨#[c]⟩=(tU c (tl x)).map ofT:=by
 rw[<-JP,map_map]
 conv=>lhs;rw[<-map_id (Txt.split x ⟨#[c]⟩)]
 exact map_congr_left fun y _=>(Ez y).symm
theorem vV(c:Nat):∀l:List Nat,(tU c l).length<=l.length+1
 |[]=>by simp[tU]
 |x::l=>by
  have ih:=vV c l
  unfold tU
  split
  ·rw[length_cons,length_cons];omega
  ·split
   ·simp
   ·rename_i e
    rw[e]at ih
    rw[length_cons]at ih
    rw[length_cons,length_cons];omega
theorem Dl(x:Str)(i j:Nat):tl (PySem.Builtin.Str.strSub x i j)=((tl x).drop i).take (j-i):=StrLaws.strSub_toList x i j
theorem M5(x:Str)(c:Nat){p r:List Nat}(h:tl x=p++c::r)(hp:c∉p):Txt.partition x ⟨#[c]⟩=(ofT p,⟨#[c]⟩,ofT r):=by
 have hget:∀i:Nat,StrLaws.At x ⟨#[c]⟩ x.length i↔(tl x)[i]?=some c:=fun i=>StrLaws.subAt_one x c i
 have hlen:(tl x).length=p.length+1+r.length:=by rw[h,length_append,length_cons];omega
 unfold Txt.partition
 rcases StrLaws.occ_head x ⟨#[c]⟩ 1 (le_refl 1)with⟨_,h2⟩|⟨i,q,h1,h2,h3⟩
 ·exact(h2 p.length ((hget _).mpr (by rw[h];simp))).elim
 ·rw[h1]
  have hi:i=p.length:=by
   have a1:=(hget i).mp h2
   by_cases hlt:i<p.length
   ·rw[h,getElem?_append_left hlt]at a1
    exact(hp (mem_of_getElem? a1)).elim
   ·by_cases Vz:p.length<i
    ·exact(h3 _ Vz ((hget _).mpr (by rw[h];simp))).elim
    ·omega
  subst hi
  refine Prod.ext (xh ?_) (Prod.ext rfl (xh ?_))
  ·show tl (PySem.Builtin.Str.strSub x 0 p.length)=_
   rw[Dl,nN,h,drop_zero,Nat.sub_zero,List.take_left']
   rfl
  ·show tl (PySem.Builtin.Str.strSub x (p.length+1) x.length)=_
   rw[Dl,nN,<-bz x,hlen,h,show p++c::r=(p++[c])++r by simp,List.drop_left' (by simp),take_of_length_le (by omega)]
theorem GO(x:Str)(c:Nat)(h:c∉tl x):Txt.partition x ⟨#[c]⟩=(x,Str.empty,Str.empty):=by
 have hget:∀i:Nat,StrLaws.At x ⟨#[c]⟩ x.length i↔(tl x)[i]?=some c:=fun i=>StrLaws.subAt_one x c i
 unfold Txt.partition
 rcases StrLaws.occ_head x ⟨#[c]⟩ 1 (le_refl 1)with⟨h1,h2⟩|⟨i,q,h1,h2,h3⟩
 ·rw[h1]
 ·exact(h (mem_of_getElem? ((hget i).mp h2))).elim
theorem GQ(x:Str)(c:Nat):Txt.startswith x ⟨#[c]⟩=decide ((tl x)[0]?=some c):=by
 have:=StrLaws.subAt_one x c 0
 unfold Txt.startswith
 rw[Bool.eq_iff_iff,and_eq_true,decide_eq_true_eq,decide_eq_true_eq]
 exact this
def gV(c:Nat):List Nat->List Nat
 |[]=>[]
 |x::r=>if x=c then gV c r else x::r
def Lo(c:Nat)(l:List Nat):List Nat:=(gV c (gV c l).reverse).reverse
theorem xn(c:Nat)(g:Nat->Bool)(hg:∀x,g x=decide (x=c)):∀l:List Nat,l.drop (l.takeWhile g).length=gV c l
 |[]=>rfl
 |x::l=>by
  unfold gV takeWhile
  rw[hg x]
  by_cases h:x=c
  ·rw[if_pos h,decide_eq_true h]
   show(x::l).drop ((l.takeWhile g).length+1)=_
   rw[List.drop_succ_cons,xn c g hg l]
  ·rw[if_neg h,decide_eq_false h]
   rfl
theorem JQ{m:List Nat}(t:Nat):m.take (m.length-t)=(m.reverse.drop t).reverse:=by
 rw[List.drop_reverse,List.reverse_reverse]
theorem rT(x:Str)(c:Nat):tl (Txt.stripChars x ⟨#[c]⟩)=Lo c (tl x):=by
 have hg:∀y,(#[c]:Array Nat).contains y=decide (y=c):=fun y=>by
  rw[Bool.eq_iff_iff]
  simp
 have hs:Txt.stripChars x ⟨#[c]⟩=stripped (#[c]:Array Nat).contains true true x:=by
  unfold Txt.stripChars Txt.stripBy
  split
  ·rename_i h
   unfold stripSame at h
   rw[and_eq_true,beq_iff_eq,beq_iff_eq]at h
   unfold stripped
   rw[h.2,h.1,StrLaws.sub_whole]
  ·rfl
 rw[hs]
 unfold stripped stripHi stripLo
 rw[if_pos rfl,if_pos rfl,Dl]
 have e1:(tl x).drop (takeWhile (#[c]:Array Nat).contains (tl x)).length=gV c (tl x):=xn c _ hg (tl x)
 show List.take (x.length-(takeWhile (#[c]:Array Nat).contains (drop (takeWhile (#[c]:Array Nat).contains (tl x)).length (tl x)).reverse).length-(takeWhile (#[c]:Array Nat).contains (tl x)).length) (drop (takeWhile (#[c]:Array Nat).contains (tl x)).length (tl x))=_
 have e2:(gV c (tl x)).length=x.length-(takeWhile (#[c]:Array Nat).contains (tl x)).length:=by
  rw[<-e1,length_drop,bz]
 rw[e1]
 unfold Lo
 rw[<-xn c _ hg (gV c (tl x)).reverse,<-JQ,e2]
 congr 1
 omega
theorem uo(c:Nat)(m:List Nat):∀a:Nat,gV c (replicate a c++m)=gV c m
 |0=>rfl
 |a+1=>by
  rw[replicate_succ,cons_append]
  conv=>lhs;unfold gV
  rw[if_pos rfl,uo c m a]
theorem BA{c x:Nat}{r:List Nat}(h:x≠c):gV c (x::r)=x::r:=by
 unfold gV
 rw[if_neg h]
theorem M6(c:Nat)(a e:Nat)(m:List Nat){x y:Nat}{r q:List Nat}(h1:m=x::r)(h2:m=q++[y])(hx:x≠c)(hy:y≠c):Lo c (replicate a c++(m++replicate e c))=m:=by
 unfold Lo
 rw[uo]
 have e1:gV c (m++replicate e c)=m++replicate e c:=by rw[h1];exact BA hx
 rw[e1,List.reverse_append,List.reverse_replicate,uo,h2,List.reverse_append]
 show(gV c (y::q.reverse)).reverse=_
 rw[BA hy]
 simp
def yH(c:Nat)(l:List Nat):List (List Nat):=(tU c l).filter fun p=> !p.isEmpty
theorem PF(c:Nat)(l:List Nat):yH c (c::l)=yH c l:=by
 unfold yH
 conv=>lhs;unfold tU
 rw[if_pos rfl]
 rfl
theorem EA(c:Nat)(l:List Nat):∀a:Nat,yH c (replicate a c++l)=yH c l
 |0=>rfl
 |a+1=>by rw[replicate_succ,cons_append,PF,EA c l a]
theorem M7{c:Nat}{f:List Nat}(h:c∉f)(hf:f≠[]):yH c f=[f]:=by
 unfold yH
 rw[xm c f h]
 cases f with
 |nil=>exact(hf rfl).elim
 |cons x f=>rfl
theorem M8{c:Nat}{f l:List Nat}(h:c∉f)(hf:f≠[]):yH c (f++c::l)=f::yH c l:=by
 unfold yH
 rw[Ab c l f h]
 cases f with
 |nil=>exact(hf rfl).elim
 |cons x f=>rfl
theorem BC(a:Array Nat):∀(n:Nat)(acc:Array Nat),(foldl (fun x1 x2=>x1++x2) acc (replicate n a)).toList=acc.toList++(replicate n a.toList).flatten
 |0,acc=>by simp
 |n+1,acc=>by
  rw[replicate_succ,foldl_cons,BC a n,Array.toList_append,replicate_succ,flatten_cons,List.append_assoc]
theorem Se(x:Str)(n:Int):tl (lK x n)=(replicate n.toNat (tl x)).flatten:=by
 unfold lK
 split
 ·rw[show n.toNat=0 by omega];rfl
 ·split
  ·rename_i h1 h2
   rw[or_eq_true,beq_iff_eq,beq_iff_eq]at h2
   rcases h2 with h2|h2
   ·rw[h2]
    show tl x=[tl x].flatten
    simp
   ·have:tl x=[]:=List.length_eq_zero_iff.mp (by rw[bz];exact h2)
    rw[this]
    simp
  ·show(foldl (fun x1 x2=>x1++x2) #[] (replicate n.toNat x.cps)).toList=_
   rw[BC]
   rfl
theorem Ac(c:Nat)(n:Int):tl (lK ⟨#[c]⟩ n)=replicate n.toNat c:=by
 rw[Se]
 show(replicate n.toNat [c]).flatten=_
 induction n.toNat with
 |zero=>rfl
 |succ k ih=>rw[replicate_succ,flatten_cons,ih,replicate_succ];rfl
theorem BD:∀ps:List Str,tl (Str.join "" ps)=(ps.map tl).flatten
 |[]=>rfl
 |[p]=>by
  show tl p=[tl p].flatten
  simp
 |p::q::r=>by
  show tl (p++""++Str.join "" (q::r))=_
  rw[bV,bV,BD (q::r),Dk,append_nil]
  rfl
theorem xo(ps:List Str):tl (Txt.join "" ps)=(ps.map tl).flatten:=by
 unfold Txt.join
 rw[StrLaws.glued_eq_join,BD]
theorem xp(c:Nat)(ps:List Str):tl (Txt.join ⟨#[c]⟩ ps)=jn c (ps.map tl):=by
 unfold Txt.join
 rw[StrLaws.glued_eq_join,xj]
theorem blank:(" ":Str)=⟨#[32]⟩:=rfl
theorem colon:(":":Str)=⟨#[58]⟩:=rfl
theorem JR(a b:Str):(a==b)=decide (tl a=tl b):=by
 rw[Bool.eq_iff_iff,beq_iff_eq,decide_eq_true_eq]
 exact⟨fun h=>by rw[h],xh⟩
def bc:List (Str×Int):=[("0",0),("1",1),("2",2),("3",3),("4",4),("5",5),("6",6),("7",7),("8",8),("9",9)]
def qw(env:DE):R Out:=
 (R.bind (R.bind (R.bind (br 1 env) fun v3=>R.bind (R.ok (D.int 0)) fun v4=>R.of (Hm v3 v4)) fun v2=>R.bind (mr v2) fun t=>if t=true then(R.bind (R.bind (R.bind (br 1 env) fun v8=>R.bind (R.ok []) fun v9=>R.ok (v8::v9)) fun v7=>R.of (Gn v7)) fun v5=>R.bind (br 0 env) fun v6=>R.of (Oi v5 v6))else R.ok (D.bl false)) fun v1=>R.ok (Out.rt v1))
def fO:=mS 2 2 qw
def BE(env:DE):R Bool:=
 R.ok true
def BF(env:DE):R D:=
 (R.bind (br 0 env) fun v6=>R.of (ue v6))
def BG(env:DE):R Out:=
 (R.bind (R.bind (R.bind (ck 0 env) fun v7=>R.bind (uU v7) fun xs=>R.ok (reverse xs)) fun v2=>R.bind (eR env []) fun v3=>R.bind (R.ne (bh (bN 0) BE BF (eT 1 v3) v2)) fit) fun v1=>R.ok (Out.oH v1))
def oX:=cU 1 1 BG
def mU(d:D)(env:DE):R Out:=
 R.bind ((bN 2) d env) fun v7=>
  (R.bind (R.bind (R.bind (R.bind (R.bind (br 1 v7) fun jj=>R.bind (R.ok []) fun gI=>R.ok (jj::gI)) fun jT=>R.of (yA jT)) fun v10=>R.bind (R.ok (D.int 0)) fun v11=>R.bind (R.of (Gg v10 v11)) mr) fun v9=>if v9=true then(R.bind (R.bind (tQ 1 v7) fun lL=>R.bind (R.bind (R.ok (D.int 1)) fun oy=>R.of (ue oy)) fun mR=>zP lL mR) fun kc=>R.bind (R.bind (br 2 v7) fun v20=>R.of (ue v20)) fun kY=>R.bind (R.of (CC kc kY)) mr)else R.ok false) fun v8=>if v8=true then(R.bind (ownAt 1 v7) fun qv=>Rz 1 v7 qv)else(R.bind (ownAt 1 v7) fun oA=>R.bind (ck 2 v7) fun uj=>Mu 1 v7 oA uj))
def zf(env:DE):R Out:=
 (aX (R.bind (R.bind (R.ok []) fit) fun v2=>R.ok (Out.nx (List.set env 1 (Sl.own v2)))) fun v1=>
 (aX (R.bind (R.bind (ck 0 v1) uU) fun v4=>fq mU v4 v1) fun v3=>
 (R.bind (ownAt 1 v3) fun vz=>R.ok (Out.oH vz))))
def lN:=cU 1 3 zf
def xq(env:DE):R Out:=
 (R.bind (R.bind (R.bind (br 0 env) fun v2=>R.bind (R.ok []) fun v3=>R.ok (v2::v3)) rJ) fun v1=>R.ok (Out.oH v1))
def cW:=cU 1 1 xq
def JS(env:DE):R Out:=
 (R.bind (R.bind (R.bind (R.bind (br 0 env) fun v4=>R.bind (R.ok (D.int 1)) fun v5=>R.of (mG v4 v5)) fun v2=>R.bind (R.bind (R.bind (R.ok (D.int 1)) fun v8=>R.of (ue v8)) fun v6=>R.bind (R.bind (R.bind (R.ok (D.int 1)) fun v11=>R.of (ue v11)) fun v9=>R.bind (R.ok []) fun v10=>R.ok (v9::v10)) fun v7=>R.ok (v6::v7)) fun v3=>R.ok (v2::v3)) Jo) fun v1=>R.ok (Out.oH v1))
def xr:=cU 1 1 JS
def jV(d:D)(env:DE):R Out:=
 R.bind ((bT 2 (qt (bN 2) (qt (bN 3) Gu))) d env) fun gI=>
  (R.bind (ck 2 gI) fun kc=>R.bind (ownAt 1 gI) fun kY=>R.bind (br 3 gI) fun lL=>Bm 1 gI kc kY lL)
def uX(env:DE):R Out:=
 (aX (R.bind (R.bind (R.bind (R.bind (R.ok (D.int 0)) fun v5=>R.bind (R.ok []) fun v6=>R.ok (v5::v6)) fit) fun v3=>R.bind (R.bind (R.bind (br 0 env) fun v8=>R.bind (R.ok []) fun v9=>R.ok (v8::v9)) fun v7=>R.of (yA v7)) fun v4=>Mr v3 v4) fun v2=>R.ok (Out.nx (List.set env 1 (Sl.own v2)))) fun v1=>
 (aX (R.bind (R.bind (ck 0 v1) fun mR=>R.bind (uU mR) fun xs=>R.ok (jf xs)) fun v11=>fq jV v11 v1) fun v10=>
 (R.bind (ownAt 1 v10) fun oy=>R.ok (Out.oH oy))))
def bY:=cU 1 4 uX
def xt(env:DE):R Bool:=
 (R.bind (R.bind (tQ 1 env) fun v8=>R.bind (R.bind (br 0 env) fun v10=>R.bind (R.ok (D.int 1)) fun v11=>R.of (mG v10 v11)) fun v9=>zP v8 v9) fun v6=>R.bind (R.bind (tQ 1 env) fun jT=>R.bind (br 0 env) fun jj=>zP jT jj) fun v7=>R.bind (R.of (Gg v6 v7)) mr)
def xu(env:DE):R D:=
 (ck 0 env)
def EB(env:DE):R Out:=
 (R.bind (R.bind (R.bind (R.bind (R.ok (D.int 1)) fun gI=>R.bind (R.bind (R.bind (R.bind (br 0 env) fun oy=>R.bind (R.ok []) fun v20=>R.ok (oy::v20)) fun mR=>R.of (yA mR)) fun kY=>R.bind (R.ok []) fun lL=>R.ok (kY::lL)) fun kc=>R.ok (gI::kc)) Iu) fun v2=>R.bind (eR env [0]) fun v3=>R.bind (R.ne (bh (bN 0) xt xu (eT 1 v3) v2)) fit) fun v1=>R.ok (Out.oH v1))
def p4:=cU 1 1 EB
def gW(env:DE):R Out:=
 (R.bind (R.bind (R.bind (R.bind (tQ 0 env) fun v6=>R.bind (R.ok none) fun v7=>R.bind (R.bind (R.bind (br 1 env) fun v9=>R.bind (R.ok (D.int 1)) fun v10=>R.of (mG v9 v10)) Q8) fun v8=>R.ok (cut v6 v7 v8)) fun v4=>R.bind (R.bind (R.bind (R.bind (tQ 0 env) fun jj=>R.bind (br 1 env) fun gI=>zP jj gI) fun v11=>R.bind (R.bind (R.bind (tQ 0 env) fun lL=>R.bind (R.bind (br 1 env) fun oy=>R.bind (R.ok (D.int 1)) fun v20=>R.of (mG oy v20)) fun mR=>zP lL mR) fun kc=>R.bind (R.ok []) fun kY=>R.ok (kc::kY)) fun jT=>R.ok (v11::jT)) fit) fun v5=>fit (v4++v5)) fun v2=>R.bind (R.bind (tQ 0 env) fun qv=>R.bind (R.bind (R.bind (br 1 env) fun vz=>R.bind (R.ok (D.int 1)) fun yG=>R.of (kD vz yG)) Q8) fun oA=>R.bind (R.ok none) fun uj=>R.ok (cut qv oA uj)) fun v3=>fit (v2++v3)) fun v1=>R.ok (Out.oH v1))
def aP:=cU 2 2 gW
def uq(env:DE):R Bool:=
 R.ok true
def lP(env:DE):R D:=
 (R.bind (R.bind (R.bind (R.bind (br 1 env) fun v11=>R.bind (R.ok []) fun jT=>R.ok (v11::jT)) fun v10=>R.of (yA v10)) fun v8=>R.bind (R.ok (D.int 1)) fun v9=>R.of (mG v8 v9)) fun v6=>R.bind (br 0 env) fun v7=>R.of (mG v6 v7))
def qx(env:DE):R Out:=
 (R.bind (R.bind (R.bind (ck 0 env) fun jj=>R.bind (uU jj) fun xs=>R.ok (reverse xs)) fun v2=>R.bind (eR env [0]) fun v3=>R.bind (R.ne (bh (bN 0) uq lP (eT 1 v3) v2)) fit) fun v1=>R.ok (Out.oH v1))
def fQ:=cU 1 1 qx
def jA(d:D)(env:DE):R Out:=
 R.bind ((bN 2) d env) fun v7=>
  (R.bind (ck 1 v7) fun v8=>R.bind (R.bind (R.ok (D.int 1)) fun v10=>R.bind (R.bind (br 2 v7) fun jT=>R.bind (R.ok (D.int 1)) fun jj=>R.of (mG jT jj)) fun v11=>R.of (MP v10 v11)) fun v9=>Gv (fun i j=>PySem.Builtin.bitOr i j) 1 v7 v8 v9)
def zg(env:DE):R Out:=
 (aX (R.bind (R.ok (D.int 0)) fun v2=>R.ok (Out.nx (List.set env 1 (Sl.val v2)))) fun v1=>
 (aX (R.bind (R.bind (ck 0 v1) uU) fun v4=>fq jA v4 v1) fun v3=>
 (R.bind (ck 1 v3) fun gI=>R.ok (Out.rt gI))))
def lQ:=mS 1 3 zg
def qy(env:DE):R Out:=
 (aX (R.bind (R.bind (br 0 env) fun v3=>R.bind (cB v3) fun v4=>R.bind (R.ok (D.int 0)) fun v5=>R.bind (Bs v5) fun v6=>R.ok (D.int (getD (KTD.datumAt v4 bc) v6))) fun v2=>R.ok (Out.nx (List.set env 1 (Sl.val v2)))) fun v1=>
 (aX (R.bind (R.bind (br 1 v1) fun v9=>R.bind (R.ok (D.int 0)) fun v10=>R.bind (R.of (CC v9 v10)) mr) fun v8=>if v8=true then(R.err "BadText":R Out)else(R.ok (Out.nx v1))) fun v7=>
 (R.bind (ck 1 v7) fun v11=>R.ok (Out.rt v11))))
def cg:=nJ 1 2 qy
def yI:=fun ds=>R.ne (cg ds)
def fy(env:DE):R Bool:=
 R.ok true
def cL(env:DE):R D:=
 (R.bind (R.bind (br 0 env) fun jT=>R.bind (R.ok []) fun jj=>R.ok (jT::jj)) fun v11=>R.of (Eu v11))
def ur(env:DE):R Out:=
 (R.bind (R.bind (R.bind (R.ok (D.str " ")) fun v4=>R.bind (cB v4) fun v5=>R.bind (R.bind (R.bind (ck 0 env) uU) fun v7=>R.bind (eR env []) fun v8=>R.bind (R.ne (bh (bN 0) fy cL (eT 1 v8) v7)) fit) fun v6=>R.of (rO v5 v6)) fun v2=>R.bind (R.ok (D.str "\n")) fun v3=>R.of (dC v2 v3)) fun v1=>R.ok (Out.rt v1))
def gz:=mS 1 1 ur
def cM(d:D)(env:DE):R Out:=
 R.bind ((bN 2) d env) fun jT=>
  (R.bind (R.bind (R.bind (R.bind (R.bind (br 0 jT) fun kc=>R.bind (R.bind (br 2 jT) fun lL=>R.bind (R.ok []) fun mR=>R.ok (lL::mR)) fun kY=>R.ok (kc::kY)) fO) mr) fun gI=>R.ok (!gI)) fun jj=>if jj=true then(R.err "NoWord":R Out)else(R.ok (Out.nx jT)))
def zh(env:DE):R Out:=
 (aX (R.bind (R.bind (R.bind (br 0 env) fun v4=>R.bind (R.ok (D.int 1)) fun v5=>R.bind (R.of (Oi v4 v5)) mr) fun v3=>if v3=true then R.ok true else(R.bind (br 0 env) fun v6=>R.bind (R.ok (D.int 7)) fun v7=>R.bind (R.of (Gg v6 v7)) mr)) fun v2=>if v2=true then(R.err "NoWord":R Out)else(R.ok (Out.nx env))) fun v1=>
 (aX (R.bind (R.bind (ck 1 v1) uU) fun v9=>fq cM v9 v1) fun v8=>
 (R.bind (R.ok (D.bl true)) fun oy=>R.ok (Out.rt oy))))
def iz:=nJ 2 3 zh
def GR:=fun ds=>R.ne (iz ds)
def BH(env:DE):R Out:=
 (R.bind (R.bind (R.bind (R.bind (R.bind (R.bind (ck 0 env) fun v5=>R.bind (R.ok []) fun v6=>R.ok (v5::v6)) bY) fun v4=>R.ok (D.lst v4)) fun v2=>R.bind (R.ok []) fun v3=>R.ok (v2::v3)) p4) fun v1=>R.ok (Out.oH v1))
def rV:=cU 1 1 BH
def ig(env:DE):R Out:=
 (R.bind (R.bind (R.bind (R.bind (R.bind (R.bind (R.bind (R.bind (R.bind (ck 0 env) fun v8=>R.bind (R.ok []) fun v9=>R.ok (v8::v9)) bY) fun v7=>R.ok (D.lst v7)) fun v5=>R.bind (R.bind (ck 1 env) fun v10=>R.bind (R.ok []) fun v11=>R.ok (v10::v11)) fun v6=>R.ok (v5::v6)) aP) fun v4=>R.ok (D.lst v4)) fun v2=>R.bind (R.ok []) fun v3=>R.ok (v2::v3)) bY) fun v1=>R.ok (Out.oH v1))
def cy:=cU 2 2 ig
def kH(d:D)(env:DE):R Out:=
 R.bind ((bN 3) d env) fun v9=>
  (aX (R.bind (R.bind (br 3 v9) fun jT=>R.bind (R.ok (D.int 0)) fun jj=>R.bind (R.of (Oi jT jj)) mr) fun v11=>if v11=true then(R.bad:R Out)else(R.ok (Out.nx v9))) fun v10=>
 (aX (R.bind (R.bind (R.bind (tQ 2 v10) fun mR=>R.bind (R.bind (br 3 v10) fun v20=>R.bind (R.ok (D.int 1)) fun qv=>R.of (mG v20 qv)) fun oy=>zP mR oy) fun kY=>R.bind (R.bind (tQ 2 v10) fun oA=>R.bind (br 3 v10) fun uj=>zP oA uj) fun lL=>R.bind (R.of (Gg kY lL)) mr) fun kc=>if kc=true then(R.bad:R Out)else(R.ok (Out.nx v10))) fun gI=>
 (R.bind (R.bind (R.bind (br 2 gI) fun yG=>R.bind (R.bind (br 3 gI) fun yF=>R.bind (R.ok []) fun Dg=>R.ok (yF::Dg)) fun Aa=>R.ok (yG::Aa)) aP) fun vz=>R.ok (Out.nx (List.set gI 2 (Sl.own vz))))))
def BI(env:DE):R Out:=
 (aX (R.bind (R.bind (R.bind (ck 0 env) fun v3=>R.bind (R.ok []) fun v4=>R.ok (v3::v4)) cW) fun v2=>R.ok (Out.nx (List.set env 2 (Sl.own v2)))) fun v1=>
 (aX (R.bind (R.bind (ck 1 v1) uU) fun v6=>fq kH v6 v1) fun v5=>
 (R.bind (ownAt 2 v5) fun GJ=>R.ok (Out.oH GJ))))
def lR:=cU 2 4 BI
def Dm(env:DE):R Bool:=
 R.ok true
def xw(env:DE):R D:=
 (R.bind (R.bind (R.bind (R.bind (br 1 env) fun v11=>R.bind (R.ok []) fun jT=>R.ok (v11::jT)) fun v10=>R.of (yA v10)) fun v8=>R.bind (R.ok (D.int 1)) fun v9=>R.of (mG v8 v9)) fun v6=>R.bind (br 0 env) fun v7=>R.of (mG v6 v7))
def EC(env:DE):R Out:=
 (R.bind (R.bind (R.bind (R.bind (R.bind (R.bind (ck 0 env) fun gI=>R.bind (R.ok []) fun kc=>R.ok (gI::kc)) bY) fun jj=>R.ok (D.lst jj)) uU) fun v2=>R.bind (eR env [0]) fun v3=>R.bind (R.ne (bh (bN 0) Dm xw (eT 1 v3) v2)) fit) fun v1=>R.ok (Out.oH v1))
def rW:=cU 1 1 EC
def oY(d:D)(env:DE):R Out:=
 R.bind ((bN 5) d env) fun jj=>
  (aX (R.bind (R.bind (R.bind (br 5 jj) fun lL=>R.bind (R.ok []) fun mR=>R.ok (lL::mR)) fun kY=>R.of (Gn kY)) fun kc=>R.ok (Out.nx (List.set jj 6 (Sl.val kc)))) fun gI=>
 (aX (R.bind (R.bind (R.bind (R.bind (R.bind (br 2 gI) fun yG=>R.bind (R.ok []) fun Aa=>R.ok (yG::Aa)) fun vz=>R.of (yA vz)) fun oA=>R.bind (R.ok (D.int 0)) fun uj=>R.bind (R.of (CC oA uj)) mr) fun qv=>if qv=true then R.ok true else(R.bind (R.bind (br 4 gI) fun Dg=>R.bind (R.bind (br 5 gI) fun v30=>R.bind (R.ok (D.int 0)) fun R3=>R.of (Gg v30 R3)) fun GJ=>R.bind (R.of (Hm Dg GJ)) mr) fun yF=>if yF=true then R.ok true else(R.bind (R.bind (tQ 3 gI) fun Hs=>R.bind (R.bind (br 6 gI) fun MS=>R.bind (R.ok (D.int 1)) fun MU=>R.of (mG MS MU)) fun Pz=>zP Hs Pz) fun JD=>R.bind (R.bind (tQ 3 gI) fun MV=>R.bind (br 6 gI) fun MX=>zP MV MX) fun MT=>R.bind (R.of (Gg JD MT)) mr))) fun v20=>if v20=true then(aX (R.bind (gw 2 gI) fun M4=>R.bind (R.bind (R.ok []) fit) fun MZ=>R.bind (R.of (Hq MZ)) fun M0=>Jq 2 gI M4 M0) fun Ll=>
 (aX (R.bind (R.bind (R.bind (ck 0 Ll) fun R6=>R.bind (R.ok []) fun R4=>R.ok (R6::R4)) cW) fun R7=>R.ok (Out.nx (List.set Ll 3 (Sl.own R7)))) fun Ln=>
 (R.bind (R.bind (br 5 Ln) fun We=>R.bind (R.ok (D.int 0)) fun Wf=>R.of (Gg We Wf)) fun Wg=>R.ok (Out.nx (List.set Ln 4 (Sl.val Wg))))))else(R.ok (Out.nx gI))) fun oy=>
 (aX (R.bind (gw 2 oy) fun TV=>R.bind (R.bind (R.ok (D.int 1)) fun Wh=>R.of (ue Wh)) fun Wk=>R.bind (Br TV Wk) fun v54=>R.bind (br 5 oy) fun v55=>C8 2 oy TV v54 v55) fun R5=>
 (aX (R.bind (R.bind (tQ 3 R5) fun Wj=>R.bind (br 6 R5) fun Wr=>zP Wj Wr) fun Wi=>R.ok (Out.nx (List.set R5 7 (Sl.val Wi)))) fun MY=>
 (aX (R.bind (R.bind (tQ 3 MY) fun Wm=>R.bind (R.bind (br 6 MY) fun Wx=>R.bind (R.ok (D.int 1)) fun Wy=>R.of (mG Wx Wy)) fun Wn=>zP Wm Wn) fun Wq=>R.bind (ownAt 3 MY) fun Wl=>R.bind (br 6 MY) fun Wo=>Bm 3 MY Wq Wl Wo) fun PD=>
 (R.bind (ck 7 PD) fun TX=>R.bind (ownAt 3 PD) fun Ws=>R.bind (R.bind (br 6 PD) fun Wu=>R.bind (R.ok (D.int 1)) fun Wv=>R.of (mG Wu Wv)) fun Ww=>Bm 3 PD TX Ws Ww))))))
def PH(env:DE):R Out:=
 (aX (R.bind (R.ok ([]:List (List Int))) fun v2=>(R.bind (fit v2) fun y=>R.ok (Out.nx (List.set env 2 (Sl.deep (Ct.ls y)))))) fun v1=>
 (aX (R.bind (R.bind (R.bind (ck 0 v1) fun v5=>R.bind (R.ok []) fun v6=>R.ok (v5::v6)) cW) fun v4=>R.ok (Out.nx (List.set v1 3 (Sl.own v4)))) fun v3=>
 (aX (R.bind (R.ok (D.bl false)) fun v8=>R.ok (Out.nx (List.set v3 4 (Sl.val v8)))) fun v7=>
 (aX (R.bind (R.bind (ck 1 v7) uU) fun v10=>fq oY v10 v7) fun v9=>
 (R.bind (gw 2 v9) fun Wt=>R.ok (Out.AF Wt))))))
def BJ:=mT 2 8 PH
def qz(env:DE):R Out:=
 (aX (R.bind (R.bind (R.bind (br 0 env) fun v5=>R.bind (R.ok (D.int 2)) fun v6=>R.of (mH v5 v6)) fun v3=>R.bind (R.ok (D.int 0)) fun v4=>R.bind (R.of (CC v3 v4)) mr) fun v2=>if v2=true then(R.bind (tQ 1 env) fun v7=>R.ok (Out.oH v7))else(R.ok (Out.nx env))) fun v1=>
 (R.bind (R.bind (R.bind (ck 1 v1) fun v9=>R.bind (R.ok []) fun v10=>R.ok (v9::v10)) fQ) fun v8=>R.ok (Out.oH v8)))
def fR:=cU 2 2 qz
def nP(env:DE):R Out:=
 (aX (R.bind (R.bind (R.bind (br 0 env) fun v3=>R.bind (cB v3) fun v4=>R.bind (R.ok (D.str "-")) fun v5=>R.bind (cB v5) fun v6=>R.ok (D.bl (Txt.startswith v4 v6))) mr) fun v2=>if v2=true then(R.bind (R.bind (R.bind (R.bind (R.bind (br 0 env) fun v11=>R.bind (R.bind (R.ok (D.int 1)) Q8) fun jT=>R.bind (R.ok none) fun jj=>R.of (MI v11 jT jj)) fun v9=>R.bind (R.ok []) fun v10=>R.ok (v9::v10)) cg) fun v8=>R.of (ue v8)) fun v7=>R.ok (Out.rt v7))else(R.ok (Out.nx env))) fun v1=>
 (R.bind (R.bind (R.bind (br 0 v1) fun kc=>R.bind (R.ok []) fun kY=>R.ok (kc::kY)) cg) fun gI=>R.ok (Out.rt gI)))
def b9:=nJ 1 1 nP
def nQ:=fun ds=>R.ne (b9 ds)
def qA(env:DE):R Out:=
 (R.bind (R.bind (R.bind (R.bind (R.bind (R.ok (D.int 1)) fun v4=>R.of (ue v4)) fun v2=>R.bind (R.bind (R.bind (R.bind (R.bind (ck 0 env) fun v8=>R.bind (R.ok []) fun v9=>R.ok (v8::v9)) rW) fun v7=>R.ok (D.lst v7)) fun v5=>R.bind (R.ok []) fun v6=>R.ok (v5::v6)) fun v3=>R.ok (v2::v3)) fit) fun ds=>R.ok (D.tup ds)) fun v1=>R.ok (Out.rt v1))
def iS:=mD 1 1 qA
def dw(d:D)(env:DE):R Out:=
 R.bind ((bN 3) d env) fun v9=>
  (aX (R.bind (gw 1 v9) fun v11=>R.bind (R.bind (R.bind (ck 2 v9) fun gI=>R.bind (R.bind (R.bind (ck 3 v9) fun mR=>R.bind (R.ok (D.int 1)) fun oy=>A8 mR oy) fun kY=>R.bind (R.ok []) fun lL=>R.ok (kY::lL)) fun kc=>R.ok (gI::kc)) fR) fun jT=>R.bind (R.of (Hq jT)) fun jj=>Jq 1 v9 v11 jj) fun v10=>
 (R.bind (ck 2 v10) fun v20=>R.bind (R.bind (ck 3 v10) fun oA=>R.bind (R.ok (D.int 0)) fun uj=>A8 oA uj) fun qv=>Gv (fun i j=>i+j) 2 v10 v20 qv))
def jg(env:DE):R Out:=
 (aX (R.bind (R.ok ([]:List (List Int))) fun v2=>(R.bind (fit v2) fun y=>R.ok (Out.nx (List.set env 1 (Sl.deep (Ct.ls y)))))) fun v1=>
 (aX (R.bind (R.ok (D.int 0)) fun v4=>R.ok (Out.nx (List.set v1 2 (Sl.val v4)))) fun v3=>
 (aX (R.bind (R.bind (ck 0 v3) fun vz=>R.bind (uU vz) fun xs=>R.ok (reverse xs)) fun v6=>fq dw v6 v3) fun v5=>
 (aX (R.bind (gw 1 v5) fun Aa=>R.ok (Out.nx (List.set v5 1 (Sl.deep (Ct.ls (reverse Aa)))))) fun yG=>
 (R.bind (gw 1 yG) fun yF=>R.ok (Out.AF yF))))))
def bf:=mT 1 4 jg
def dg(env:DE):R Bool:=
 (R.bind (br 0 env) fun kc=>R.bind (R.ok (D.str "")) fun kY=>R.bind (R.of (Hm kc kY)) mr)
def cO(env:DE):R D:=
 (R.bind (R.bind (br 0 env) fun lL=>R.bind (R.ok []) fun mR=>R.ok (lL::mR)) b9)
def lS(env:DE):R Out:=
 (aX (R.bind (R.bind (R.bind (br 0 env) fun v4=>R.bind (R.ok (D.str "")) fun v5=>R.bind (R.of (Hm v4 v5)) mr) fun v3=>if v3=true then(R.bind (R.bind (R.bind (br 0 env) fun v7=>R.bind (cB v7) fun v8=>R.bind (R.ok (D.str " ")) fun v9=>R.bind (cB v9) fun v10=>R.ok (D.bl (Txt.startswith v8 v10))) mr) fun v6=>R.ok (!v6))else R.ok false) fun v2=>if v2=true then(R.err "BadText":R Out)else(R.ok (Out.nx env))) fun v1=>
 (R.bind (R.bind (R.bind (R.bind (R.bind (br 0 v1) fun v20=>R.bind (cB v20) fun qv=>R.bind (R.ok (D.str " ")) fun oA=>R.bind (cB oA) fun uj=>R.of (wX qv uj)) fun oy=>R.ok (D.lst oy)) uU) fun jT=>R.bind (eR v1 []) fun jj=>R.bind (fit jT) fun gI=>R.bind (bh (fun d e=>R.ne ((bN 0) d e)) (fun e=>R.ne (dg e)) cO (eT 1 jj) gI) fit) fun v11=>R.ok (Out.oH v11)))
def bQ:=gR 1 1 lS
def uu:=fun ds=>R.ne (bQ ds)
def zj(env:DE):R Out:=
 (aX (R.bind (R.bind (R.bind (tQ 1 env) fun v5=>R.bind (R.ok (D.int 0)) fun v6=>zP v5 v6) fun v3=>R.bind (R.ok (D.int 0)) fun v4=>R.bind (R.of (Gg v3 v4)) mr) fun v2=>if v2=true then(R.bind (R.bind (R.bind (R.bind (R.ok (D.int 0)) fun v8=>R.bind (R.bind (R.bind (R.bind (R.bind (ck 0 env) fun jj=>R.bind (R.bind (ck 1 env) fun kc=>R.bind (R.ok []) fun kY=>R.ok (kc::kY)) fun gI=>R.ok (jj::gI)) lR) fun jT=>R.ok (D.lst jT)) fun v10=>R.bind (R.ok []) fun v11=>R.ok (v10::v11)) fun v9=>R.ok (v8::v9)) fit) fun ds=>R.ok (D.tup ds)) fun v7=>R.ok (Out.rt v7))else(R.ok (Out.nx env))) fun v1=>
 (R.bind (R.bind (R.bind (R.bind (R.bind (R.bind (ck 0 v1) fun qv=>R.bind (R.bind (R.bind (R.bind (R.bind (ck 1 v1) fun Aa=>R.bind (R.ok []) fun yF=>R.ok (Aa::yF)) oX) fun yG=>R.ok (D.lst yG)) fun uj=>R.bind (R.ok []) fun vz=>R.ok (uj::vz)) fun oA=>R.ok (qv::oA)) lR) fun v20=>R.ok (D.lst v20)) fun mR=>R.bind (R.ok []) fun oy=>R.ok (mR::oy)) iS) fun lL=>R.ok (Out.rt lL)))
def lT:=mD 2 2 zj
def oZ(env:DE):R Out:=
 (aX (R.bind (R.bind (R.bind (br 0 env) fun v7=>R.bind (cB v7) fun v8=>R.bind (R.ok (D.str " ")) fun v9=>R.of (z7 v8 v9)) fun v3=>R.bind (cB v3) fun v4=>R.bind (R.ok (D.str ":")) fun v5=>R.bind (cB v5) fun v6=>R.of (Er v4 v6)) fun v2=>R.ok (Out.nx (List.set env 1 (Sl.val v2)))) fun v1=>
 (aX (R.bind (R.bind (R.bind (R.bind (ck 1 v1) fun kc=>R.bind (R.ok (D.int 1)) fun kY=>A8 kc kY) fun jj=>R.bind (R.ok (D.str "")) fun gI=>R.bind (R.of (CC jj gI)) mr) fun jT=>if jT=true then R.ok true else(R.bind (R.bind (ck 1 v1) fun oy=>R.bind (R.ok (D.int 0)) fun v20=>A8 oy v20) fun lL=>R.bind (cB lL) fun mR=>R.ok (!Option.isSome (KTD.datumAt mR bc)))) fun v11=>if v11=true then(R.err "BadText":R Out)else(R.ok (Out.nx v1))) fun v10=>
 (aX (R.bind (R.bind (R.bind (ck 1 v10) fun yG=>R.bind (R.ok (D.int 0)) fun Aa=>A8 yG Aa) fun uj=>R.bind (cB uj) fun vz=>Et bc vz) fun oA=>R.ok (Out.nx (List.set v10 2 (Sl.val oA)))) fun qv=>
 (aX (R.bind (R.bind (R.bind (R.bind (R.bind (ck 1 qv) fun JD=>R.bind (R.ok (D.int 2)) fun MT=>A8 JD MT) fun v30=>R.bind (R.ok []) fun R3=>R.ok (v30::R3)) bQ) fun GJ=>R.ok (D.lst GJ)) fun Dg=>R.ok (Out.nx (List.set qv 3 (Sl.val Dg)))) fun yF=>
 (aX (R.bind (R.bind (R.bind (br 2 yF) fun MS=>R.bind (R.bind (br 3 yF) fun MV=>R.bind (R.ok []) fun MX=>R.ok (MV::MX)) fun MU=>R.ok (MS::MU)) iz) fun Pz=>R.ok (Out.nx yF)) fun Hs=>
 (R.bind (R.bind (R.bind (R.bind (ck 2 Hs) fun M4=>R.bind (R.bind (ck 3 Hs) fun M0=>R.bind (R.ok []) fun Ln=>R.ok (M0::Ln)) fun MZ=>R.ok (M4::MZ)) fit) fun ds=>R.ok (D.tup ds)) fun Ll=>R.ok (Out.rt Ll)))))))
def ar:=rM 1 4 oZ
def BK:=fun ds=>R.ne (ar ds)
def gx(env:DE):R Bool:=
 R.ok true
def cj(env:DE):R D:=
 (R.bind (R.bind (ck 1 env) fun v7=>R.bind (R.bind (ck 0 env) fun v9=>R.bind (R.ok []) fun v10=>R.ok (v9::v10)) fun v8=>R.ok (v7::v8)) lT)
def nR(env:DE):R Out:=
 (R.bind (R.bind (R.bind (R.bind (R.ne (R.bind (R.bind (br 0 env) fun jT=>R.bind (R.bind (R.bind (R.bind (R.bind (ck 1 env) fun lL=>R.bind (R.ok []) fun mR=>R.ok (lL::mR)) lN) fun kY=>R.ok (D.lst kY)) fun gI=>R.bind (R.ok []) fun kc=>R.ok (gI::kc)) fun jj=>R.ok (jT::jj)) BJ)) fun v11=>R.ok (map (fun ns=>D.lst (map D.int ns)) v11)) fun v3=>R.bind (eR env [0]) fun v4=>R.bind (R.ne (bh (bN 0) gx cj (eT 1 v4) v3)) fit) fun v2=>R.ok (D.lst v2)) fun v1=>R.ok (Out.rt v1))
def dJ:=mD 2 2 nR
def qN(env:DE):R Out:=
 (aX (R.bind (R.bind (R.bind (ck 0 env) fun v3=>R.bind (R.ok []) fun v4=>R.ok (v3::v4)) ar) fun v2=>R.ok (Out.nx (List.set env 2 (Sl.val v2)))) fun v1=>
 (aX (R.bind (R.bind (R.bind (ck 1 v1) fun v7=>R.bind (R.ok []) fun v8=>R.ok (v7::v8)) ar) fun v6=>R.ok (Out.nx (List.set v1 3 (Sl.val v6)))) fun v5=>
 (R.bad:R Out)))
def bK:=nJ 2 5 qN
def Dq:=fun ds=>R.ne (bK ds)
def f9(env:DE):R Out:=
 (R.bind (R.ne (R.bind (br 0 env) fun v5=>R.bind (R.bind (br 1 env) fun v7=>R.bind (R.ok []) fun v8=>R.ok (v7::v8)) fun v6=>R.ok (v5::v6))) fun v4=>R.bind (bK v4) fun _=>R.ok (Out.nx env))
def nS(env:DE):R Out:=
 (R.bind (R.ok (D.str "text")) fun v9=>R.ok (Out.nx (List.set env 2 (Sl.val v9))))
def nU(env:DE):R Out:=
 (R.bind (R.ok (D.str "word")) fun v10=>R.ok (Out.nx (List.set env 2 (Sl.val v10))))
def rX(env:DE):R Out:=
 (aX (R.bind (R.ok (D.str "")) fun v2=>R.ok (Out.nx (List.set env 2 (Sl.val v2)))) fun v1=>
 (aX (Dc ["BadText","NoWord"] "BadText" "NoWord" f9 nS nU v1) fun v3=>
 (R.bind (ck 2 v3) fun v11=>R.ok (Out.rt v11))))
def fz:=mS 2 3 rX
section
variable{X:Cx}
theorem JT{A:Around}{E:Value->Shared->Prop}{s:Shared}{d:Addr}{xs:List (List Key×Addr×Value)}{Q:Value->Shared->Prop}(hd:(d==sysModules)=false)
  (m:Heap.DictOfH (tupleKind (cY X.prog X.w)) s.heap d xs)(z:xs.length<=sizeLine)(q:Q (.int xs.length (s.toks+1)) {s with toks:=s.toks+1+1}):wpAny (model X.prog X.w) A (call (.builtin "len") [.ref d]) Q E s:=by
 have z':xs.length<=16777216:=z
 have inner:∀A,wpAny (model X.prog X.w) A (call (.builtin "dict.__len__") [.ref d]) (fun r s'=>r=.int xs.length s.toks/\s'={s with toks:=s.toks+1}) E s:=fun A=>by
  refine call_meetsIn (S:=fun _ R s'=>s'=s/\R (.ok (.ret (.int xs.length s.toks))) {s with toks:=s.toks+1}) slot_dict_len m.typeIs PySem.F.entry_dict_len (PySem.F.args_dict_len_1 _) (.of_wp fun A R s' h=>?_) ⟨rfl,rfl,rfl⟩
  obtain⟨rfl,h⟩:=h
  obtain⟨o,es,ep,h1,h2,h3,h4,_⟩:=m
  show wpAny _ _ (dictSize d>>=fun n=>_) _ _ _
  unfold dictSize
  refine wpAny_bind (wpAny_bind (wpAny_dictEntries h1 h3 (wpAny_pure (wpAny_bind (wpAny_pendingCount_other hd (wpAny_ret_mkInt ?_))))))
  rw[size_of_entries h4]
  exact h
 refine Calls.call_function_entry kind_len plain_len entry_len (args_len1 _) ?_
 unfold Builtin.«len»
 refine wpAny_bind (wpAny_pure (wpAny_bind (wpAny_callSpecial?_slot (name:=Str.ofString "__len__") m.typeIs slot_dict_len (bG (inner _) fun r s' h=>?_))))
 obtain⟨rfl,rfl⟩:=h
 refine wpAny_bind (wpAny_holding (wpAny_pure (wpAny_bind (wpAny_letGo ?_))))
 show wpAny _ _ (if((xs.length:Nat):Int)<0 then _ else _) _ _ _
 rw[if_neg (by omega)]
 show wpAny _ _ (if 2^63<=((xs.length:Nat):Int)then _ else _) _ _ _
 rw[if_neg (by omega)]
 exact wpAny_bind (wpAny_mkInt (wpAny_pure ⟨_,rfl,q⟩))
theorem GU:lE X (.builtin "len") (fun xs H Q=>∃a kvs,xs=[V.ref a]/\H a=some (.dT kvs)/\Q (.int kvs.length) H):=by
 intro pins s σ H xs us Q I r h
 obtain⟨a,kvs,rfl,ha,q⟩:=h
 obtain⟨u,rfl,ru⟩:=vals1 r
 cases ru
 obtain⟨z,hd,ys,rel,dd⟩:=wC I.hok (.inl ha)
 have e:kvs.length=ys.length:=Paired.length rel
 exact JT hd dd (by omega) ⟨.int kvs.length,H,I.tok _,⟨_,by rw[e]⟩,q⟩
theorem M9:Oc X "int.bit_length" (fun x vs H Q=>∃i,x=.int i/\vs=[]/\Q (.int (Builtin.Int.intBits i)) H):=by
 intro pins s σ H x xs v us Q I r rs h
 obtain⟨i,rfl,rfl,q⟩:=h
 obtain⟨t,rfl⟩:=r
 have e:=rs.zero
 subst e
 exact call_int_bit_length ⟨.int _,H,I.tok _,⟨_,rfl⟩,q⟩
end
theorem R.kZ {α:Type}(a:α):(R.ok a).ne=.ok a:=rfl
theorem qO{b:D->DE->R DE}{ct:DE->R Bool}{fe:DE->R D}{e₀:DE}(g:Int->Int)(w:List Int)(h:∀k∈w,∃e,b (.int k) e₀=.ok e/\ct e=.ok true/\fe e=.ok (.int (g k))):bh b ct fe e₀ (aO w)=.ok (aO (w.map g)):=by
 rw[pX (fun d=>match d with
  |.int k=>.int (g k)
  |_=>.non) _ fun x hx=>by
   obtain⟨k,hk,rfl⟩:=mem_map.mp hx
   exact h k hk]
 unfold aO
 rw[map_map,map_map]
 rfl
def upTo(n:Nat):List Int:=(range n).map fun i=>((i:Nat):Int)
theorem aV(n:Nat):(upTo n).length=n:=by simp[upTo]
theorem xx(n j:Nat)(h:j<n):(upTo n)[j]?=some (j:Int):=by simp[upTo,h]
theorem mem_upTo{n:Nat}{x:Int}:x∈upTo n↔0<=x/\x<n:=by
 simp -implicitDefEqProofs only [upTo,mem_map,mem_range]
 constructor
 ·rintro⟨i,h,rfl⟩;omega
 ·rintro⟨h1,h2⟩;exact⟨x.toNat,by omega,by omega⟩
theorem GV(n:Nat):rF 0 n=aO (upTo n):=by
 rw[Eh];congr 1;simp[upTo]
theorem xy(n:Nat):(upTo n).Nodup:=by
 unfold upTo
 unfold Nodup
 rw[List.pairwise_map]
 exact List.pairwise_lt_range.imp fun h=>by omega
def dY(n:Nat)(r:List Int):Prop:=r.Perm (upTo n)
theorem dY.len {n:Nat}{r:List Int}(h:dY n r):r.length=n:=by rw[h.length_eq,aV]
theorem dY.nd {n:Nat}{r:List Int}(h:dY n r):r.Nodup:=h.nodup_iff.mpr (xy n)
theorem dY.mem {n:Nat}{r:List Int}(h:dY n r){x:Int}:x∈r↔0<=x/\x<n:=h.mem_iff.trans mem_upTo
theorem dY.get {n:Nat}{r:List Int}(h:dY n r){j:Nat}{x:Int}(e:r[j]?=some x):0<=x/\x<n:=h.mem.mp (mem_of_getElem? e)
def ah(ns:List Int)(k:Nat):Int:=(ns[k]?).getD 0
theorem dM{l:List Int}{j:Nat}(h:j<l.length):l[j]?=some (ah l j):=by
 unfold ah
 rw[getElem?_eq_getElem h]
 rfl
theorem lU{a b:List Int}(hl:a.length=b.length)(h:∀j,j<a.length->ah a j=ah b j):a=b:=by
 refine List.ext_getElem? fun j=>?_
 by_cases hj:j<a.length
 ·rw[dM hj,dM (hl▸hj),h j hj]
 ·rw[List.getElem?_eq_none (by omega),List.getElem?_eq_none (by omega)]
theorem bR{n j:Nat}(h:j<n):ah (upTo n) j=j:=by unfold ah;rw[xx n j h];rfl
theorem xA{l:List Int}{j i:Nat}{x:Int}(h:j<l.length):ah (l.set i x) j=if i=j then x else ah l j:=by
 unfold ah
 rw[List.getElem?_set]
 split
 ·subst_vars
  rw[if_pos h]
  rfl
 ·rfl
def lV:List Int->Nat->List Int
 |x::y::l,0=>y::x::l
 |x::l,a+1=>x::lV l a
 |l,_=>l
theorem zk(x:Int)(l:List Int)(a:Nat):lV (x::l) (a+1)=x::lV l a:=by cases l<;>rfl
theorem jB:∀(l:List Int)(a:Nat),(lV l a).length=l.length
 |[],a=>by cases a<;>rfl
 |[x],0=>rfl
 |x::y::l,0=>rfl
 |x::l,a+1=>by rw[zk,length_cons,length_cons,jB l a]
theorem ph:∀(l:List Int)(a:Nat),a+1<l.length->∀j,ah (lV l a) j=if j=a then ah l (a+1)else if j=a+1 then ah l a else ah l j
 |[],a,h,j=>by simp at h
 |[x],a,h,j=>by simp at h
 |x::y::l,0,h,j=>by
  match j with
  |0=>rfl
  |1=>rfl
  |j+2=>rw[if_neg (by omega),if_neg (by omega)];rfl
 |x::y::l,a+1,h,j=>by
  rw[zk]
  match j with
  |0=>rw[if_neg (by omega),if_neg (by omega)];rfl
  |j+1=>
   show ah (lV (y::l) a) j=if j+1=a+1 then ah (y::l) (a+1)else if j+1=a+1+1 then ah (y::l) a else ah (y::l) j
   rw[ph (y::l) a (by simpa using h) j]
   repeat' split
   all_goals first|rfl|omega
theorem ED:∀(l:List Int)(a:Nat),a+1<l.length->l.take a++[ah l (a+1),ah l a]++l.drop (a+2)=lV l a
 |[],a,h=>by simp at h
 |[x],a,h=>by simp at h
 |x::y::l,0,h=>rfl
 |x::y::l,a+1,h=>by
  rw[zk,<-ED (y::l) a (by simpa using h)]
  rfl
def sg(a:Nat)(x:Int):Int:=if x=a then(a:Int)+1 else if x=(a:Int)+1 then a else x
def JU(r:List Int)(a:Nat):List Int:=r.map (sg a)
theorem Na(r:List Int)(a:Nat):(JU r a).length=r.length:=length_map _
theorem pq{r:List Int}{a p:Nat}(h:p<r.length):ah (JU r a) p=sg a (ah r p):=by
 have:=dM h
 unfold JU
 conv=>lhs;unfold ah
 rw[getElem?_map,this]
 rfl
structure Iv(n:Nat)(r s:List Int):Prop where
 lr:r.length=n
 ls:s.length=n
 rs:∀p,p<n->0<=ah r p/\ah r p<n/\ah s (ah r p).toNat=p
 sr:∀v,v<n->0<=ah s v/\ah s v<n/\ah r (ah s v).toNat=v
theorem Iv.symm {n:Nat}{r s:List Int}(h:Iv n r s):Iv n s r:=⟨h.ls,h.lr,h.sr,h.rs⟩
theorem Iv.step {n:Nat}{r s:List Int}(h:Iv n r s){a:Nat}(ha:a+1<n):Iv n (JU r a) (lV s a):=by
 refine⟨by rw[Na,h.lr],by rw[jB,h.ls],fun p hp=>?_,fun v hv=>?_⟩
 ·obtain⟨h1,h2,h3⟩:=h.rs p hp
  rw[pq (h.lr.symm▸hp),ph _ _ (h.ls.symm▸ha)]
  generalize ah r p=v at h1 h2 h3
  unfold sg
  by_cases e1:v=a
  ·rw[if_pos e1]
   refine⟨by omega,by omega,?_⟩
   rw[if_neg (by omega),if_pos (by omega),<-h3,show v.toNat=a by omega]
  ·rw[if_neg e1]
   by_cases e2:v=(a:Int)+1
   ·rw[if_pos e2]
    refine⟨by omega,by omega,?_⟩
    rw[if_pos (by omega),<-h3,show v.toNat=a+1 by omega]
   ·rw[if_neg e2]
    refine⟨h1,h2,?_⟩
    rw[if_neg (by omega),if_neg (by omega),h3]
 ·rw[ph _ _ (h.ls.symm▸ha)]
  by_cases e1:v=a
  ·obtain⟨h1,h2,h3⟩:=h.sr (a+1) ha
   rw[if_pos e1]
   refine⟨h1,h2,?_⟩
   rw[pq (by rw[h.lr];omega),h3]
   unfold sg
   rw[if_neg (by omega),if_pos (by omega),e1]
  ·rw[if_neg e1]
   by_cases e2:v=a+1
   ·obtain⟨h1,h2,h3⟩:=h.sr a (by omega)
    rw[if_pos e2]
    refine⟨h1,h2,?_⟩
    rw[pq (by rw[h.lr];omega),h3]
    unfold sg
    rw[if_pos rfl,e2]
    omega
   ·obtain⟨h1,h2,h3⟩:=h.sr v hv
    rw[if_neg e2]
    refine⟨h1,h2,?_⟩
    rw[pq (by rw[h.lr];omega),h3]
    unfold sg
    rw[if_neg (by omega),if_neg (by omega)]
theorem Iv.Yb {n:Nat}{r s:List Int}(h:Iv n r s){v w:Nat}(hv:v<n)(hw:w<n)(e:ah s v=ah s w):v=w:=by
 have h1:=(h.sr v hv).2.2
 have h2:=(h.sr w hw).2.2
 rw[e]at h1
 omega
theorem Sf{n:Nat}{r:List Int}(h:dY n r):∃s,Iv n r s:=by
 have hc:∀v,v<n->ah ((upTo n).map fun v=>((r.idxOf v:Nat):Int)) v=(r.idxOf ((v:Nat):Int):Nat):=fun v hv=>by
  unfold ah
  rw[getElem?_map,xx n v hv]
  rfl
 refine⟨(upTo n).map fun v=>((r.idxOf v:Nat):Int),h.len,by rw[length_map,aV],fun p hp=>?_,fun v hv=>?_⟩
 ·have Tv:p<r.length:=by rw[h.len];exact hp
  have hg:=h.get (dM Tv)
  refine⟨hg.1,hg.2,?_⟩
  rw[hc _ (by omega),show(((ah r p).toNat:Nat):Int)=ah r p by omega]
  have e:ah r p=r[p]:=by
   have:=dM Tv
   rw[getElem?_eq_getElem Tv]at this
   exact(Option.some.inj this).symm
  rw[e,h.nd.idxOf_getElem p Tv]
 ·have hm:(v:Int)∈r:=h.mem.mpr (by omega)
  have hl:=List.idxOf_lt_length_of_mem hm
  rw[hc v hv]
  have MB:=hl
  rw[h.len]at MB
  refine⟨by omega,by omega,?_⟩
  rw[toNat_natCast]
  have:=dM hl
  rw[getElem?_eq_getElem hl,List.getElem_idxOf hl]at this
  exact(Option.some.inj this).symm
theorem Iv.idx {n:Nat}{r s:List Int}(h:Iv n r s){v:Nat}(hv:v<n):(v:Int)∈r/\((r.idxOf (v:Int):Nat):Int)=ah s v:=by
 obtain⟨h1,h2,h3⟩:=h.sr v hv
 have hm:(v:Int)∈r:=by
  have:=dM (l:=r) (j:=(ah s v).toNat) (by rw[h.lr];omega)
  rw[h3]at this
  exact mem_of_getElem? this
 refine⟨hm,?_⟩
 have hl:=List.idxOf_lt_length_of_mem hm
 have:=dM hl
 rw[getElem?_eq_getElem hl,List.getElem_idxOf hl]at this
 have e:=Option.some.inj this
 have MB:=hl
 rw[h.lr]at MB
 have h4:=(h.rs _ MB).2.2
 rw[<-e,toNat_natCast]at h4
 exact h4.symm
def BL(l:List Int):List Int:=((range (l.length-1)).map fun i=>1+((i:Nat):Int)).filter fun k=>decide (ah l k.toNat<ah l (k-1).toNat)
theorem Ae{l:List Int}{k:Int}:k∈BL l↔∃a:Nat,k=(a:Int)+1/\a+1<l.length/\ah l (a+1)<ah l a:=by
 unfold BL
 rw[mem_filter,mem_map]
 constructor
 ·rintro⟨⟨i,hi,rfl⟩,h⟩
  rw[mem_range]at hi
  rw[decide_eq_true_eq,show(1+(i:Int)).toNat=i+1 by omega,show(1+(i:Int)-1).toNat=i by omega]at h
  exact⟨i,by omega,by omega,h⟩
 ·rintro⟨a,rfl,h1,h2⟩
  refine⟨⟨a,mem_range.mpr (by omega),by omega⟩,?_⟩
  rw[decide_eq_true_eq,show((a:Int)+1).toNat=a+1 by omega,show((a:Int)+1-1).toNat=a by omega]
  exact h2
theorem Nb(l:List Int):(BL l).length<=l.length:=by
 have h:=List.length_filter_le (fun k=>decide (ah l k.toNat<ah l (k-1).toNat)) ((range (l.length-1)).map fun i=>1+((i:Nat):Int))
 unfold BL
 rw[length_map,length_range]at h
 omega
structure Od(n:Nat)(o r z:List Int):Prop where
 lo:o.length=n
 lz:z.length=n
 at_:∀p,p<n->ah o (ah r p).toNat=ah z p
 cr:∀p q,p<q->q<n->ah r q<ah r p->ah z q<ah z p
def S(n:Nat)(f:Nat->Nat):Nat:=((range n).map f).sum
theorem Sg(f:Nat->Nat):S 0 f=0:=rfl
theorem jW(n:Nat)(f:Nat->Nat):S (n+1) f=S n f+f n:=by
 unfold S
 rw[range_succ,map_append,List.sum_append]
 simp
theorem Nc(n:Nat)(f:Nat->Nat):S (n+1) f=f 0+S n fun i=>f (i+1):=by
 unfold S
 rw[List.range_succ_eq_map,map_cons,sum_cons,map_map]
 rfl
theorem rY{n:Nat}{f g:Nat->Nat}(h:∀i,i<n->f i=g i):S n f=S n g:=by
 induction n with
 |zero=>rfl
 |succ n ih=>rw[jW,jW,ih fun i hi=>h i (by omega),h n (by omega)]
theorem WB(n:Nat)(f g:Nat->Nat):S n (fun i=>f i+g i)=S n f+S n g:=by
 induction n with
 |zero=>rfl
 |succ n ih=>rw[jW,jW,jW,ih];omega
theorem Nd(n c:Nat):S n (fun _=>c)=n*c:=by
 induction n with
 |zero=>rw[Nat.zero_mul];rfl
 |succ n ih=>rw[jW,ih,succ_mul]
theorem Sh(n m:Nat)(f:Nat->Nat->Nat):S n (fun i=>S m fun j=>f i j)=S m fun j=>S n fun i=>f i j:=by
 induction n with
 |zero=>
  rw[Sg,show(fun j=>S 0 fun i=>f i j)=fun _=>0 from rfl,Nd,Nat.mul_zero]
 |succ n ih=>
  rw[jW,ih,<-WB]
  exact rY fun j _=>(jW n fun i=>f i j).symm
theorem Si(n q:Nat)(g:Nat->Nat):S n (fun p=>if p<q then g p else 0)=S (min n q) g:=by
 induction n with
 |zero=>rw[Nat.zero_min];rfl
 |succ n ih=>
  rw[jW,ih]
  by_cases h:n<q
  ·rw[if_pos h,show min n q=n by omega,show min (n+1) q=n+1 by omega,jW]
  ·rw[if_neg h,show min n q=q by omega,show min (n+1) q=q by omega]
   rfl
theorem JV{n:Nat}{r s:List Int}(h:Iv n r s)(f:Nat->Nat):S n (fun v=>f (ah s v).toNat)=S n f:=by
 unfold S
 have p:((range n).map fun v=>(ah s v).toNat).Perm (range n):=by
  refine(List.perm_ext_iff_of_nodup ?_ List.nodup_range).mpr fun x=>?_
  ·unfold Nodup
   rw[List.pairwise_map]
   refine Pairwise.imp_of_mem ?_ List.nodup_range
   intro a b ha hb hab e
   rw[mem_range]at ha hb
   have h1:=h.sr a ha
   have h2:=h.sr b hb
   exact hab (h.Yb ha hb (by omega))
  ·rw[mem_map]
   constructor
   ·rintro⟨v,hv,rfl⟩
    rw[mem_range]at hv⊢
    have:=h.sr v hv
    omega
   ·intro hx
    rw[mem_range]at hx
    obtain⟨h1,h2,h3⟩:=h.rs x hx
    exact⟨(ah r x).toNat,mem_range.mpr (by omega),by rw[h3,toNat_natCast]⟩
 have:=(p.map f).sum_nat
 rw[map_map]at this
 exact this
def yJ(x:Int)(pre:List Int):Nat:=(pre.filter fun s=>decide (x<s)).length
theorem Dr(x y:Int)(pre:List Int):yJ x (pre++[y])=yJ x pre+if x<y then 1 else 0:=by
 unfold yJ
 rw[List.filter_append,length_append]
 congr 1
 rw[List.filter_cons]
 by_cases h:x<y
 ·rw[if_pos (decide_eq_true h),if_pos h];rfl
 ·rw[if_neg (by rw[decide_eq_true_eq];exact h),if_neg h];rfl
theorem Nf{x:Int}{a b:List Int}(p:a.Perm b):yJ x a=yJ x b:=(p.filter _).length_eq
def AH:List Int->List Int->Nat
 |_,[]=>0
 |pre,x::l=>yJ x pre+AH (pre++[x]) l
theorem BN:∀(l:List Int){a b:List Int},a.Perm b->AH a l=AH b l
 |[],a,b,p=>rfl
 |x::l,a,b,p=>by
  unfold AH
  rw[Nf p,BN l (p.append_right [x])]
theorem Af:∀(l:List Int)(a:Nat)(pre:List Int),a+1<l.length->AH pre (lV l a)+(if ah l (a+1)<ah l a then 1 else 0)=AH pre l+(if ah l a<ah l (a+1)then 1 else 0)
 |[],a,pre,h=>by simp at h
 |[x],a,pre,h=>by simp at h
 |x::y::l,0,pre,h=>by
  show yJ y pre+(yJ x (pre++[y])+AH (pre++[y]++[x]) l)+(if y<x then 1 else 0)=yJ x pre+(yJ y (pre++[x])+AH (pre++[x]++[y]) l)+(if x<y then 1 else 0)
  rw[Dr,Dr,BN l (show(pre++[y]++[x]).Perm (pre++[x]++[y])by
   rw[List.append_assoc,List.append_assoc]
   exact Perm.append_left pre (Perm.swap x y []))]
  omega
 |x::y::l,a+1,pre,h=>by
  rw[zk]
  show yJ x pre+AH (pre++[x]) (lV (y::l) a)+(if ah (y::l) (a+1)<ah (y::l) a then 1 else 0)=yJ x pre+AH (pre++[x]) (y::l)+(if ah (y::l) a<ah (y::l) (a+1)then 1 else 0)
  have:=Af (y::l) a (pre++[x]) (by simpa using h)
  omega
theorem PJ:∀(l pre:List Int),AH pre l=S l.length fun j=>yJ (ah l j) (pre++l.take j)
 |[],pre=>rfl
 |x::l,pre=>by
  rw[length_cons,Nc]
  show yJ x pre+AH (pre++[x]) l=_
  rw[PJ l (pre++[x]),show yJ (ah (x::l) 0) (pre++(x::l).take 0)=yJ x pre by rw[List.take_zero,append_nil];rfl]
  congr 1
  refine rY fun i _=>?_
  show yJ (ah l i) (pre++[x]++l.take i)=yJ (ah l i) (pre++x::l.take i)
  rw[List.append_assoc]
  rfl
theorem WC(x:Int)(l:List Int):∀q,q<=l.length->yJ x (l.take q)=S q fun p=>if x<ah l p then 1 else 0
 |0,_=>rfl
 |q+1,h=>by
  have hq:q<l.length:=by omega
  have e:l.take (q+1)=l.take q++[ah l q]:=by
   rw[take_succ,dM hq]
   rfl
  rw[e,Dr,WC x l q (by omega),jW]
def yK(l:List Int):Nat:=AH [] l
theorem PK(l:List Int):yK l=S l.length fun q=>S l.length fun p=>if p<q then(if ah l q<ah l p then 1 else 0)else 0:=by
 unfold yK
 rw[PJ]
 refine rY fun q hq=>?_
 rw[nil_append,WC _ _ q (by omega),Si,show min l.length q=q by omega]
theorem Sn{n:Nat}{r s:List Int}(h:Iv n r s):yK r=yK s:=by
 rw[PK,PK,h.lr,h.ls,<-JV h (fun q=>S n fun p=>if p<q then(if ah r q<ah r p then 1 else 0)else 0),Sh n n fun q p=>if p<q then(if ah s q<ah s p then 1 else 0)else 0]
 refine rY fun w hw=>?_
 rw[<-JV h (fun p=>if p<(ah s w).toNat then(if ah r (ah s w).toNat<ah r p then 1 else 0)else 0)]
 refine rY fun v hv=>?_
 obtain⟨h1,h2,h3⟩:=h.sr w hw
 obtain⟨g1,g2,g3⟩:=h.sr v hv
 rw[h3,g3]
 repeat' split
 all_goals first|rfl|omega
theorem iT{l:List Int}{i:Int}(h:0<=i)(h2:i<l.length):iN (aO l) i=some (.int (ah l i.toNat)):=by
 rw[vQ,z0 h,dM (by omega)]
 rfl
theorem xB{b:D->DE->R DE}{ct:DE->R Bool}{fe:DE->R D}{e₀:DE}(P:Int->Bool):∀(w:List Int),(∀k∈w,∃e,b (.int k) e₀=.ok e/\ct e=.ok (P k)/\fe e=.ok (.int k))->bh b ct fe e₀ (aO w)=.ok (aO (w.filter P))
 |[],_=>rfl
 |k::w,h=>by
  obtain⟨e,h1,h2,h3⟩:=h k (by simp)
  have ih:=xB P w fun x hx=>h x (by simp[hx])
  rw[<-wQ]
  unfold bh
  rw[h1,R.aM,h2,R.aM,List.filter_cons]
  by_cases hp:P k=true
  ·rw[if_pos hp,if_pos hp,h3,R.aM,ih]
   rfl
  ·rw[if_neg hp,if_neg hp,ih]
theorem Ng(n:Nat)(h:n<=7):Iu [.int 1,.int n]=.ok (aO ((range (n-1)).map fun i=>1+((i:Nat):Int))):=by
 rw[Rx 1 n (by omega),show((n:Int)-1).toNat=n-1 by omega,Eh]
theorem Nh{n:Nat}{k:Int}(h:k∈(range (n-1)).map fun i=>1+((i:Nat):Int)):∃a:Nat,k=(a:Int)+1/\a+1<n:=by
 obtain⟨i,hi,rfl⟩:=mem_map.mp h
 rw[mem_range]at hi
 exact⟨i,by omega,by omega⟩
theorem BO:∀n:Nat,(replicate n [D.int 0]).flatten=aO (replicate n 0)
 |0=>rfl
 |n+1=>by
  rw[replicate_succ,flatten_cons,BO n]
  rfl
theorem p6{n:Nat}{r s:List Int}(h:Iv n r s)(hn:n<=7):bY [.lst (aO r)]=.ok (aO s):=by
 unfold bY uX
 simp -implicitDefEqProofs only [mS,mD,mF,cU,au,reduceAdd,reduceSub,reduceEqDiff,reduceIte,ai,aj,aG,aH,aI,aJ,cJ,h.lr]
 rw[Ry _ _ ⟨by omega,by omega,big (by rw[toNat_natCast,length_cons,length_nil];omega)⟩,toNat_natCast]
 have e0:=BO n
 rw[e0]
 simp -implicitDefEqProofs only [reduceIte,ai,aj,aG,aH,aI,aJ]
 obtain⟨t,e,hj⟩:=oQ (S:=List Int×Sl×Sl) (b:=jV) (fun i t=>t.1.length=n/\∀p,p<i->p<n->ah t.1 (ah r p).toNat=p) (fun t=>[.val (.lst (aO r)),.own (aO t.1),t.2.1,t.2.2]) (jf (aO r)) 0 (replicate n 0,.no,.no) ⟨length_replicate,fun p hp=>by omega⟩ (by
  rintro j ⟨l,s2,s3⟩ x ⟨hl,hs⟩ hx
  obtain⟨c,hc,rfl⟩:=zc hx
  rw[zero_add]at hs⊢
  have hjn:j<n:=by
   have:=(List.getElem?_eq_some_iff.mp hc).1
   rwa [h.lr]at this
  rw[dM (by rw[h.lr];exact hjn)]at hc
  have Hu:=Option.some.inj hc
  obtain⟨h1,h2,h3⟩:=h.rs j hjn
  unfold jV
  simp -implicitDefEqProofs only [Z2,reduceIte,ai,aj,aG,aH,aI,aJ]
  rw[Bo (by omega) (by rw[cJ];have:l.length=n:=hl;omega),Mw,<-Hu]
  refine⟨(l.set (ah r j).toNat j,_,_),rfl,by rw[length_set];exact hl,fun p hp hpn=>?_⟩
  obtain⟨p1,p2,p3⟩:=h.rs p hpn
  have Yc:l.length=n:=hl
  show ah (l.set (ah r j).toNat j) (ah r p).toNat=p
  rw[xA (by omega)]
  by_cases ep:p=j
  ·subst ep
   rw[if_pos rfl]
  ·rw[if_neg fun z=>by rw[<-z,h3]at p3;omega]
   exact hs p (by omega) hpn)
 obtain⟨l,s2,s3⟩:=t
 obtain⟨hl,hs⟩:=hj
 dsimp only at e
 rw[e]
 have el:l=s:=by
  have MB:l.length=n:=hl
  refine lU (by rw[MB,h.ls]) fun v hv=>?_
  rw[MB]at hv
  obtain⟨h1,h2,h3⟩:=h.sr v hv
  have:=hs (ah s v).toNat (by rw[zero_add];unfold jf;rw[length_map,List.length_zipIdx,cJ,h.lr];omega) (by omega)
  rw[h3,toNat_natCast]at this
  dsimp only at this
  omega
 rw[el]
 simp -implicitDefEqProofs only [reduceIte,ai,aj,aG,aH,aI,aJ,jy]
theorem BP(l:List Int)(hn:l.length<=7):p4 [.lst (aO l)]=.ok (aO (BL l)):=by
 unfold p4 EB
 simp -implicitDefEqProofs only [mS,mD,mF,cU,au,reduceAdd,reduceSub,reduceEqDiff,reduceIte,ai,aj,aG,aH,aI,aJ,cJ]
 rw[Ng _ hn]
 simp -implicitDefEqProofs only [reduceIte,ai,aj,aG,aH,aI,aJ,eR]
 rw[xB (fun k=>decide (ah l k.toNat<ah l (k-1).toNat)) _ fun k hk=>⟨_,fJ _ _ _,by
  obtain⟨a,rfl,ha⟩:=Nh hk
  unfold xt eT
  simp -implicitDefEqProofs only [reduceIte,ai,aj,aG,aH,aI,aJ]
  rw[iT (by omega) (by omega),iT (by omega) (by omega)]
  simp -implicitDefEqProofs only [reduceIte,ai,aj,aG,aH,aI,aJ],by
  unfold xu eT
  simp -implicitDefEqProofs only [reduceIte,ai,aj,aG,aH,aI,aJ]⟩]
 simp -implicitDefEqProofs only [reduceIte,ai,aj,aG,aH,aI,aJ,R.kZ]
 have hd:=Nb l
 rw[show List.filter _ _=BL l from rfl,iQ (by omega)]
 simp -implicitDefEqProofs only [reduceIte,ai,aj,aG,aH,aI,aJ,jy]
theorem GW{n:Nat}{r s:List Int}(h:Iv n r s)(hn:n<=7):rV [.lst (aO r)]=.ok (aO (BL s)):=by
 unfold rV BH
 simp -implicitDefEqProofs only [mS,mD,mF,cU,au,reduceAdd,reduceSub,reduceEqDiff,reduceIte,ai,aj,aG,aH,aI,aJ]
 rw[p6 h hn]
 simp -implicitDefEqProofs only [reduceIte,ai,aj,aG,aH,aI,aJ]
 rw[BP s (by rw[h.ls];exact hn)]
 simp -implicitDefEqProofs only [reduceIte,ai,aj,aG,aH,aI,aJ,jy]
theorem uv{l:List Int}(hn:l.length<=7){a:Nat}(ha:a+1<l.length):aP [.lst (aO l),.int ((a:Int)+1)]=.ok (aO (lV l a)):=by
 unfold aP gW
 simp -implicitDefEqProofs only [mS,mD,mF,cU,au,reduceAdd,reduceSub,reduceEqDiff,reduceIte,ai,aj,aG,aH,aI,aJ,zW]
 rw[C6 _ _ (by omega),Jb _ _ (by omega),iT (by omega) (by omega),iT (by omega) (by omega),show((a:Int)+1-1).toNat=a by omega,show((a:Int)+1+1).toNat=a+2 by omega,show((a:Int)+1).toNat=a+1 by omega]
 simp -implicitDefEqProofs only [reduceIte,ai,aj,aG,aH,aI,aJ]
 rw[show[D.int (ah l (a+1)),D.int (ah l a)]=aO [ah l (a+1),ah l a]from rfl,vR,iQ (by simp -implicitDefEqProofs only [length_append,length_take,length_cons,length_nil];omega)]
 simp -implicitDefEqProofs only [reduceIte,ai,aj,aG,aH,aI,aJ]
 rw[vR,ED l a ha,iQ (by rw[jB];omega)]
 simp -implicitDefEqProofs only [reduceIte,ai,aj,aG,aH,aI,aJ,jy]
theorem JW{n:Nat}{r s:List Int}(h:Iv n r s)(hn:n<=7){a:Nat}(ha:a+1<n):cy [.lst (aO r),.int ((a:Int)+1)]=.ok (aO (JU r a)):=by
 unfold cy ig
 simp -implicitDefEqProofs only [mS,mD,mF,cU,au,reduceAdd,reduceSub,reduceEqDiff,reduceIte,ai,aj,aG,aH,aI,aJ]
 rw[p6 h hn]
 simp -implicitDefEqProofs only [reduceIte,ai,aj,aG,aH,aI,aJ]
 rw[uv (by rw[h.ls];exact hn) (by rw[h.ls];exact ha)]
 simp -implicitDefEqProofs only [reduceIte,ai,aj,aG,aH,aI,aJ]
 rw[p6 (h.step ha).symm hn]
 simp -implicitDefEqProofs only [reduceIte,ai,aj,aG,aH,aI,aJ,jy]
abbrev RP:=List Int×List Int
structure Ad where
 dx:Addr
 kn:Addr
 nu:Addr
 fi:Addr
 la:Addr
 sh:Addr
 lo:Addr
 ke:Addr
 li:Addr
 ks:List Addr
def Ad.hd (A:Ad):List Addr:=[A.dx,A.kn,A.nu,A.fi,A.la,A.sh,A.lo,A.ke,A.li]
def Ad.all (A:Ad):List Addr:=A.hd++A.ks
def vA(A:Ad):List (Str×V):=[("known",.ref A.kn),("numbers",.ref A.nu),("firsts",.ref A.fi),("lasts",.ref A.la),("shorter",.ref A.sh),("longer",.ref A.lo),("kept",.ref A.ke),("line",.ref A.li)]
def kk(r:List Int):List Key:=r.map Sum.inl
theorem aaJ(r:List Int):(kk r).map kV=r.map V.int:=by unfold kk;rw[map_map];rfl
theorem JX{r s:List Int}(h:kk r=kk s):r=s:=by
 unfold kk at h
 exact(List.map_inj_right (fun x y e=>Sum.inl.inj e)).mp h
def Ds(ks:List Int):Int:=ks.foldl (fun b k=>Builtin.bitOr b (1*2^(k-1).toNat)) 0
def vB(l:List Int):Int:=Ds (BL l)
def Dt(p:RP)(a:Nat):RP:=(lV p.1 a,JU p.2 a)
def GX(p:RP)(a:Nat):RP:=(JU p.1 a,lV p.2 a)
def AI(p q:RP):List Int:=(BL q.2).filter fun k=> !decide (k∈BL p.1)
def nV:Nat->RP->RP->RP×RP
 |0,p,q=>(p,q)
 |f+1,p,q=>match (AI p q).getLast? with
  |none=>(p,q)
  |some k=>nV f (Dt p (k-1).toNat) (GX q (k-1).toNat)
theorem Iv.uniq {n:Nat}{r r' s:List Int}(h:Iv n r s)(g:Iv n r' s):r=r':=by
 refine lU (by rw[h.lr,g.lr]) fun j hj=>?_
 obtain⟨a1,a2,a3⟩:=h.rs j (by rw[h.lr]at hj;exact hj)
 obtain⟨b1,b2,b3⟩:=g.sr (ah r j).toNat (by omega)
 rw[a3,toNat_natCast]at b3
 omega
theorem WD{n:Nat}{p q:RP}(h:Iv n p.1 p.2)(g:Iv n q.1 q.2)(e:p.1=q.1):p=q:=by
 have h':=h.symm
 rw[e]at h'
 exact Prod.ext e (Iv.uniq h' g.symm)
structure iA(C:Addr)(H:Hp)(a:Addr)(A:Ad)(ex:List (Str×V))(n:Nat)(kn:List RP)(ln:List Int)(B:Nat)(nu sh lo ke:List (List Key×V)):Prop where
 ob:H a=some (.ins C A.dx (vA A++ex))
 dx:∃o,H A.dx=some o
 nd:(a::A.all).Nodup
 hkn:H A.kn=some (.lst (A.ks.map V.ref))
 BQ:A.ks.length=kn.length
 hks:∀(i:Nat)(b:Addr)(p:RP),A.ks[i]?=some b->kn[i]?=some p->H b=some (.lst (p.1.map V.int))
 yL:H A.nu=some (.dT nu)
 yp:H A.fi=some (.lst (kn.map fun p=>V.int (vB p.2)))
 hla:H A.la=some (.lst (kn.map fun p=>V.int (vB p.1)))
 hsh:H A.sh=some (.dT sh)
 hlo:H A.lo=some (.dT lo)
 hke:H A.ke=some (.dT ke)
 hli:H A.li=some (.lst (ln.map V.int))
 rw:∀p∈kn,Iv n p.1 p.2
 n1:∀(i:Nat)(p:RP),kn[i]?=some p->du nu (kk p.1)=some (.int i)
 n2:∀r:List Int,(∀p∈kn,p.1≠r)->du nu (kk r)=none
 s1:∀(i:Nat)(k:Int)(v:V),du sh [.inl (i:Int),.inl k]=some v->∃(j:Nat)(p:RP),kn[i]?=some p/\kn[j]?=some (GX p (k-1).toNat)/\v=.int j
 l1:∀(i:Nat)(k:Int)(v:V),du lo [.inl (i:Int),.inl k]=some v->∃(j:Nat)(p:RP),kn[i]?=some p/\kn[j]?=some (Dt p (k-1).toNat)/\v=.int j
 k1:∀(i j:Nat)(v:V),du ke [.inl (i:Int),.inl (j:Int)]=some v->∃(t:Addr)(i' j':Nat)(p q:RP),kn[i]?=some p/\kn[j]?=some q/\v=.ref t/\H t=some (.tup [.int i',.int j'])/\kn[i']?=some (nV 50 p q).1/\kn[j']?=some (nV 50 p q).2
 z:kn.length<=B/\nu.length<=B/\sh.length<=B/\lo.length<=B/\ke.length<=B
 li:∀m∈ln,0<=m/\m<kn.length
theorem iA.same {C:Addr}{H H':Hp}{a:Addr}{A:Ad}{ex:List (Str×V)}{n:Nat}{kn:List RP}{ln:List Int}{B:Nat}{nu sh lo ke:List (List Key×V)}(c:iA C H a A ex n kn ln B nu sh lo ke)(s:aC H H'):iA C H' a A ex n kn ln B nu sh lo ke:=
 ⟨s _ _ c.ob,let⟨o,h⟩:=c.dx;⟨o,s _ _ h⟩,c.nd,s _ _ c.hkn,c.BQ,fun i b p e1 e2=>s _ _ (c.hks i b p e1 e2),s _ _ c.yL,s _ _ c.yp,s _ _ c.hla,s _ _ c.hsh,s _ _ c.hlo,s _ _ c.hke,s _ _ c.hli,c.rw,c.n1,c.n2,c.s1,c.l1,
  fun i j v e=>by
   obtain⟨t,i',j',p,q,h1,h2,h3,h4,h5⟩:=c.k1 i j v e
   exact⟨t,i',j',p,q,h1,h2,h3,s _ _ h4,h5⟩,c.z,c.li⟩
theorem iA.more {C:Addr}{H:Hp}{a:Addr}{A:Ad}{ex:List (Str×V)}{n:Nat}{kn:List RP}{ln:List Int}{B B':Nat}{nu sh lo ke:List (List Key×V)}(c:iA C H a A ex n kn ln B nu sh lo ke)(h:B<=B'):iA C H a A ex n kn ln B' nu sh lo ke:=
 {c with z:=by have:=c.z;omega}
theorem iA.So {C:Addr}{H:Hp}{a:Addr}{A:Ad}{ex:List (Str×V)}{n:Nat}{kn:List RP}{ln:List Int}{B:Nat}{nu sh lo ke:List (List Key×V)}(c:iA C H a A ex n kn ln B nu sh lo ke):
  (A.kn≠A.fi/\A.kn≠A.la/\A.kn≠A.li/\A.fi≠A.la/\A.fi≠A.li/\A.la≠A.li)/\(A.nu≠A.sh/\A.nu≠A.lo/\A.nu≠A.ke/\A.sh≠A.lo/\A.sh≠A.ke/\A.lo≠A.ke)/\
  (∀b∈A.ks,b≠A.kn/\b≠A.fi/\b≠A.la/\b≠A.li)/\(A.dx≠A.kn/\A.dx≠A.nu/\A.dx≠A.fi/\A.dx≠A.la/\A.dx≠A.sh/\A.dx≠A.lo/\A.dx≠A.ke/\A.dx≠A.li/\a≠A.dx)/\(∀b∈A.ks,b≠A.dx):=by
 have nd:=c.nd
 unfold Ad.all Ad.hd at nd
 simp only [cons_append,nil_append,nodup_cons,mem_cons,not_or]at nd
 obtain⟨⟨a1,a2⟩,⟨d1,d2,d3,d4,d5,d6,d7,d8,d9⟩,⟨k1,k2,k3,k4,k5,k6,k7,k8⟩,⟨n1,n2,n3,n4,n5,n6,n7⟩,⟨f1,f2,f3,f4,f5,f6⟩,⟨l1,l2,l3,l4,l5⟩,⟨s1,s2,s3,s4⟩,⟨o1,o2,o3⟩,⟨e1,e2⟩,i1,_⟩:=nd
 refine⟨⟨k2,k3,k7,f1,f5,l4⟩,⟨n3,n4,n5,s1,s2,o1⟩,fun b hb=>⟨fun z=>k8 (z▸hb),fun z=>f6 (z▸hb),fun z=>l5 (z▸hb),fun z=>i1 (z▸hb)⟩,⟨d1,d2,d3,d4,d5,d6,d7,d8,a1⟩,fun b hb z=>d9 (z▸hb)⟩
structure ie(H H':Hp)(F F':List Addr):Prop where
 kp:∀x o,x∉F->H x=some o->H' x=some o
 nw:∀x∈F',x∈F\/H x=none
 gr:∀x,H' x=none->H x=none
theorem ie.refl (H:Hp)(F:List Addr):ie H H F F:=⟨fun _ _ _ h=>h,fun _ h=>.inl h,fun _ h=>h⟩
theorem ie.trans {H H1 H2:Hp}{F F1 F2:List Addr}(a:ie H H1 F F1)(b:ie H1 H2 F1 F2):ie H H2 F F2:=
 ⟨fun x o hx h=>b.kp x o (fun z=>(a.nw x z).elim hx fun q=>by rw[h]at q;cases q) (a.kp x o hx h),fun x hx=>(b.nw x hx).elim (fun z=>a.nw x z) fun z=>.inr (a.gr x z),fun x hx=>a.gr x (b.gr x hx)⟩
theorem ie.same {H H1:Hp}(s:aC H H1)(F:List Addr):ie H H1 F F:=⟨fun x o _ h=>s x o h,fun _ h=>.inl h,fun _ h=>s.free h⟩
theorem ie.upd {H:Hp}{F:List Addr}{x:Addr}(hx:x∈F)(o:HO):ie H (upd H x o) F F:=⟨fun y o' hy h=>by rw[ae (fun z=>hy (by rw[z];exact hx))];exact h,fun _ h=>.inl h,fun y hy=>by
 by_cases z:y=x
 ·rw[z,ak]at hy;cases hy
 ·rw[ae z]at hy;exact hy⟩
theorem iA.there {C:Addr}{H:Hp}{a:Addr}{A:Ad}{ex:List (Str×V)}{n:Nat}{kn:List RP}{ln:List Int}{B:Nat}{nu sh lo ke:List (List Key×V)}(c:iA C H a A ex n kn ln B nu sh lo ke){x:Addr}(hx:x∈a::A.all):∃o,H x=some o:=by
 rcases mem_cons.mp hx with rfl|hx
 ·exact⟨_,c.ob⟩
 ·rcases mem_append.mp hx with hx|hx
  ·unfold Ad.hd at hx
   simp only [mem_cons,not_mem_nil,or_false]at hx
   rcases hx with rfl|rfl|rfl|rfl|rfl|rfl|rfl|rfl|rfl
   ·exact c.dx
   ·exact⟨_,c.hkn⟩
   ·exact⟨_,c.yL⟩
   ·exact⟨_,c.yp⟩
   ·exact⟨_,c.hla⟩
   ·exact⟨_,c.hsh⟩
   ·exact⟨_,c.hlo⟩
   ·exact⟨_,c.hke⟩
   ·exact⟨_,c.hli⟩
  ·obtain⟨i,hi,ei⟩:=getElem_of_mem hx
   exact⟨_,c.hks i x (kn[i]'(by rw[<-c.BQ];exact hi)) (by rw[getElem?_eq_getElem hi,ei]) (getElem?_eq_getElem (by rw[<-c.BQ];exact hi))⟩
theorem pA{α:Type}{l:List α}{x y:α}{i:Nat}(e:(l++[x])[i]?=some y)(h:¬i<l.length):i=l.length/\x=y:=by
 have h1:=(List.getElem?_eq_some_iff.mp e).1
 rw[length_append,length_singleton]at h1
 have h2:i=l.length:=by omega
 subst h2
 exact⟨rfl,by simpa using e⟩
theorem bU{α:Type}{l m:List α}{x:α}{i:Nat}(e:l[i]?=some x):(l++m)[i]?=some x:=by
 rw[getElem?_append_left (List.getElem?_eq_some_iff.mp e).1]
 exact e
theorem iA.add {C:Addr}{H H9:Hp}{a:Addr}{A:Ad}{ex:List (Str×V)}{n:Nat}{kn:List RP}{ln:List Int}{B:Nat}{nu sh lo ke:List (List Key×V)}(c:iA C H a A ex n kn ln B nu sh lo ke){p:RP}(hm:¬∃q∈kn,q.1=p.1)(iv:Iv n p.1 p.2){l2:Addr}(TY:H l2=none)
  (Yd:H9 a=some (.ins C A.dx (vA A++ex)))(Ye:H9 A.nu=some (.dT (putK nu (kk p.1) (.int (kn.length:Int)))))(kn9:H9 A.kn=some (.lst (A.ks.map V.ref++[.ref l2])))
  (fi9:H9 A.fi=some (.lst ((kn.map fun p=>V.int (vB p.2))++[V.int (vB p.2)])))(la9:H9 A.la=some (.lst ((kn.map fun p=>V.int (vB p.1))++[V.int (vB p.1)])))(l29:H9 l2=some (.lst (p.1.map V.int)))
  (keep:∀x o,x≠A.nu->x≠A.kn->x≠A.fi->x≠A.la->H x=some o->H9 x=some o):iA C H9 a {A with ks:=A.ks++[l2]} ex n (kn++[p]) ln (B+1) (putK nu (kk p.1) (.int (kn.length:Int))) sh lo ke:=by
 have yM:∀j,du (putK nu (kk p.1) (.int (kn.length:Int))) j=if j=kk p.1 then some (.int (kn.length:Int))else du nu j:=fun j=>jR nu (kk p.1) j _
 have hz:(kn++[p]).length<=B+1/\(putK nu (kk p.1) (.int (kn.length:Int))).length<=B+1/\sh.length<=B+1/\lo.length<=B+1/\ke.length<=B+1:=by
  have h0:=c.z
  have h1:=gy nu (kk p.1) (.int (kn.length:Int))
  rw[length_append,length_singleton]
  omega
 have hli:∀m∈ln,0<=m/\m<((kn++[p]).length:Int):=fun m hm'=>by
  have:=c.li m hm'
  rw[length_append]
  omega
 have nl:∀{x y:Addr}{xs:List V}{kv:List (List Key×V)},H x=some (.lst xs)->H y=some (.dT kv)->x≠y:=fun h1 h2=>bD h1 h2 (by intro z;cases z)
 obtain⟨⟨n1,n2,n3,n4,n5,n6⟩,⟨m1,m2,m3,m4,m5,m6⟩,Sq,⟨d1,d2,d3,d4,d5,d6,d7,d8,d9⟩,WE⟩:=c.So
 refine⟨Yd,?_,?_,by rw[map_append];exact kn9,by rw[length_append,length_append,c.BQ];rfl,fun i b' q' e1 e2=>?_,Ye,by rw[map_append];exact fi9,by rw[map_append];exact la9,
  keep _ _ (Ne.symm m1) (Ne.symm (nl c.hkn c.hsh)) (Ne.symm (nl c.yp c.hsh)) (Ne.symm (nl c.hla c.hsh)) c.hsh,
  keep _ _ (Ne.symm m2) (Ne.symm (nl c.hkn c.hlo)) (Ne.symm (nl c.yp c.hlo)) (Ne.symm (nl c.hla c.hlo)) c.hlo,
  keep _ _ (Ne.symm m3) (Ne.symm (nl c.hkn c.hke)) (Ne.symm (nl c.yp c.hke)) (Ne.symm (nl c.hla c.hke)) c.hke,
  keep _ _ (nl c.hli c.yL) (Ne.symm n3) (Ne.symm n5) (Ne.symm n6) c.hli,fun q' LU=>?_,fun i q' e=>?_,fun r hr'=>?_,fun i k' v e=>?_,fun i k' v e=>?_,fun i j v e=>?_,hz,hli⟩
 ·obtain⟨o,ho⟩:=c.dx
  exact⟨o,keep _ _ d2 d1 d3 d4 ho⟩
 ·show(a::(A.hd++(A.ks++[l2]))).Nodup
  rw[<-List.append_assoc,<-cons_append,List.nodup_append]
  refine⟨c.nd,by simp,fun x hx y hy=>?_⟩
  have ey:y=l2:=by simpa using hy
  rw[ey]
  intro z
  obtain⟨o,ho⟩:=c.there hx
  rw[z,TY]at ho
  cases ho
 ·have F9:(A.ks++[l2])[i]?=some b':=e1
  by_cases hi:i<kn.length
  ·rw[getElem?_append_left (by rw[c.BQ];exact hi)]at F9
   rw[getElem?_append_left hi]at e2
   have Lh:=Sq b' (mem_of_getElem? F9)
   have hbH:=c.hks i b' q' F9 e2
   exact keep _ _ (nl hbH c.yL) Lh.1 Lh.2.1 Lh.2.2.1 hbH
  ·obtain⟨_,z2⟩:=pA e2 hi
   obtain⟨_,z1⟩:=pA F9 (by rw[c.BQ];exact hi)
   rw[<-z1,<-z2]
   exact l29
 ·rcases mem_append.mp LU with h|h
  ·exact c.rw q' h
  ·have:q'=p:=by simpa using h
   rw[this];exact iv
 ·rw[yM]
  by_cases hi:i<kn.length
  ·rw[getElem?_append_left hi]at e
   have hne:¬kk q'.1=kk p.1:=fun z=>hm ⟨q',mem_of_getElem? e,JX z⟩
   rw[if_neg hne]
   exact c.n1 i q' e
  ·obtain⟨z1,z2⟩:=pA e hi
   rw[<-z2,if_pos rfl,z1]
 ·rw[yM,if_neg (fun z=>hr' p (by simp) (JX z).symm)]
  exact c.n2 r fun q' LU=>hr' q' (by simp[LU])
 ·obtain⟨j,p',h1,h2,h3⟩:=c.s1 i k' v e
  exact⟨j,p',bU h1,bU h2,h3⟩
 ·obtain⟨j,p',h1,h2,h3⟩:=c.l1 i k' v e
  exact⟨j,p',bU h1,bU h2,h3⟩
 ·obtain⟨t',i',j',p',q',h1,h2,h3,h4,h5,h6⟩:=c.k1 i j v e
  have nt:∀{y:Addr}{xs:List V},H y=some (.lst xs)->t'≠y:=fun h=>bD h4 h (by intro z;cases z)
  exact⟨t',i',j',p',q',bU h1,bU h2,h3,keep _ _ (bD h4 c.yL (by intro z;cases z)) (nt c.hkn) (nt c.yp) (nt c.hla) h4,bU h5,bU h6⟩
theorem iA.Ss {C:Addr}{H:Hp}{a:Addr}{A:Ad}{ex:List (Str×V)}{n:Nat}{kn:List RP}{ln:List Int}{B:Nat}{nu sh lo ke:List (List Key×V)}(c:iA C H a A ex n kn ln B nu sh lo ke){i j:Nat}{k:Int}{p:RP}(hi:kn[i]?=some p)(hj:kn[j]?=some (GX p (k-1).toNat)):
  iA C (upd H A.sh (.dT (putK sh [.inl (i:Int),.inl k] (.int j)))) a A ex n kn ln (B+1) nu (putK sh [.inl (i:Int),.inl k] (.int j)) lo ke:=by
 have hz:kn.length<=B+1/\nu.length<=B+1/\(putK sh ([.inl (i:Int),.inl k]:List Key) (.int j)).length<=B+1/\lo.length<=B+1/\ke.length<=B+1:=by
  have h0:=c.z
  have h1:=gy sh ([.inl (i:Int),.inl k]:List Key) (.int j)
  omega
 have yM:∀x,du (putK sh ([.inl (i:Int),.inl k]:List Key) (.int j)) x=if x=[.inl (i:Int),.inl k]then some (.int j)else du sh x:=fun x=>jR sh _ x _
 have nl:∀{x:Addr}{xs:List V},H x=some (.lst xs)->x≠A.sh:=fun h1=>bD h1 c.hsh (by intro z;cases z)
 obtain⟨_,⟨m1,m2,m3,m4,m5,m6⟩,Sq,⟨d1,d2,d3,d4,d5,d6,d7,d8,d9⟩,WE⟩:=c.So
 have kp:∀x o,x≠A.sh->H x=some o->(upd H A.sh (.dT (putK sh [.inl (i:Int),.inl k] (.int j)))) x=some o:=fun x o hx h=>by rw[ae hx];exact h
 have sem:∀(i':Nat)(k':Int)(v:V),du (putK sh ([.inl (i:Int),.inl k]:List Key) (.int j)) [.inl (i':Int),.inl k']=some v->∃(j:Nat)(p:RP),kn[i']?=some p/\kn[j]?=some (GX p (k'-1).toNat)/\v=.int j:=fun i' k' v e=>by
  rw[yM]at e
  split at e
  ·rename_i z
   injection z with z1 z2
   injection z2 with z2 _
   have q1:(i':Int)=i:=Sum.inl.inj z1
   have q2:k'=k:=Sum.inl.inj z2
   have q3:i'=i:=by omega
   subst q2 q3
   cases e
   exact⟨j,p,hi,hj,rfl⟩
  ·exact c.s1 i' k' v e
 refine⟨kp _ _ (bD c.ob c.hsh (by intro z;cases z)) c.ob,?_,c.nd,kp _ _ (nl c.hkn) c.hkn,c.BQ,fun i b p e1 e2=>kp _ _ (nl (c.hks i b p e1 e2)) (c.hks i b p e1 e2),kp _ _ m1 c.yL,kp _ _ (nl c.yp) c.yp,kp _ _ (nl c.hla) c.hla,ak,kp _ _ (Ne.symm m4) c.hlo,kp _ _ (Ne.symm m5) c.hke,kp _ _ (nl c.hli) c.hli,c.rw,c.n1,c.n2,sem,c.l1,fun i j v e=>?_,hz,c.li⟩
 ·obtain⟨o,h⟩:=c.dx
  exact⟨o,kp _ _ d5 h⟩
 ·obtain⟨t,i',j',p,q,h1,h2,h3,h4,h5⟩:=c.k1 i j v e
  exact⟨t,i',j',p,q,h1,h2,h3,kp _ _ (bD h4 c.hsh (by intro z;cases z)) h4,h5⟩
theorem iA.Su {C:Addr}{H:Hp}{a:Addr}{A:Ad}{ex:List (Str×V)}{n:Nat}{kn:List RP}{ln:List Int}{B:Nat}{nu sh lo ke:List (List Key×V)}(c:iA C H a A ex n kn ln B nu sh lo ke){i j:Nat}{k:Int}{p:RP}(hi:kn[i]?=some p)(hj:kn[j]?=some (Dt p (k-1).toNat)):
  iA C (upd H A.lo (.dT (putK lo [.inl (i:Int),.inl k] (.int j)))) a A ex n kn ln (B+1) nu sh (putK lo [.inl (i:Int),.inl k] (.int j)) ke:=by
 have hz:kn.length<=B+1/\nu.length<=B+1/\sh.length<=B+1/\(putK lo ([.inl (i:Int),.inl k]:List Key) (.int j)).length<=B+1/\ke.length<=B+1:=by
  have h0:=c.z
  have h1:=gy lo ([.inl (i:Int),.inl k]:List Key) (.int j)
  omega
 have yM:∀x,du (putK lo ([.inl (i:Int),.inl k]:List Key) (.int j)) x=if x=[.inl (i:Int),.inl k]then some (.int j)else du lo x:=fun x=>jR lo _ x _
 have nl:∀{x:Addr}{xs:List V},H x=some (.lst xs)->x≠A.lo:=fun h1=>bD h1 c.hlo (by intro z;cases z)
 obtain⟨_,⟨m1,m2,m3,m4,m5,m6⟩,Sq,⟨d1,d2,d3,d4,d5,d6,d7,d8,d9⟩,WE⟩:=c.So
 have kp:∀x o,x≠A.lo->H x=some o->(upd H A.lo (.dT (putK lo [.inl (i:Int),.inl k] (.int j)))) x=some o:=fun x o hx h=>by rw[ae hx];exact h
 have sem:∀(i':Nat)(k':Int)(v:V),du (putK lo ([.inl (i:Int),.inl k]:List Key) (.int j)) [.inl (i':Int),.inl k']=some v->∃(j:Nat)(p:RP),kn[i']?=some p/\kn[j]?=some (Dt p (k'-1).toNat)/\v=.int j:=fun i' k' v e=>by
  rw[yM]at e
  split at e
  ·rename_i z
   injection z with z1 z2
   injection z2 with z2 _
   have q1:(i':Int)=i:=Sum.inl.inj z1
   have q2:k'=k:=Sum.inl.inj z2
   have q3:i'=i:=by omega
   subst q2 q3
   cases e
   exact⟨j,p,hi,hj,rfl⟩
  ·exact c.l1 i' k' v e
 refine⟨kp _ _ (bD c.ob c.hlo (by intro z;cases z)) c.ob,?_,c.nd,kp _ _ (nl c.hkn) c.hkn,c.BQ,fun i b p e1 e2=>kp _ _ (nl (c.hks i b p e1 e2)) (c.hks i b p e1 e2),kp _ _ m2 c.yL,kp _ _ (nl c.yp) c.yp,kp _ _ (nl c.hla) c.hla,kp _ _ m4 c.hsh,ak,kp _ _ (Ne.symm m6) c.hke,kp _ _ (nl c.hli) c.hli,c.rw,c.n1,c.n2,c.s1,sem,fun i j v e=>?_,hz,c.li⟩
 ·obtain⟨o,h⟩:=c.dx
  exact⟨o,kp _ _ d6 h⟩
 ·obtain⟨t,i',j',p,q,h1,h2,h3,h4,h5⟩:=c.k1 i j v e
  exact⟨t,i',j',p,q,h1,h2,h3,kp _ _ (bD h4 c.hlo (by intro z;cases z)) h4,h5⟩
theorem iA.Sv {C:Addr}{H:Hp}{a:Addr}{A:Ad}{ex:List (Str×V)}{n:Nat}{kn:List RP}{ln:List Int}{B:Nat}{nu sh lo ke:List (List Key×V)}(c:iA C H a A ex n kn ln B nu sh lo ke){i j i' j':Nat}{p q:RP}{t:Addr}(hi:kn[i]?=some p)(hj:kn[j]?=some q)(ht:H t=some (.tup [.int i',.int j']))(PL:kn[i']?=some (nV 50 p q).1)(Dj:kn[j']?=some (nV 50 p q).2):
  iA C (upd H A.ke (.dT (putK ke [.inl (i:Int),.inl (j:Int)] (.ref t)))) a A ex n kn ln (B+1) nu sh lo (putK ke [.inl (i:Int),.inl (j:Int)] (.ref t)):=by
 have hz:kn.length<=B+1/\nu.length<=B+1/\sh.length<=B+1/\lo.length<=B+1/\(putK ke ([.inl (i:Int),.inl (j:Int)]:List Key) (.ref t)).length<=B+1:=by
  have h0:=c.z
  have h1:=gy ke ([.inl (i:Int),.inl (j:Int)]:List Key) (.ref t)
  omega
 have yM:∀x,du (putK ke ([.inl (i:Int),.inl (j:Int)]:List Key) (.ref t)) x=if x=[.inl (i:Int),.inl (j:Int)]then some (.ref t)else du ke x:=fun x=>jR ke _ x _
 have nl:∀{x:Addr}{xs:List V},H x=some (.lst xs)->x≠A.ke:=fun h1=>bD h1 c.hke (by intro z;cases z)
 have nt:∀{x:Addr}{xs:List V},H x=some (.tup xs)->x≠A.ke:=fun h1=>bD h1 c.hke (by intro z;cases z)
 obtain⟨_,⟨m1,m2,m3,m4,m5,m6⟩,Sq,⟨d1,d2,d3,d4,d5,d6,d7,d8,d9⟩,WE⟩:=c.So
 have kp:∀x o,x≠A.ke->H x=some o->(upd H A.ke (.dT (putK ke [.inl (i:Int),.inl (j:Int)] (.ref t)))) x=some o:=fun x o hx h=>by rw[ae hx];exact h
 refine⟨kp _ _ (bD c.ob c.hke (by intro z;cases z)) c.ob,?_,c.nd,kp _ _ (nl c.hkn) c.hkn,c.BQ,fun i b p e1 e2=>kp _ _ (nl (c.hks i b p e1 e2)) (c.hks i b p e1 e2),kp _ _ m3 c.yL,kp _ _ (nl c.yp) c.yp,kp _ _ (nl c.hla) c.hla,kp _ _ m5 c.hsh,kp _ _ m6 c.hlo,ak,kp _ _ (nl c.hli) c.hli,c.rw,c.n1,c.n2,c.s1,c.l1,fun x y v e=>?_,hz,c.li⟩
 ·obtain⟨o,h⟩:=c.dx
  exact⟨o,kp _ _ d7 h⟩
 ·rw[yM]at e
  split at e
  ·rename_i z
   injection z with z1 z2
   injection z2 with z2 _
   have q1:(x:Int)=i:=Sum.inl.inj z1
   have q2:(y:Int)=j:=Sum.inl.inj z2
   have q3:x=i:=by omega
   have q4:y=j:=by omega
   subst q3 q4
   cases e
   exact⟨t,i',j',p,q,hi,hj,rfl,kp _ _ (nt ht) ht,PL,Dj⟩
  ·obtain⟨t,i',j',p,q,h1,h2,h3,h4,h5⟩:=c.k1 x y v e
   exact⟨t,i',j',p,q,h1,h2,h3,kp _ _ (nt h4) h4,h5⟩
section
variable{A:Ad}{ex:List (Str×V)}
theorem zm:(vA A++ex).lookup ("known":Str)=some (.ref A.kn):=rfl
theorem EE:(vA A++ex).lookup ("numbers":Str)=some (.ref A.nu):=rfl
theorem JY:(vA A++ex).lookup ("firsts":Str)=some (.ref A.fi):=rfl
theorem JZ:(vA A++ex).lookup ("lasts":Str)=some (.ref A.la):=rfl
theorem EF:(vA A++ex).lookup ("shorter":Str)=some (.ref A.sh):=rfl
theorem EG:(vA A++ex).lookup ("longer":Str)=some (.ref A.lo):=rfl
theorem J0:(vA A++ex).lookup ("kept":Str)=some (.ref A.ke):=rfl
theorem BR:(vA A++ex).lookup ("line":Str)=some (.ref A.li):=rfl
end
def uY(z w:Int):List (Str×V):=[("none",.int z),("whole",.int w)]
theorem PN{A:Ad}{z w:Int}:(vA A++uY z w).lookup ("none":Str)=some (.int z):=rfl
theorem WG{A:Ad}{z w:Int}:(vA A++uY z w).lookup ("whole":Str)=some (.int w):=rfl
abbrev six:List Int:=[1,2,3,4,5,6]
def Sw(l:List (Int×Bool)):List Int:=(l.filter (·.2)).map (·.1)
def sel(b1 b2 b3 b4 b5 b6:Bool):List Int:=Sw [(1,b1),(2,b2),(3,b3),(4,b4),(5,b5),(6,b6)]
theorem xC(f:Int->Bool):∀l:List Int,l.filter f=Sw (l.map fun k=>(k,f k))
 |[]=>rfl
 |k::l=>by
  have ih:=xC f l
  unfold Sw at ih⊢
  rw[map_cons]
  cases h:f k with
  |true=>rw[List.filter_cons_of_pos h,List.filter_cons_of_pos (by rfl),map_cons,ih]
  |false=>rw[List.filter_cons_of_neg (by rw[h];decide),List.filter_cons_of_neg (by simp),ih]
theorem rZ(f:Int->Bool):six.filter f=sel (f 1) (f 2) (f 3) (f 4) (f 5) (f 6):=xC f six
theorem Ni(f:Int->Bool):∀m:Nat,m<=7->((range (m-1)).map fun i=>1+((i:Nat):Int)).filter f=six.filter fun k=>decide (k.toNat<m)&&f k
 |0,_=>rfl
 |1,_=>rfl
 |2,_=>rfl
 |3,_=>rfl
 |4,_=>rfl
 |5,_=>rfl
 |6,_=>rfl
 |7,_=>rfl
 |m+8,h=>by omega
def WH(l:List Int)(k:Int):Bool:=decide (k.toNat<l.length)&&decide (ah l k.toNat<ah l (k-1).toNat)
theorem vW{l:List Int}(h:l.length<=7):BL l=six.filter (WH l):=Ni _ l.length h
theorem J1:∀b1 b2 b3 b4 b5 b6 c1 c2 c3 c4 c5 c6:Bool,Builtin.bitAnd (Ds (sel b1 b2 b3 b4 b5 b6)) (Builtin.bitNot (Ds (sel c1 c2 c3 c4 c5 c6)))=Ds (sel (b1&& !c1) (b2&& !c2) (b3&& !c3) (b4&& !c4) (b5&& !c5) (b6&& !c6)):=by decide +kernel
theorem BU:∀b1 b2 b3 b4 b5 b6:Bool,decide (0<Ds (sel b1 b2 b3 b4 b5 b6))=(sel b1 b2 b3 b4 b5 b6).getLast?.isSome/\∀k∈(sel b1 b2 b3 b4 b5 b6).getLast?,((Builtin.Int.intBits (Ds (sel b1 b2 b3 b4 b5 b6)):Nat):Int)=k:=by decide +kernel
theorem Ag{p q:RP}(hp:p.1.length<=7)(hq:q.2.length<=7):AI p q=six.filter fun k=>WH q.2 k&& !WH p.1 k:=by
 unfold AI
 rw[vW hq,vW hp,List.filter_filter]
 refine List.filter_congr fun k hk=>?_
 have:decide (k∈six.filter (WH p.1))=WH p.1 k:=by
  rw[Bool.eq_iff_iff,decide_eq_true_iff,mem_filter]
  exact⟨fun h=>h.2,fun h=>⟨hk,h⟩⟩
 rw[this,Bool.and_comm]
theorem EH{p q:RP}(hp:p.1.length<=7)(hq:q.2.length<=7):Builtin.bitAnd (vB q.2) (Builtin.bitNot (vB p.1))=Ds (AI p q):=by
 unfold vB
 rw[vW hq,vW hp,Ag hp hq,rZ,rZ,rZ]
 exact J1 ..
theorem J2{p q:RP}(hp:p.1.length<=7)(hq:q.2.length<=7):decide (0<Ds (AI p q))=(AI p q).getLast?.isSome:=by
 rw[Ag hp hq,rZ]
 exact(BU ..).1
theorem J3{p q:RP}(hp:p.1.length<=7)(hq:q.2.length<=7){k:Int}(h:(AI p q).getLast?=some k):((Builtin.Int.intBits (Ds (AI p q)):Nat):Int)=k:=by
 rw[Ag hp hq,rZ]at h⊢
 exact(BU ..).2 k h
theorem zo:∀(l pre:List Int),AH pre l<=l.length*(pre.length+l.length)
 |[],pre=>by simp[AH]
 |x::l,pre=>by
  have h1:yJ x pre<=pre.length:=List.length_filter_le _ _
  have h2:=zo l (pre++[x])
  rw[length_append,length_singleton]at h2
  show yJ x pre+AH (pre++[x]) l<=(l.length+1)*(pre.length+(l.length+1))
  rw[Nat.add_mul,show pre.length+(l.length+1)=pre.length+1+l.length by omega]
  omega
theorem zp{n:Nat}{p:RP}(hn:n<=7)(h:Iv n p.1 p.2):yK p.1<=49:=by
 have h1:=zo p.1 []
 rw[h.lr,length_nil,zero_add]at h1
 have h2:n*n<=7*7:=Nat.mul_le_mul hn hn
 unfold yK
 omega
theorem EI{n:Nat}{p q:RP}(hp:Iv n p.1 p.2)(hq:Iv n q.1 q.2){k:Int}(h:k∈AI p q):∃j:Nat,k=(j:Int)+1/\j+1<n/\ah p.1 j<ah p.1 (j+1)/\ah q.2 (j+1)<ah q.2 j:=by
 unfold AI at h
 obtain⟨h1,h2⟩:=mem_filter.mp h
 obtain⟨j,e,h3,h4⟩:=Ae.mp h1
 rw[hq.ls]at h3
 have h5:k∉BL p.1:=by simpa using h2
 have h6:¬ah p.1 (j+1)<ah p.1 j:=fun z=>h5 (Ae.mpr ⟨j,e,by rw[hp.lr];exact h3,z⟩)
 have h7:ah p.1 j≠ah p.1 (j+1):=fun z=>by
  have:=hp.symm.Yb (v:=j) (w:=j+1) (by omega) h3 z
  omega
 exact⟨j,e,h3,by omega,h4⟩
theorem Ka{n:Nat}{p:RP}(h:Iv n p.1 p.2){j:Nat}(hj:j+1<n):Iv n (Dt p j).1 (Dt p j).2:=(h.symm.step hj).symm
theorem Kb{n:Nat}{p:RP}(h:Iv n p.1 p.2){j:Nat}(hj:j+1<n):Iv n (GX p j).1 (GX p j).2:=h.step hj
theorem BV{p q:RP}{k:Int}(f:Nat)(h:(AI p q).getLast?=some k):nV (f+1) p q=nV f (Dt p (k-1).toNat) (GX q (k-1).toNat):=by
 show(match (AI p q).getLast? with
  |none=>(p,q)
  |some k=>nV f (Dt p (k-1).toNat) (GX q (k-1).toNat))=_
 rw[h]
theorem BW{p q:RP}(f:Nat)(h:(AI p q).getLast?=none):nV f p q=(p,q):=by
 cases f with
 |zero=>rfl
 |succ f=>
  show(match (AI p q).getLast? with
   |none=>(p,q)
   |some k=>nV f (Dt p (k-1).toNat) (GX q (k-1).toNat))=_
  rw[h]
theorem Sx{n:Nat}{p:RP}(h:Iv n p.1 p.2){j:Nat}(hj:j+1<n)(hl:ah p.1 j<ah p.1 (j+1)):yK p.1<yK (Dt p j).1:=by
 have e:=Af p.1 j [] (by rw[h.lr];exact hj)
 show AH [] p.1<AH [] (lV p.1 j)
 rw[if_pos hl,if_neg (by omega)]at e
 omega
def nI(ls:List Nat):List Int:=ls.map fun(m:Nat)=>(m:Int)
def cP(kn:List RP)(ls:List Nat)(R:List RP):Prop:=ls.map (fun m=>kn[m]?)=R.map some
theorem cP.len {kn:List RP}{ls:List Nat}{R:List RP}(h:cP kn ls R):ls.length=R.length:=by
 have:=congrArg length h
 simpa using this
theorem cP.at {kn:List RP}{ls:List Nat}{R:List RP}(h:cP kn ls R){i:Nat}{r:RP}(e:R[i]?=some r):∃m,ls[i]?=some m/\kn[m]?=some r:=by
 have h1:(ls.map fun m=>kn[m]?)[i]?=(R.map some)[i]?:=by rw[show ls.map (fun m=>kn[m]?)=R.map some from h]
 rw[getElem?_map,getElem?_map,e]at h1
 cases h2:ls[i]? with
 |none=>rw[h2]at h1;cases h1
 |some m=>rw[h2]at h1;exact⟨m,rfl,Option.some.inj h1⟩
theorem cP.mem {kn:List RP}{ls:List Nat}{R:List RP}(h:cP kn ls R){m:Nat}(hm:m∈ls):m<kn.length:=by
 have:kn[m]?∈R.map some:=by rw[<-show ls.map (fun m=>kn[m]?)=R.map some from h];exact mem_map.mpr ⟨m,hm,rfl⟩
 obtain⟨r,_,e⟩:=mem_map.mp this
 exact(List.getElem?_eq_some_iff.mp e.symm).1
theorem cP.li {kn:List RP}{ls:List Nat}{R:List RP}(h:cP kn ls R):∀m∈nI ls,0<=m/\m<kn.length:=fun m hm=>by
 obtain⟨x,hx,rfl⟩:=mem_map.mp hm
 have:=h.mem hx
 omega
theorem cP.pre {kn mo:List RP}{ls:List Nat}{R:List RP}(h:cP kn ls R):cP (kn++mo) ls R:=by
 unfold cP
 rw[<-show ls.map (fun m=>kn[m]?)=R.map some from h]
 refine map_congr_left fun m hm=>?_
 rw[getElem?_append_left (h.mem hm)]
theorem cP.app {kn:List RP}{ls:List Nat}{R:List RP}(h:cP kn ls R){m:Nat}{r:RP}(e:kn[m]?=some r):cP kn (ls++[m]) (R++[r]):=by
 unfold cP
 rw[map_append,map_append,show ls.map (fun m=>kn[m]?)=R.map some from h]
 simp[e]
theorem cP.set {kn:List RP}{ls:List Nat}{R:List RP}(h:cP kn ls R)(i:Nat){m:Nat}{r:RP}(e:kn[m]?=some r):cP kn (ls.set i m) (R.set i r):=by
 unfold cP
 rw[map_set,map_set,show ls.map (fun m=>kn[m]?)=R.map some from h,e]
theorem cP.drop {kn:List RP}{ls:List Nat}{R:List RP}(h:cP kn ls R):cP kn ls.dropLast R.dropLast:=by
 unfold cP
 rw[map_dropLast,map_dropLast,show ls.map (fun m=>kn[m]?)=R.map some from h]
theorem lg(ls:List Nat):(nI ls).length=ls.length:=length_map _
def Lp:List RP->RP->List RP
 |[],c=>[c]
 |p::ps,c=>if(nV 50 p c).1=p then c::p::ps else(nV 50 p c).2::Lp ps (nV 50 p c).1
def Kc(R:List RP)(p:RP):List RP:=(Lp R.reverse p).reverse
def mV(n:Nat)(R:List RP)(p:RP):List RP:=if(Kc R p).getLast?=some (upTo n,upTo n)then(Kc R p).dropLast else Kc R p
theorem EJ:∀(R:List RP)(p:RP),(Lp R p).length=R.length+1
 |[],p=>rfl
 |r::R,p=>by
  unfold Lp
  split
  ·rfl
  ·rw[length_cons,EJ R,length_cons]
theorem vX(R:List RP)(p:RP):(Kc R p).length=R.length+1:=by unfold Kc;rw[length_reverse,EJ,length_reverse]
theorem iA.BX {C:Addr}{H:Hp}{a:Addr}{A:Ad}{ex:List (Str×V)}{n:Nat}{kn:List RP}{ln:List Int}{B:Nat}{nu sh lo ke:List (List Key×V)}(c:iA C H a A ex n kn ln B nu sh lo ke){Yg:List Int}(h:∀m∈Yg,0<=m/\m<kn.length):
  iA C (upd H A.li (.lst (Yg.map V.int))) a A ex n kn Yg B nu sh lo ke:=by
 have nd:∀{x:Addr}{xs:List (List Key×V)},H x=some (.dT xs)->x≠A.li:=fun h1=>bD h1 c.hli (by intro z;cases z)
 have nt:∀{x:Addr}{xs:List V},H x=some (.tup xs)->x≠A.li:=fun h1=>bD h1 c.hli (by intro z;cases z)
 obtain⟨⟨n1,n2,n3,n4,n5,n6⟩,_,Sq,⟨d1,d2,d3,d4,d5,d6,d7,d8,d9⟩,WE⟩:=c.So
 have kp:∀x o,x≠A.li->H x=some o->(upd H A.li (.lst (Yg.map V.int))) x=some o:=fun x o hx h=>by rw[ae hx];exact h
 refine⟨kp _ _ (bD c.ob c.hli (by intro z;cases z)) c.ob,?_,c.nd,kp _ _ n3 c.hkn,c.BQ,fun i b p e1 e2=>kp _ _ (Sq b (mem_of_getElem? e1)).2.2.2 (c.hks i b p e1 e2),kp _ _ (nd c.yL) c.yL,kp _ _ n5 c.yp,kp _ _ n6 c.hla,kp _ _ (nd c.hsh) c.hsh,kp _ _ (nd c.hlo) c.hlo,kp _ _ (nd c.hke) c.hke,ak,c.rw,c.n1,c.n2,c.s1,c.l1,fun i j v e=>?_,c.z,h⟩
 ·obtain⟨o,h⟩:=c.dx
  exact⟨o,kp _ _ d8 h⟩
 ·obtain⟨t,i',j',p,q,h1,h2,h3,h4,h5⟩:=c.k1 i j v e
  exact⟨t,i',j',p,q,h1,h2,h3,kp _ _ (nt h4) h4,h5⟩
theorem iA.inj {C:Addr}{H:Hp}{a:Addr}{A:Ad}{ex:List (Str×V)}{n:Nat}{kn:List RP}{ln:List Int}{B:Nat}{nu sh lo ke:List (List Key×V)}(c:iA C H a A ex n kn ln B nu sh lo ke){i j:Nat}{p q:RP}(hi:kn[i]?=some p)(hj:kn[j]?=some q):((i:Int)=j↔p=q):=by
 constructor
 ·intro e
  have:i=j:=by omega
  subst this
  rw[hi]at hj
  exact Option.some.inj hj
 ·rintro rfl
  have h1:=c.n1 i p hi
  rw[c.n1 j p hj]at h1
  injection h1 with h1
  injection h1 with h1
  exact h1.symm
theorem iA.Kd {n:Nat}:∀(f:Nat){p q:RP},Iv n p.1 p.2->Iv n q.1 q.2->Iv n (nV f p q).1.1 (nV f p q).1.2/\Iv n (nV f p q).2.1 (nV f p q).2.2
 |0,p,q,h1,h2=>⟨h1,h2⟩
 |f+1,p,q,h1,h2=>by
  cases hl:(AI p q).getLast? with
  |none=>rw[BW _ hl];exact⟨h1,h2⟩
  |some k=>
   rw[BV f hl]
   obtain⟨j,rfl,hj,_⟩:=EI h1 h2 (List.mem_of_getLast? hl)
   rw[show((j:Int)+1-1).toNat=j by omega]
   exact iA.Kd f (Ka h1 hj) (Kb h2 hj)
theorem wA{α:Type}{l:List α}{x:α}(h:l.getLast?=some x):iN l (-1)=some x:=by
 obtain⟨ys,rfl⟩:=List.getLast?_eq_some_iff.mp h
 unfold L2.iN L2.qZ
 rw[if_neg (by decide),length_append,length_singleton,if_pos (by omega)]
 simp
 rw[show(-1+((ys.length:Int)+1)).toNat=ys.length by omega]
 simp
theorem EK{α:Type}{l:List α}{x:α}(h:l.getLast?=some x):l[l.length-1]?=some x:=by
 obtain⟨ys,rfl⟩:=List.getLast?_eq_some_iff.mp h
 simp
theorem cP.last {kn:List RP}{ls:List Nat}{R:List RP}(h:cP kn ls R)(hp:0<R.length):∃m r,ls.getLast?=some m/\R.getLast?=some r/\kn[m]?=some r:=by
 have e:R[R.length-1]?=some (R[R.length-1]'(by omega)):=getElem?_eq_getElem (by omega)
 obtain⟨m,h1,h2⟩:=h.at e
 refine⟨m,_,?_,?_,h2⟩
 ·rw[List.getLast?_eq_getElem?,h.len];exact h1
 ·rw[List.getLast?_eq_getElem?];exact e
theorem Sy(ls:List Nat)(m:Nat):(nI (ls++[m])).map V.int=(nI ls).map V.int++[V.int m]:=by unfold nI;simp
theorem uw{ls:List Nat}{i m:Nat}(h:ls[i]?=some m):((nI ls).map V.int)[i]?=some (V.int m):=by unfold nI;rw[getElem?_map,getElem?_map,h];rfl
theorem Ke(ls:List Nat)(i m:Nat):((nI ls).map V.int).set i (V.int m)=(nI (ls.set i m)).map V.int:=by unfold nI;rw[map_set,map_set]
theorem EL(ls:List Nat):((nI ls).map V.int).dropLast=(nI ls.dropLast).map V.int:=by unfold nI;rw[map_dropLast,map_dropLast]
theorem vY{ls:List Nat}{m:Nat}(h:ls.getLast?=some m):((nI ls).map V.int).getLast?=some (V.int m):=by unfold nI;rw[List.getLast?_map,List.getLast?_map,h];rfl
theorem Kf{R:List RP}{t:Nat}{r c:RP}(h:R[t]?=some r):Lp (R.take (t+1)).reverse c=if(nV 50 r c).1=r then c::(R.take (t+1)).reverse else(nV 50 r c).2::Lp (R.take t).reverse (nV 50 r c).1:=by
 have e:R.take (t+1)=R.take t++[r]:=by rw[take_succ,h];rfl
 rw[e,List.reverse_append]
 rfl
theorem iA.PQ {C:Addr}{H:Hp}{a:Addr}{A:Ad}{ex:List (Str×V)}{n:Nat}{kn:List RP}{ln:List Int}{B:Nat}{nu sh lo ke:List (List Key×V)}(c:iA C H a A ex n kn ln B nu sh lo ke)(XI:List (Str×V)):
  iA C (upd H a (.ins C A.dx (vA A++XI))) a A XI n kn ln B nu sh lo ke:=by
 have nl:∀{x:Addr}{xs:List V},H x=some (.lst xs)->x≠a:=fun h1=>bD h1 c.ob (by intro z;cases z)
 have nd:∀{x:Addr}{xs:List (List Key×V)},H x=some (.dT xs)->x≠a:=fun h1=>bD h1 c.ob (by intro z;cases z)
 have nt:∀{x:Addr}{xs:List V},H x=some (.tup xs)->x≠a:=fun h1=>bD h1 c.ob (by intro z;cases z)
 obtain⟨_,_,_,⟨d1,d2,d3,d4,d5,d6,d7,d8,d9⟩,_⟩:=c.So
 have kp:∀x o,x≠a->H x=some o->(upd H a (.ins C A.dx (vA A++XI))) x=some o:=fun x o hx h=>by rw[ae hx];exact h
 refine⟨ak,?_,c.nd,kp _ _ (nl c.hkn) c.hkn,c.BQ,fun i b p e1 e2=>kp _ _ (nl (c.hks i b p e1 e2)) (c.hks i b p e1 e2),kp _ _ (nd c.yL) c.yL,kp _ _ (nl c.yp) c.yp,kp _ _ (nl c.hla) c.hla,kp _ _ (nd c.hsh) c.hsh,kp _ _ (nd c.hlo) c.hlo,kp _ _ (nd c.hke) c.hke,kp _ _ (nl c.hli) c.hli,c.rw,c.n1,c.n2,c.s1,c.l1,fun i j v e=>?_,c.z,c.li⟩
 ·obtain⟨o,h⟩:=c.dx
  exact⟨o,kp _ _ (Ne.symm d9) h⟩
 ·obtain⟨t,i',j',p,q,h1,h2,h3,h4,h5⟩:=c.k1 i j v e
  exact⟨t,i',j',p,q,h1,h2,h3,kp _ _ (nt h4) h4,h5⟩
theorem jh{H:Hp}{a C dx:Addr}{fs:List (Str×V)}(hob:H a=some (.ins C dx fs)){l:Addr}(hl:H l=none)(o:HO)(f:Str):
  l≠a/\(upd H l o) a=some (.ins C dx fs)/\(upd (upd H l o) a (.ins C dx (jQ f (.ref l) fs))) a=some (.ins C dx (jQ f (.ref l) fs))/\(upd (upd H l o) a (.ins C dx (jQ f (.ref l) fs))) l=some o/\(∀x u,x≠a->H x=some u->(upd (upd H l o) a (.ins C dx (jQ f (.ref l) fs))) x=some u)/\∀x,(upd (upd H l o) a (.ins C dx (jQ f (.ref l) fs))) x=none->H x=none:=by
 have hla:l≠a:=fun z=>by rw[z,hob]at hl;cases hl
 refine⟨hla,by rw[ae (Ne.symm hla)];exact hob,ak,by rw[ae hla];exact ak,fun x u hx h=>?_,fun x hx=>?_⟩
 ·rw[ae hx,ae (fun z=>by rw[z,hl]at h;cases h)]
  exact h
 ·by_cases z:x=a
  ·rw[z,ak]at hx;cases hx
  ·rw[ae z]at hx
   by_cases z2:x=l
   ·rw[z2];exact hl
   ·rw[ae z2]at hx;exact hx
def Kg(n:Nat):RP:=((upTo n).reverse,(upTo n).reverse)
def yN(n:Nat)(R:List RP):Nat:=(R.takeWhile fun r=>decide (r=Kg n)).length
def uZ(n:Nat)(R:List RP):D:=.tup [.int (yN n R),.lst ((R.drop (yN n R)).map fun p=>D.lst (aO p.1))]
theorem BZ{n:Nat}{R:List RP}{i:Nat}(h:∀j<i,R[j]?=some (Kg n))(hs:R[i]?≠some (Kg n)):yN n R=i:=by
 induction R generalizing i with
 |nil=>
  cases i with
  |zero=>rfl
  |succ i=>have:=h 0 (by omega);simp at this
 |cons r R ih=>
  unfold yN
  cases i with
  |zero=>
   have hr:¬r=Kg n:=fun e=>hs (by rw[e];rfl)
   rw[List.takeWhile_cons_of_neg (by simp[hr])]
   rfl
  |succ i=>
   have hr:r=Kg n:=by have:=h 0 (by omega);simpa using this
   rw[List.takeWhile_cons_of_pos (by simp[hr]),length_cons]
   have:=ih (i:=i) (fun j hj=>by have:=h (j+1) (by omega);simpa using this) (by simpa using hs)
   unfold yN at this
   rw[this]
theorem Kh(n:Nat)(R:List RP)(p:RP):(mV n R p).length<=R.length+1:=by
 unfold mV
 split
 ·rw[List.length_dropLast,vX];omega
 ·rw[vX];omega
def EO(r:List Int):List Int:=(upTo r.length).map fun v=>((r.idxOf v:Nat):Int)
theorem Kj{n:Nat}{r:List Int}(h:dY n r):Iv n r (EO r):=by
 obtain⟨s,iv⟩:=Sf h
 have e:EO r=s:=by
  refine lU (by unfold EO;rw[length_map,aV,iv.lr,iv.ls]) fun j hj=>?_
  have Dj:j<n:=by unfold EO at hj;rwa [length_map,aV,iv.lr]at hj
  have hg:(EO r)[j]?=some ((r.idxOf (j:Int):Nat):Int):=by
   unfold EO
   rw[getElem?_map,xx _ j (by rw[iv.lr];exact Dj)]
   rfl
  rw[<-(iv.idx Dj).2]
  unfold ah
  rw[hg]
  rfl
 rw[e]
 exact iv
def gA(n:Nat)(rs:List (List Int)):List RP:=rs.foldl (fun R r=>mV n R (r,EO r)) []
theorem GY{n:Nat}{rs:List (List Int)}{i:Nat}{r:List Int}(h:rs[i]?=some r):gA n (rs.take (i+1))=mV n (gA n (rs.take i)) (r,EO r):=by
 unfold gA
 rw[take_succ,h,foldl_append]
 rfl
theorem se(n:Nat):∀(rs:List (List Int))(R:List RP),(rs.foldl (fun R r=>mV n R (r,EO r)) R).length<=R.length+rs.length
 |[],R=>le_refl _
 |r::rs,R=>by
  have h:=se n rs (mV n R (r,EO r))
  have h2:=Kh n R (r,EO r)
  rw[foldl_cons,length_cons]
  omega
def tCI(K:PySem.W.Frag)(caps:List Nat)(tl te:TE):TE:=fun σ H Q=>HG K tl σ H fun J H1=>∃(l:Addr)(xs vs:List V),J=QI K l/\cV K H1 l xs/\vs.length=caps.length/\(∀(j i:Nat)(v:V),caps[j]?=some i->vs[j]?=some v->σ[i]?=some (some v))/\
 ∀Dd,H1 Dd=none->∃Pv:Nat->List V->Hp->Prop,Pv 0 [] (upd H1 Dd (.lst []))/\(∀i acc Hx,Pv i acc Hx->cV K Hx l xs/\Hx Dd=some (.lst acc))/\
  (∀i acc Hx x,Pv i acc Hx->xs[i]?=some x->te (some x::vs.map some) Hx fun v H2=>H2 Dd=some (.lst acc)/\acc.length<sizeLine/\Pv (i+1) (acc++[v]) (upd H2 Dd (.lst (acc++[v]))))/\∀acc Hx,Pv xs.length acc Hx->Q (.ref Dd) Hx
section
variable{X:Cx}{pos:Pos}{scope:Scope}{N:List Str}{caps:List Nat}
theorem Kl{elt tg iter:Expr}{tl te:TE}(S:fY X scope N 1 caps)(jx:X.calm=true)(hi:PI X tg iter (HG X.K tl))(hg:∀s H fp C pl,PG (lJ X scope N s H fp C pl) tg (HC 0))(he:∀s H fp C pl,PE (lJ X scope N s H fp C pl) elt te)
  (hs:∀x,foldedSetIterable iter X.env x=pure x:=by intro _;rfl):PE X (.ListComp elt [⟨tg,iter,[],0⟩] scope pos) (tCI X.K caps tl te):=by
 intro pins s σ H Q I h
 rw[eval_ListComp]
 refine wpAny_comprehension_free (use:=none) rfl hs (kW (S.cells I)) S.kind S.names ?_
 refine bG (hi pins s σ H (fun J H1=>∃(l:Addr)(xs vs:List V),J=QI X.K l/\cV X.K H1 l xs/\vs.length=caps.length/\(∀(j i:Nat)(v:V),caps[j]?=some i->vs[j]?=some v->σ[i]?=some (some v))/\
  ∀Dd,H1 Dd=none->∃Pv:Nat->List V->Hp->Prop,Pv 0 [] (upd H1 Dd (.lst []))/\(∀i acc Hx,Pv i acc Hx->cV X.K Hx l xs/\Hx Dd=some (.lst acc))/\
   (∀i acc Hx x,Pv i acc Hx->xs[i]?=some x->te (some x::vs.map some) Hx fun v H2=>H2 Dd=some (.lst acc)/\acc.length<sizeLine/\Pv (i+1) (acc++[v]) (upd H2 Dd (.lst (acc++[v]))))/\∀acc Hx,Pv xs.length acc Hx->Q (.ref Dd) Hx) I ?_) fun v s1 h1=>bG h1 fun itv s2 h2=>?_
 ·exact h
 obtain⟨it,fp,tn,J,H2,rfl,I2,T,FU,f2,l,xs,vs,rfl,hq,Rf,hvs,hinv⟩:=h2
 refine wpAny_newObj_type (wpAny_newFunctionEnv S.cell (by intro y hy;simp at hy) (fun h₁ wJ hsb₁=>?_) S.kind)
 dsimp only at wJ hsb₁⊢
 have Hl:H2 s2.heap.objs.size=none:=I2.hok.fresh (le_refl _)
 have I3:Inv X pins σ (upd H2 s2.heap.objs.size (.lst [])) {s2 with heap:=s2.heap.push {cls:=.type "list",dict:=none,data:=.seq ([]:List Value).toArray}}:=
  I2.laid (t':=s2.toks) (fun b u e=>Heap.get?_push_of_some _ e) (le_refl _) ⟨zero_le _,[],0,.nil,Heap.get?_push_size _ rfl⟩
 generalize Ot:({s2 with heap:=s2.heap.push {cls:=.type "list",dict:=none,data:=.seq ([]:List Value).toArray}}:Shared)=s3 at I3
 have IA:s3.heap=s2.heap.push {cls:=.type "list",dict:=none,data:=.seq ([]:List Value).toArray}:=by rw[<-Ot]
 rw[<-IA]at wJ hsb₁⊢
 generalize Vj:s2.heap.objs.size=Dd at*
 have k3:∀b o,s3.heap.get? b=some o->h₁.get? b=some o:=fun b o e=>hsb₁.extBut b o (ne_of_lt (Heap.lt_size e)) (Heap.get?_push_of_some _ e)
 have Bb:∀b∈fp,∃o,s2.heap.get? b=some o:=fun b hb=>let⟨o,e,_⟩:=T.obj 0 _ FU b hb;⟨o,e⟩
 have IB:∀b∈fp,∃o,s3.heap.get? b=some o:=fun b hb=>let⟨o,e⟩:=Bb b hb;⟨o,by rw[IA];exact Heap.get?_push_of_some _ e⟩
 have Vk:∀b∈fp,b≠Dd:=fun b hb=>let⟨o,e⟩:=Bb b hb;by rw[<-Vj];exact ne_of_lt (Heap.lt_size e)
 have f3:∀b∈fp,kg X pins (upd H2 Dd (.lst [])) b:=fun b hb=>⟨by rw[ae (Vk b hb)];exact(f2 b hb).1,(f2 b hb).2⟩
 have I4:=S.start (t':=s2.toks+([]:List (Str×Value)).length) I3 f3 (le_refl _) wJ k3 IB Rf (fun j i v e1 e2=>hvs j i v e1 e2) _ rfl
 generalize hX:lJ X scope N s3 (upd H2 Dd (.lst [])) fp s3.heap.objs.size (X.pn++pins)=X' at I4
 have Ou:=hg s3 (upd H2 Dd (.lst [])) fp s3.heap.objs.size (X.pn++pins)
 have Vm:=he s3 (upd H2 Dd (.lst [])) fp s3.heap.objs.size (X.pn++pins)
 rw[hX]at Ou Vm
 have eK:X'.K=X.K:=by rw[<-hX];rfl
 have eP:X'.prog=X.prog:=by rw[<-hX];rfl
 have eW:X'.w=X.w:=by rw[<-hX];rfl
 have eA:X'.A=X.A:=by rw[<-hX];rfl
 have eE:X'.xe=fun _ _=>False:=by rw[<-hX];rfl
 have eC:X'.calm=true:=by rw[<-hX];exact jx
 have eL:X'.env.locals=s3.heap.objs.size:=by rw[<-hX];rfl
 have eS:X'.s₀=s3:=by rw[<-hX];rfl
 have eX:X'.ex=fp:=by rw[<-hX];rfl
 have eF:X'.fs=wk X.stack:=by rw[<-hX];rfl
 have eN:X'.pn=X.pn++pins:=by rw[<-hX];rfl
 have eH:X'.H₀=upd H2 Dd (.lst []):=by rw[<-hX];rfl
 have eV:X'.env=compEnvC scope (yn X.env.cells scope.names []) s3.heap.objs.size X.env:=by rw[<-hX];rfl
 have Lg:∀{Hx:Hp},(∀b∈fp,Hx b=none)->∀b∈fp,kg X' [] Hx b:=fun{Hx} hn b hb=>by
  obtain⟨_,c1,c2,c3,c4,c5⟩:=f3 b hb
  have q:=I4.ok.Oa b (by rw[eX];exact hb)
  refine⟨hn b hb,q.1,I4.ok.yu b (by rw[eX];exact hb),.inl (by rw[eX];exact hb),q.2,fun p hp=>?_⟩
  rw[eN,append_nil]at hp
  exact c5 p hp
 obtain⟨Pv,pv0,pvl,pvs,pvd⟩:=hinv Dd Hl
 have loop:∀s4:Shared,Inv X' [] (replicate 1 none++vs.map some) (upd H2 Dd (.lst [])) s4->tn 0 s4.heap->
   codeAny (model X.prog X.w) X.A (.compLoop (.ListComp elt [⟨tg,iter,[],0⟩] scope pos) 0 (.ref it) (.ref Dd) (compEnvC scope (yn X.env.cells scope.names []) s3.heap.objs.size X.env))
    (compPost (model X.prog X.w) X.A X.xe none (EP X pins σ Q) (.ref Dd) s3.heap.objs.size) s4:=by
  intro s4 J4 Bc
  refine uV (fun n s'=>∃(i:Nat)(acc:List V)(Hx:Hp)(t0:Option V),n=xs.length-i/\i<=xs.length/\Inv X' [] (t0::vs.map some) Hx s'/\tn i s'.heap/\(∀b∈fp,Hx b=none)/\Pv i acc Hx) ?_ xs.length
   ⟨0,[],_,none,by simp,zero_le _,J4,Bc,fun b hb=>(f3 b hb).1,pv0⟩
  rintro n s5 ⟨i,acc,Hx,t0,rfl,hi5,J5,HJ,Hh,p5⟩
  obtain⟨hq5,Md⟩:=pvl i acc Hx p5
  by_cases hlt:i<xs.length
  ·have hx:xs[i]?=some xs[i]:=getElem?_eq_getElem hlt
   have TI:=T.item X' eP eW eK eC i [] s5 _ Hx (fun _ _=>False) J5 (Lg Hh) HJ ⟨xs,xs[i],hq5,hx⟩
   rw[eA]at TI
   refine bG TI fun r s6 h6=>?_
   obtain⟨u,rfl,h6⟩:=h6
   refine bG h6 fun _ s7 h7=>?_
   obtain⟨x,H7,J7,rx,⟨rfl,hy⟩,IC,Vo⟩:=h7
   have exi:=hy xs hq5
   have Vp:=J7.pinned (Lg Vo) (T.obj _ _ IC)
   have TG:=Ou _ s7 _ H7 x u (fun σ8 H8=>σ8=some x::vs.map some/\H8=H7) Vp rx ⟨rfl,rfl⟩
   rw[eP,eW,eA,eE,eV]at TG
   refine bG TG fun _ s8 h8=>?_
   obtain⟨σ8,H8,J8,rfl,rfl⟩:=h8
   refine bG (wpAny_tests_nil (Q:=fun b s'=>b=true/\s'=s8) ⟨rfl,rfl⟩) fun ok s9 h9=>?_
   obtain⟨rfl,rfl⟩:=h9
   have wK:∀{σx:St}{Hy:Hp}{sx:Shared},Inv X' ([]++my fp s7.heap) σx Hy sx->tn (i+1) sx.heap/\∀b∈fp,Hy b=none:=fun{σx Hy sx} Jx=>
    ⟨T.keep _ _ _ IC fun b hb o e=>(Jx.pin (b,o) (mem_append_right _ (mem_append_right _ (eM hb e)))).1,fun b hb=>by
     obtain⟨o,e,d⟩:=T.obj _ _ IC b hb
     exact(Jx.pin (b,o) (mem_append_right _ (mem_append_right _ (eM hb e)))).2.1⟩
   rw[if_pos rfl]
   have TE:=Vm _ s9 _ H8 _ J8 (pvs i acc H8 x p5 exi)
   rw[eP,eW,eA,eE,eV]at TE
   refine bG TE fun y Gq Vr=>?_
   obtain⟨v,rG,Vs,rv,IF,hlen,p10⟩:=Vr
   have TM:=dO (X:=X') _ Gq _ rG (.ref Dd) [v] (.ref Dd) [y] (fun _ Mf=>Mf=upd rG Dd (.lst (acc++[v]))) Vs rfl (.cons rv .nil) ⟨Dd,acc,v,rfl,rfl,IF,hlen,rfl⟩
   rw[eP,eW,eA,eE]at TM
   refine bG TM fun _ Vu h11=>?_
   obtain⟨v',Mf,Ov,_,rfl⟩:=h11
   obtain⟨k1,k2⟩:=wK Ov
   exact⟨xs.length-(i+1),by omega,i+1,acc++[v],_,some x,rfl,hlt,Ov.jd,k1,k2,p10⟩
  ·have e:i=xs.length:=by omega
   subst e
   have TD:=T.done X' eP eW eK eC xs.length [] s5 _ Hx (fun _ _=>False) J5 (Lg Hh) HJ ⟨xs,hq5,le_refl _⟩
   rw[eA]at TD
   refine bG TD fun r s6 h6=>?_
   obtain⟨rfl,J6⟩:=h6
   obtain⟨m6,IG,_⟩:=J6.loc
   rw[eL]at IG
   have Vv:Un (wk X.stack) fp (upd H2 Dd (.lst [])) Hx s3.heap s6.heap:=by
    have u:=J6.base
    rw[eF,eX,eH,eS]at u
    exact u
   have hxC:Hx s3.heap.objs.size=none:=by have:=J6.free;rw[eL]at this;exact this
   have Ri:mw X.prog X.w Hx s6.heap:=by
    have z:=J6.hok
    rw[eP,eW]at z
    exact z
   have Vw:s6.os=s3.os:=by have:=J6.os;rw[eS]at this;exact this
   have I6:Inv X pins σ Hx s6:=I3.nz (s':=s6) Vw Vv Ri J6.bare fun b hb=>by
    obtain⟨_,c1,c2,c3,c4,c5⟩:=f3 b hb
    exact⟨c3,c1,c4,c5⟩
   have fC:kg X pins Hx s3.heap.objs.size:=⟨hxC,(I3.CI (le_refl _) (I3.hok.fresh (le_refl _))).2⟩
   refine⟨m6,IG,fun h7 ZI=>⟨.ref Dd,Hx,A9 (fp:=[s3.heap.objs.size]) (t':=s6.toks) I6 (fun b hb=>by
    have z:b=s3.heap.objs.size:=by simpa using hb
    rw[z];exact fC) (fun b u hb e=>(ZI.2 b (fun z=>hb (by simp[z]))).trans e),rfl,pvd acc Hx p5⟩⟩
 have Bc:tn 0 h₁:=T.keep _ _ _ FU fun b hb o e=>k3 b o (by rw[IA];exact Heap.get?_push_of_some _ e)
 have eG:({heap:=h₁,gens:=s3.gens,drawn:=s3.drawn,toks:=s2.toks+([]:List (Str×Value)).length,os:=s3.os}:Shared)={heap:=h₁,gens:=s2.gens,drawn:=s2.drawn,toks:=s2.toks+([]:List (Str×Value)).length,os:=s2.os}:=by rw[<-Ot]
 rw[eG]at I4
 exact codeAny_compStart_list (loop _ I4 Bc) (T.self _ 0 _ _ _ Bc (loop _ I4 Bc))
end
def jX(env:DE):R Bool:=
 R.ok true
def jY(env:DE):R D:=
 (R.bind (ck 0 env) fun jj=>R.bind (R.ok (D.int 0)) fun gI=>A8 jj gI)
def ER(env:DE):R Out:=
 (R.bind (R.bind (R.bind (R.bind (R.bind (R.bind (ck 4 env) fun v6=>R.bind (R.ok (D.int 0)) fun v7=>A8 v6 v7) fun v4=>R.bind (R.bind (R.bind (R.bind (ck 1 env) uU) fun v9=>R.bind (eR env []) fun v10=>R.bind (R.ne (bh (bN 0) jX jY (eT 1 v10) v9)) fit) fun v8=>R.of (Em v8)) fun v5=>R.of (kD v4 v5)) fun v2=>R.bind (R.bind (R.bind (ck 4 env) fun lL=>R.bind (R.ok (D.int 1)) fun mR=>A8 lL mR) fun kc=>R.bind (R.ok []) fun kY=>R.ok (kc::kY)) fun v3=>R.ok (v2::v3)) fit) fun ds=>R.ok (D.tup ds)) fun v1=>R.ok (Out.rt v1))
def dN(ds:List D):R D:=match ds with
 |[.int n,d]=>R.ne (R.bind (bf [d]) fun rs=> @ite _ ((1<=n/\n<=7)/\rs.length<=40/\∀r∈rs,dY n.toNat r) (propDecidable _) (R.bind (ER [.val (.int n),.val d,.no,.no,.val (uZ n.toNat (gA n.toNat rs))]) ai) .bad)
 |_=>.bad
def Km(env:DE):R Out:=
 (R.bind (R.bind (R.bind (ck 0 env) fun v2=>R.bind (R.bind (R.bind (R.bind (ck 0 env) fun v6=>R.bind (R.bind (ck 1 env) fun v8=>R.bind (R.ok []) fun v9=>R.ok (v8::v9)) fun v7=>R.ok (v6::v7)) dJ) fun v4=>R.bind (R.ok []) fun v5=>R.ok (v4::v5)) fun v3=>R.ok (v2::v3)) dN) fun v1=>R.ok (Out.rt v1))
def pB:=mD 2 2 Km
def kI(d:D)(env:DE):R Out:=
 R.bind ((bN 4) d env) fun JD=>
  (R.bind (ownAt 3 JD) fun MT=>R.bind (R.bind (R.bind (R.bind (R.bind (R.bind (R.bind (R.ok (D.str "row")) fun Ll=>R.bind (R.ok []) fun M4=>R.ok (Ll::M4)) fit) fun MV=>R.bind (tQ 4 JD) fun MX=>fit (MV++MX)) fun MU=>R.ok (D.lst MU)) fun Pz=>R.bind (R.ok []) fun MS=>R.ok (Pz::MS)) gz) fun Hs=>Mu 3 JD MT Hs)
def xD(env:DE):R Out:=
 (aX (R.bind (R.bind (R.bind (ck 0 env) fun v3=>R.bind (R.ok []) fun v4=>R.ok (v3::v4)) ar) fun v2=>R.ok (Out.nx (List.set env 1 (Sl.val v2)))) fun v1=>
 (aX (R.bind (R.bind (R.bind (R.bind (ck 1 v1) fun v9=>R.bind (R.ok (D.int 0)) fun v10=>A8 v9 v10) fun v7=>R.bind (R.bind (R.bind (ck 1 v1) fun jj=>R.bind (R.ok (D.int 1)) fun gI=>A8 jj gI) fun v11=>R.bind (R.ok []) fun jT=>R.ok (v11::jT)) fun v8=>R.ok (v7::v8)) pB) fun v6=>R.ok (Out.nx (List.set v1 2 (Sl.val v6)))) fun v5=>
 (aX (R.bind (R.bind (R.bind (R.bind (R.bind (R.bind (R.bind (R.bind (R.ok (D.str "halves")) fun oA=>R.bind (R.bind (R.bind (ck 2 v5) fun Aa=>R.bind (R.ok (D.int 0)) fun yF=>A8 Aa yF) fun vz=>R.bind (R.ok []) fun yG=>R.ok (vz::yG)) fun uj=>R.ok (oA::uj)) fit) fun qv=>R.ok (D.lst qv)) fun oy=>R.bind (R.ok []) fun v20=>R.ok (oy::v20)) gz) fun lL=>R.bind (R.ok []) fun mR=>R.ok (lL::mR)) fit) fun kY=>R.ok (Out.nx (List.set v5 3 (Sl.own kY)))) fun kc=>
 (aX (R.bind (R.bind (R.bind (ck 2 kc) fun MZ=>R.bind (R.ok (D.int 1)) fun M0=>A8 MZ M0) uU) fun GJ=>fq kI GJ kc) fun Dg=>
 (R.bind (R.bind (R.ok (D.str "")) fun R7=>R.bind (cB R7) fun R6=>R.bind (tQ 3 Dg) fun R4=>R.of (rO R6 R4)) fun Ln=>R.ok (Out.rt Ln))))))
def dQ:=nJ 1 5 xD
def lW:=fun ds=>R.ne (dQ ds)
def dZ(env:DE):R Out:=
 (R.bind (R.ne (R.bind (br 1 env) fun v5=>R.bind (R.ok (D.int 0)) fun v6=>R.bind (R.of (CC v5 v6)) mr)) fun v4=>if v4=true then(R.bind (R.ne (R.bind (br 0 env) fun v8=>R.bind (R.ok []) fun v9=>R.ok (v8::v9))) fun v7=>R.bind (dQ v7) fun _=>R.ok (Out.nx env))else(R.bind (R.ne (R.bind (br 1 env) fun v11=>R.bind (R.ok (D.int 1)) fun jT=>R.bind (R.of (CC v11 jT)) mr)) fun v10=>if v10=true then(R.bind (R.ne (R.bind (br 0 env) fun gI=>R.bind (R.bind (R.ok (D.str "2: 1")) fun kY=>R.bind (R.ok []) fun lL=>R.ok (kY::lL)) fun kc=>R.ok (gI::kc))) fun jj=>R.bind (bK jj) fun _=>R.ok (Out.nx env))else(R.bind (R.ne (R.bind (R.ok (D.str "2: 1")) fun oy=>R.bind (R.bind (br 0 env) fun qv=>R.bind (R.ok []) fun oA=>R.ok (qv::oA)) fun v20=>R.ok (oy::v20))) fun mR=>R.bind (bK mR) fun _=>R.ok (Out.nx env))))
def kJ(env:DE):R Out:=
 (R.bind (ck 3 env) fun uj=>R.ok (Out.nx (List.set env 2 (Sl.val uj))))
def pC(env:DE):R Out:=
 (aX (R.bind (R.ok D.non) fun v2=>R.ok (Out.nx (List.set env 2 (Sl.val v2)))) fun v1=>
 (aX (tryD 3 ["BadText","NoWord"] dZ kJ v1) fun v3=>
 (R.bind (ck 2 v3) fun vz=>R.ok (Out.rt vz))))
def dz:=mD 2 4 pC
def B0(env:DE):R Bool:=
 R.ok true
def xE(env:DE):R D:=
 (R.bind (R.bind (R.ok (D.str " ")) fun Wi=>R.bind (R.bind (R.ok (D.int 1)) fun Wr=>R.bind (R.bind (R.bind (br 1 env) fun Wo=>R.bind (R.ok (D.int 3)) fun Wm=>R.of (ud Wo Wm)) fun Wq=>R.bind (R.ok (D.int 2)) fun Wl=>R.of (mH Wq Wl)) fun PD=>R.of (kD Wr PD)) fun Wj=>R.of (Bt Wi Wj)) fun Wh=>R.bind (R.bind (R.bind (br 0 env) fun Wx=>R.bind (R.ok []) fun Wy=>R.ok (Wx::Wy)) fun Wn=>R.of (oR Wn)) fun MY=>R.of (dC Wh MY))
def B1(env:DE):R Bool:=
 R.ok true
def xF(env:DE):R D:=
 (R.bind (R.ok (D.str " ")) fun aaQ=>R.bind (R.bind (R.bind (br 0 env) fun aaR=>R.bind (R.ok []) fun aaS=>R.ok (aaR::aaS)) fun aaT=>R.of (oR aaT)) fun aaU=>R.of (dC aaQ aaU))
def xG(d:D)(env:DE):R Out:=
 R.bind ((bN 8) d env) fun Yh=>
  (R.bind (R.bind (R.bind (R.bind (br 7 Yh) fun v95=>R.bind (R.ok (D.str "row")) fun v96=>R.of (dC v95 v96)) fun v93=>R.bind (R.bind (R.ok (D.str "")) fun v97=>R.bind (cB v97) fun v98=>R.bind (R.bind (R.bind (ck 8 Yh) uU) fun aaV=>R.bind (eR Yh []) fun aaW=>R.bind (R.ne (bh (bN 0) B1 xF (eT 1 aaW) aaV)) fit) fun v99=>R.of (rO v98 v99)) fun v94=>R.of (dC v93 v94)) fun v91=>R.bind (R.ok (D.str "\n")) fun v92=>R.of (dC v91 v92)) fun v90=>R.ok (Out.nx (List.set Yh 7 (Sl.val v90))))
def si(d:D)(env:DE):R Out:=
 R.bind ((bN 10) d env) fun GZ=>
  (aX (R.bind (R.bind (R.bind (R.bind (R.bind (br 4 GZ) fun aaX=>R.bind (R.ok (D.str " 0")) fun aaY=>R.of (dC aaX aaY)) fun aaZ=>R.bind (R.bind (R.bind (br 4 GZ) fun aa0=>R.bind (R.ok (D.str ",")) fun aa1=>R.of (dC aa0 aa1)) fun aa2=>R.bind (R.bind (R.bind (R.bind (R.bind (br 2 GZ) fun aa3=>R.bind (R.ok []) fun aa4=>R.ok (aa3::aa4)) fun aa5=>R.of (oR aa5)) fun aa6=>R.bind (R.ok (D.str " 1")) fun aa7=>R.of (dC aa6 aa7)) fun aa8=>R.bind (R.bind (R.ok (D.str "")) fun aa9=>R.bind (R.bind (R.bind (br 4 GZ) fun aba=>R.bind (R.ok (D.str "\n")) fun abb=>R.of (dC aba abb)) fun abd=>R.bind (R.ok []) fun abe=>R.ok (abd::abe)) fun abf=>R.ok (aa9::abf)) fun abg=>R.ok (aa8::abg)) fun abh=>R.ok (aa2::abh)) fun abi=>R.ok (aaZ::abi)) fit) fun abj=>R.bind (R.bind (R.bind (br 1 GZ) fun abk=>R.bind (R.ok (D.int 16)) fun abl=>R.of (ud abk abl)) fun abm=>R.bind (R.ok (D.int 5)) fun abn=>R.of (mH abm abn)) fun abo=>zP abj abo) fun abp=>R.ok (Out.nx (List.set GZ 11 (Sl.val abp)))) fun G0=>
 (aX (R.bind (R.bind (R.bind (R.bind (R.bind (R.bind (br 4 G0) fun abq=>R.bind (R.ok (D.str " ")) fun abr=>R.of (dC abq abr)) fun abt=>R.bind (R.bind (R.bind (br 2 G0) fun abu=>R.bind (R.ok []) fun abv=>R.ok (abu::abv)) fun abw=>R.of (oR abw)) fun abx=>R.of (dC abt abx)) fun aby=>R.bind (R.bind (R.bind (R.bind (br 4 G0) fun abz=>R.bind (R.ok (D.str " -")) fun abA=>R.of (dC abz abA)) fun abB=>R.bind (R.bind (R.bind (br 2 G0) fun abC=>R.bind (R.ok []) fun abD=>R.ok (abC::abD)) fun abE=>R.of (oR abE)) fun abF=>R.of (dC abB abF)) fun abG=>R.bind (R.bind (R.ok (D.str "8:")) fun abH=>R.bind (R.bind (R.ok (D.str "0:")) fun abJ=>R.bind (R.bind (R.ok (D.str "9: 8")) fun abK=>R.bind (R.ok []) fun abL=>R.ok (abK::abL)) fun abM=>R.ok (abJ::abM)) fun abN=>R.ok (abH::abN)) fun abO=>R.ok (abG::abO)) fun abP=>R.ok (aby::abP)) fit) fun abQ=>R.bind (R.bind (R.bind (br 1 G0) fun abR=>R.bind (R.ok (D.int 80)) fun abS=>R.of (ud abR abS)) fun abT=>R.bind (R.ok (D.int 5)) fun abU=>R.of (mH abT abU)) fun abV=>zP abQ abV) fun abW=>R.ok (Out.nx (List.set G0 12 (Sl.val abW)))) fun Kn=>
 (R.bind (R.bind (R.bind (R.bind (R.bind (R.bind (R.bind (ck 11 Kn) fun abX=>R.bind (R.bind (ck 10 Kn) fun abY=>R.bind (R.ok []) fun abZ=>R.ok (abY::abZ)) fun ab0=>R.ok (abX::ab0)) dz) fun ab1=>Pq ["BadText","NoWord"] ["BadText"] ab1) mr) fun ab2=>R.ok (!ab2)) fun ab3=>if ab3=true then R.ok true else(R.bind (R.bind (R.bind (R.bind (R.bind (ck 12 Kn) fun ab4=>R.bind (R.bind (ck 10 Kn) fun ab5=>R.bind (R.ok []) fun ab6=>R.ok (ab5::ab6)) fun ab7=>R.ok (ab4::ab7)) dz) fun ab8=>Pq ["BadText","NoWord"] ["NoWord"] ab8) mr) fun ab9=>R.ok (!ab9))) fun aca=>if aca=true then(R.bind (R.ok (D.bl false)) fun acb=>R.ok (Out.rt acb))else(R.ok (Out.nx Kn)))))
def PR(env:DE):R Out:=
 (aX (R.bind (R.bind (R.bind (R.bind (tQ 0 env) fun v7=>R.bind (R.bind (R.bind (R.ok (D.int 0)) fun v9=>R.bind (R.ok []) fun v10=>R.ok (v9::v10)) fit) fun v8=>fit (v7++v8)) fun v5=>R.bind (R.ok (D.int 0)) fun v6=>zP v5 v6) fun v3=>R.bind (R.bind (R.ok (D.int 10)) fun v11=>R.bind (R.ok (D.int 9)) fun jT=>R.of (Ij v11 jT)) fun v4=>R.of (mH v3 v4)) fun v2=>R.ok (Out.nx (List.set env 1 (Sl.val v2)))) fun v1=>
 (aX (R.bind (R.bind (R.bind (br 1 v1) fun kc=>R.bind (R.bind (R.ok (D.int 1)) fun lL=>R.bind (R.bind (R.ok (D.int 7)) fun oy=>R.bind (R.ok []) fun v20=>R.ok (oy::v20)) fun mR=>R.ok (lL::mR)) fun kY=>R.ok (kc::kY)) eY) fun gI=>R.ok (Out.nx (List.set v1 2 (Sl.val gI)))) fun jj=>
 (aX (R.bind (R.bind (R.bind (R.bind (R.bind (R.bind (tQ 0 jj) fun yF=>R.bind (R.ok none) fun Dg=>R.bind (R.bind (R.ok (D.int 16)) Q8) fun GJ=>R.ok (cut yF Dg GJ)) fun Aa=>R.ok (D.lst Aa)) fun vz=>R.bind (R.bind (ck 2 jj) fun v30=>R.bind (R.bind (R.ok (D.int 16)) fun JD=>R.bind (R.ok []) fun MT=>R.ok (JD::MT)) fun R3=>R.ok (v30::R3)) fun yG=>R.ok (vz::yG)) gU) fun uj=>R.ok (D.lst uj)) fun oA=>R.ok (Out.nx (List.set jj 3 (Sl.val oA)))) fun qv=>
 (aX (R.bind (R.bind (R.bind (R.bind (R.bind (R.ok (D.str " ")) fun MZ=>R.bind (R.bind (br 1 qv) fun Ln=>R.bind (R.ok (D.int 3)) fun R7=>R.of (mH Ln R7)) fun M0=>R.of (Bt MZ M0)) fun Ll=>R.bind (R.bind (R.bind (br 2 qv) fun R4=>R.bind (R.ok []) fun Wg=>R.ok (R4::Wg)) fun R6=>R.of (oR R6)) fun M4=>R.of (dC Ll M4)) fun MV=>R.bind (R.ok (D.str ":")) fun MX=>R.of (dC MV MX)) fun MS=>R.bind (R.bind (R.ok (D.str "")) fun We=>R.bind (cB We) fun Wf=>R.bind (R.bind (R.bind (ck 3 qv) uU) fun TV=>R.bind (eR qv [1]) fun Wk=>R.bind (R.ne (bh (bN 0) B0 xE (eT 1 Wk) TV)) fit) fun R5=>R.of (rO Wf R5)) fun MU=>R.of (dC MS MU)) fun Pz=>R.ok (Out.nx (List.set qv 4 (Sl.val Pz)))) fun Hs=>
 (aX (R.bind (R.bind (R.bind (ck 2 Hs) fun Ww=>R.bind (R.bind (R.bind (tQ 3 Hs) fun v75=>R.ok (D.lst v75)) fun Wv=>R.bind (R.ok []) fun Wt=>R.ok (Wv::Wt)) fun Wu=>R.ok (Ww::Wu)) pB) fun Ws=>R.bind ((bT 2 (qt (bN 5) (qt (bN 6) Gu))) Ws Hs) fun e=>R.ok (Out.nx e)) fun TX=>
 (aX (R.bind (R.bind (R.bind (R.ok (D.str "halves ")) fun v80=>R.bind (R.bind (R.bind (br 5 TX) fun v83=>R.bind (R.ok []) fun v84=>R.ok (v83::v84)) fun v82=>R.of (oR v82)) fun v81=>R.of (dC v80 v81)) fun v78=>R.bind (R.ok (D.str "\n")) fun v79=>R.of (dC v78 v79)) fun v77=>R.ok (Out.nx (List.set TX 7 (Sl.val v77)))) fun X9=>
 (aX (R.bind (R.bind (ck 6 X9) uU) fun v86=>fq xG v86 X9) fun v85=>
 (aX (R.bind (R.bind (R.bind (br 4 v85) fun acd=>R.bind (R.ok []) fun ace=>R.ok (acd::ace)) lW) fun acf=>R.ok (Out.nx (List.set v85 9 (Sl.val acf)))) fun G1=>
 (aX (R.bind (R.bind (R.bind (R.bind (R.bind (br 9 G1) fun acg=>Mn "str" acg) mr) fun ach=>R.ok (!ach)) fun aci=>if aci=true then R.ok true else(R.bind (R.bind (br 9 G1) fun acj=>R.bind (br 7 G1) fun ack=>R.bind (R.of (Hm acj ack)) mr) fun acm=>if acm=true then R.ok true else(R.bind (R.bind (R.bind (R.bind (br 4 G1) fun acn=>R.bind (R.ok (D.str "  ")) fun aco=>R.of (dC acn aco)) fun acp=>R.bind (R.ok []) fun acq=>R.ok (acp::acq)) lW) fun acr=>R.bind (br 7 G1) fun acs=>R.bind (R.of (Hm acr acs)) mr))) fun acu=>if acu=true then(R.bind (R.ok (D.bl false)) fun acv=>R.ok (Out.rt acv))else(R.ok (Out.nx G1))) fun acw=>
 (aX (R.bind (R.bind (R.bind (R.ok (D.int 3)) fun acx=>R.bind (R.ok []) fun acy=>R.ok (acx::acy)) Ir) fun acz=>fq si acz acw) fun Nj=>
 (R.bind (R.bind (R.bind (R.bind (R.bind (br 11 Nj) fun acA=>R.bind (R.bind (br 12 Nj) fun acB=>R.bind (R.ok []) fun acC=>R.ok (acB::acC)) fun acD=>R.ok (acA::acD)) fz) fun acE=>R.bind (R.ok (D.str "text")) fun acF=>R.of (CC acE acF)) fun acG=>R.bind (mr acG) fun t=>if t=true then(R.bind (R.bind (R.bind (br 12 Nj) fun acH=>R.bind (R.bind (br 11 Nj) fun acI=>R.bind (R.ok []) fun acJ=>R.ok (acI::acJ)) fun acK=>R.ok (acH::acK)) fz) fun acL=>R.bind (R.ok (D.str "word")) fun acM=>R.of (CC acL acM))else R.ok (D.bl false)) fun acN=>R.ok (Out.rt acN))))))))))))
def xH:=mS 1 13 PR
end DL
namespace DL.pD
open PySem PySem.Spec PyProof.Rows L2 DL
def top(i:Nat):Stmt:=PySem.Challenge.pw_braidcomb_k83_combed.main.body.getD i (.Pass ⟨0,0,0,0⟩)
abbrev pF:Stmt:=top 10
theorem vC:aw ["n","k"] ["n","k"] (aa pF):=nK
abbrev xJ:Stmt:=top 11
theorem u0:aw ["n","word","k"] ["n","word"] (aa xJ):=nK
abbrev ux:Stmt:=top 12
theorem Du:aw ["word"] ["word"] (aa ux):=nK
abbrev xK:Stmt:=top 14
theorem pG:aw ["word","left","k"] ["word"] (aa xK):=nK
abbrev u4:Stmt:=top 16
theorem Ah:aw ["n"] ["n"] (aa u4):=nK
abbrev ES:Stmt:=top 17
theorem Ko:aw ["n"] ["n"] (aa ES):=nK
abbrev sj:Stmt:=top 18
theorem iU:aw ["row","places","place","string"] ["row"] (aa sj):=nK
abbrev xM:Stmt:=top 19
theorem G2:aw ["row"] ["row"] (aa xM):=nK
abbrev zq:Stmt:=top 20
theorem Dv:aw ["row"] ["row"] (aa zq):=nK
abbrev gB:Stmt:=top 21
theorem lh:aw ["row","k"] ["row","k"] (aa gB):=nK
abbrev gX:Stmt:=top 22
theorem lX:aw ["row","k"] ["row","k"] (aa gX):=nK
abbrev zr:Stmt:=top 23
theorem mW:aw ["n","word","row","k"] ["n","word"] (aa zr):=nK
abbrev xN:Stmt:=top 24
theorem G3:aw ["row"] ["row"] (aa xN):=nK
abbrev jZ:Stmt:=top 25
theorem vD:aw ["row"] ["row"] (aa jZ):=nK
abbrev xO:Stmt:=top 28
theorem kK:aw ["crossings","bits","k"] ["crossings"] (aa xO):=nK
abbrev Kq:Stmt:=top 31
theorem jC:aw ["n","word","pieces","order","sign_above","k","place","held"] ["n","word"] (aa Kq):=nK
abbrev pH:Stmt:=top 32
theorem vE:aw ["row"] ["row"] (aa pH):=nK
abbrev xP:Stmt:=top 33
theorem B3:aw ["n","piece"] ["n","piece"] (aa xP):=nK
abbrev pI:Stmt:=top 34
theorem vG:aw ["halves","row"] ["halves","row"] (aa pI):=nK
abbrev ik:Stmt:=top 35
theorem bC:aw ["steps","rows","halves","step"] ["steps"] (aa ik):=nK
abbrev iB:Stmt:=top 36
theorem eg:aw ["n","steps","comb","row","found"] ["n","steps"] (aa iB):=nK
abbrev iC:Stmt:=top 37
theorem sy:aw ["n","word"] ["n","word"] (aa iC):=nK
abbrev ET:Stmt:=top 38
theorem Kr:aw ["n","word"] ["n","word"] (aa ET):=nK
abbrev lY:Stmt:=top 60
theorem sC:aw ["piece"] ["piece"] (aa lY):=nK
abbrev pJ:Stmt:=top 61
theorem nW:aw ["piece","number"] ["piece"] (aa pJ):=nK
abbrev gY:Stmt:=top 62
theorem qP:aw ["tail"] ["tail"] (aa gY):=nK
abbrev sE:Stmt:=top 63
theorem iW:aw ["text","parts","n","word"] ["text"] (aa sE):=nK
abbrev qQ:Stmt:=top 65
theorem B4:aw ["parts"] ["parts"] (aa qQ):=nK
abbrev zt:Stmt:=top 66
theorem j0:aw ["text","read","found","lines","row"] ["text"] (aa zt):=nK
abbrev u9:Stmt:=top 67
theorem mY:aw ["text","other","first","second","moves"] ["text","other"] (aa u9):=nK
abbrev vc:Stmt:=top 69
theorem Ai:aw ["_law_cell","_law_k","_law_factor"] ["_law_cell","_law_k","_law_factor"] (aa vc):=nK
abbrev nX:Stmt:=top 70
theorem lZ:aw ["_law_seed","_law_least","_law_most"] ["_law_seed","_law_least","_law_most"] (aa nX):=nK
abbrev l9:Stmt:=top 71
theorem kL:aw ["_law_number","_law_n","_law_k"] ["_law_number","_law_n"] (aa l9):=nK
abbrev qB:Stmt:=top 72
theorem j3:aw ["_law_number","_law_n","_law_k","_law_other"] ["_law_number","_law_n"] (aa qB):=nK
abbrev qC:Stmt:=top 73
theorem eZ:aw ["_law_cells","_law_n","_law_most","_law_word","_law_k","_law_cell"] ["_law_cells","_law_n","_law_most"] (aa qC):=nK
abbrev nY:Stmt:=top 74
theorem fE:aw ["_law_text","_law_which","_law_error","caught"] ["_law_text","_law_which"] (aa nY):=nK
abbrev qD:Stmt:=top 75
theorem gZ:aw ["_law_text","_law_other","_law_told"] ["_law_text","_law_other"] (aa qD):=nK
abbrev Aj:Stmt:=top 76
theorem eu:aw ["_law_script","_law_seed","_law_n","_law_word","_law_text","_law_halves","_law_rows","_law_due","_law_row","_law_found","_law_which","_law_bad","_law_none"] ["_law_script"] (aa Aj):=nK
structure Tb(K:PySem.W.Frag)(mg:Str->Option Value) where
 iX:Addr
 iY:FuncData
 lj:Df K mg "is_crossing" pF ["n","k"] iX iY
 mf:Addr
 mh:FuncData
 uy:Df K mg "checked" xJ ["n","word"] mf mh
 sF:Addr
 sG:FuncData
 xQ:Df K mg "turned" ux ["word"] sF sG
 p7:Addr
 p8:FuncData
 uz:Df K mg "trimmed" xK ["word"] p7 p8
 iD:Addr
 iF:FuncData
 e9:Df K mg "straight" u4 ["n"] iD iF
 Ak:Addr
 Al:FuncData
 xR:Df K mg "half" ES ["n"] Ak Al
 gC:Addr
 gD:FuncData
 gE:Df K mg "places_of" sj ["row"] gC gD
 sH:Addr
 sI:FuncData
 p9:Df K mg "stops" xM ["row"] sH sI
 sJ:Addr
 sL:FuncData
 pK:Df K mg "starts" zq ["row"] sJ sL
 bj:Addr
 bp:FuncData
 aT:Df K mg "with_crossing_behind" gB ["row","k"] bj bp
 cz:Addr
 cA:FuncData
 bE:Df K mg "with_crossing_ahead" gX ["row","k"] cz cA
 sM:Addr
 sN:FuncData
 sO:Df K mg "row_of" zr ["n","word"] sM sN
 vZ:Addr
 wb:FuncData
 Am:Df K mg "ahead" xN ["row"] vZ wb
 iZ:Addr
 i6:FuncData
 lq:Df K mg "flipped_row" jZ ["row"] iZ i6
 qb:Addr
 qc:FuncData
 gF:Df K mg "as_bits" xO ["crossings"] qb qc
 EU:Addr
 EV:FuncData
 Ks:Df K mg "cut" Kq ["n","word"] EU EV
 i7:Addr
 i9:FuncData
 lu:Df K mg "turned_step" pH ["row"] i7 i9
 qd:Addr
 qe:FuncData
 uA:Df K mg "step_of" xP ["n","piece"] qd qe
 ja:Addr
 jb:FuncData
 ly:Df K mg "past_halves" pI ["halves","row"] ja jb
 cQ:Addr
 cR:FuncData
 bM:Df K mg "rows_behind_halves" ik ["steps"] cQ cR
 gb:Addr
 gj:FuncData
 jo:Df K mg "form_of_steps" iB ["n","steps"] gb gj
 gk:Addr
 gm:FuncData
 jq:Df K mg "steps_of_word" iC ["n","word"] gk gm
 xS:Addr
 xT:FuncData
 An:Df K mg "form" ET ["n","word"] xS xT
 cC:Addr
 cD:FuncData
 cF:Df K mg "read_crossing" lY ["piece"] cC cD
 fU:Addr
 fV:FuncData
 jc:Df K mg "read_number" pJ ["piece"] fU fV
 dA:Addr
 dB:FuncData
 iG:Df K mg "read_crossings" gY ["tail"] dA dB
 gG:Addr
 gH:FuncData
 ji:Df K mg "read_text" sE ["text"] gG gH
 qg:Addr
 qh:FuncData
 qi:Df K mg "line_of" qQ ["parts"] qg qh
 mj:Addr
 mm:FuncData
 pL:Df K mg "combed" zt ["text"] mj mm
 iH:Addr
 iI:FuncData
 j5:Df K mg "compared" u9 ["text","other"] iH iI
 mZ:Addr
 m7:FuncData
 qR:Df K mg "_law_mix" vc ["_law_cell","_law_k","_law_factor"] mZ m7
 g4:Addr
 g5:FuncData
 j6:Df K mg "_law_strings" nX ["_law_seed","_law_least","_law_most"] g4 g5
 gn:Addr
 gp:FuncData
 jr:Df K mg "_law_crossing" l9 ["_law_number","_law_n"] gn gp
 jD:Addr
 jE:FuncData
 m8:Df K mg "_law_piece" qB ["_law_number","_law_n"] jD jE
 jF:Addr
 jG:FuncData
 m9:Df K mg "_law_drawn" qC ["_law_cells","_law_n","_law_most"] jF jG
 g6:Addr
 g7:FuncData
 g8:Df K mg "_law_refused" nY ["_law_text","_law_which"] g6 g7
 jH:Addr
 jI:FuncData
 jJ:Df K mg "_law_first" qD ["_law_text","_law_other"] jH jI
 Ku:Addr
 EY:FuncData
 PU:Df K mg "law" Aj ["_law_script"] Ku EY
 EZ:mg "abs"=none
 pM:mg "enumerate"=none
 jK:mg "isinstance"=none
 ve:mg "len"=none
 uB:mg "list"=none
 PV:mg "max"=none
 sP:mg "range"=none
 nc:mg "reversed"=none
 qE:mg "str"=none
 PX:mg "sum"=none
 E3:mg "tuple"=none
 kM:Tok
 kN:mg "FEWEST_STRINGS"=some (.int 1 kM)
 sQ:Tok
 sS:mg "MOST_KEPT"=some (.int 200000 sQ)
 nZ:Tok
 n8:mg "MOST_STRINGS"=some (.int 7 nZ)
 uC:Addr
 ng:mg "FIGURES"=some (.ref uC)
 iJ:uW K uC bc
 qj:Addr
 xU:mg "BadText"=some (.ref qj)
 sU:Addr
 yO:mg "BraidError"=some (.ref sU)
 sV:Addr
 zu:mg "NoWord"=some (.ref sV)
 nh:Xc K mg "BadText" qj
 uD:Xc K mg "NoWord" sV
 pN:Cat K mg "BraidError" ["BadText","NoWord"]
 sW:MR K mg "BadText" ["BadText","NoWord"]
 vg:MR K mg "NoWord" ["BadText","NoWord"]
 xV:X5 K ["BadText","NoWord"] "BadText" (.ref qj)
 zw:X5 K ["BadText","NoWord"] "NoWord" (.ref sV)
end DL.pD
namespace DL.H
open PySem PySem.W L2
noncomputable section
def vi(i:Int)(t:Nat):Value:=.int i t
def vs(s:String)(t:Nat):Value:=.str (Str.ofString s) t
def vr(a:Nat):Value:=.ref a
def vy(s:String):Value:=.type s
def vb(s:String):Value:=.builtin s
def vn:Value:=.none
def vt:Value:=.bool true
def vf:Value:=.bool false
def pl:Data:=.plain
def ob(c:Value)(d:Data)(s:List (Option Value)):Obj:=⟨c,none,d,⟨s⟩⟩
def en(P:Params)(x:String)(t:Nat)(v:Value):DictEntry:=⟨PyData.keyHash P (Str.ofString x),.str (Str.ofString x) t,v⟩
def cd(n:String)(b m:List Value)(s:Addr)(q:String)(hd:Bool)(sn:List Str)(su:List Value)(ab:Bool)(c:Option Bool)(de:Bool):ClassData:=⟨Str.ofString n,b,m,s,Str.ofString q,hd,sn,su,ab,c,de⟩
def E:Obj:=ob (vy "tuple") (.seq ⟨[]⟩ 0) []
def F:Obj:=ob vn (.fields ⟨[]⟩) []
def Z:String:="/claim/cut.py"
def nO(s:Stmt):Str:=match s with|.FunctionDef n _ _ _ _ _ _ _ _ _=>n|_=>Str.empty
def lO(s:Stmt):Nat:=match s with|.FunctionDef _ _ _ _ _ _ _ _ _ p=>p.line|_=>0
def tf(s:Stmt)(q:Str):Obj:=⟨.none,none,.func {name:=nO s,qualname:=q,params:=dU s,body:=.stmts (bx s),scope:=aa s,globals:=0,closure:=[],defaults:=.none,kwdefaults:=.none},⟨[]⟩⟩
def hf(n q:Str)(s:Stmt)(m:Value)(c:Nat):Obj:=⟨.type "function",none,.func (fnOf n q (dU s) (bx s) (aa s) .none .none .none m none (.ref c) .none),⟨[]⟩⟩
def cf(n q:Str)(t l k:Nat)(f:Value)(a b:Nat)(x y z:Value)(u:Nat):Obj:=ob (vy "code") (.fields ⟨[.str n t,.str q (t+1),vs Z (t+2),.int l 0,.int k 0,vi 0 0,vi 0 0,f,vr a,.bool (f !=vi 0 0),vi 181 0,vr b,vn,x,y,z,.int u 0,.int l 0,vs Z (u+1)]⟩) []
def tu:List String->Nat->List Value
 |[],_=>[]
 |x::l,t=>vs x t::tu l (t+1)
def PY(s:Stmt)(q:Str)(a t:Nat)(m:Value)(ns:List String):List Obj:=[E,F,ob (vy "tuple") (.seq ⟨tu ns (t+3)⟩ 0) [],E,tf s q,cf (nO s) q t (lO s) (dU s).args.length (vi 3 0) a (a+1) (vr (a+2)) (vr (a+3)) (vr (a+4)) (t+3+ns.length),hf (nO s) q s m (a+5)]
def fb5(s:Stmt)(q:Str)(a t:Nat)(m:Value):List Obj:=[E,F,tf s q,cf (nO s) q t (lO s) (dU s).args.length (vi 3 0) a (a+1) vn vn (vr (a+2)) (t+3),hf (nO s) q s m (a+3)]
def xb(P:Params)(n:String)(a t:Nat)(m:Value)(b:Nat)(l:Nat):List Obj:=
 [ob (vy "tuple") (.seq ⟨[vr b]⟩ 0) [],ob (vy "builtin_function_or_method") (.fields ⟨[vb "type.__prepare__",vy "type"]⟩) [],
  ob (vy "dict") (.dict ⟨[en P "__module__" (t+5) m,en P "__qualname__" (t+7) (vs n (t+6)),en P "__firstlineno__" (t+9) (.int l (t+8)),en P "__static_attributes__" (t+10) (vr (a+7))]⟩ 4) [],E,F,
  cf (Str.ofString n) (Str.ofString n) t l 0 (vi 0 0) (a+3) (a+4) vn vn vn (t+3),ob (vy "frame") pl [some (vr (a+5)),some (vr 3),some (vr (a+2)),none,some m,none,some (vr 0)],E,
  ob (vy "dict") (.dict ⟨[en P "__module__" (t+5) m,en P "__firstlineno__" (t+9) (.int l (t+8)),en P "__static_attributes__" (t+10) (vr (a+7)),en P "__doc__" (t+11) vn]⟩ 2) [],
  ob (vy "type") (.cls (cd n [vr b] [vr (a+9),vr b,vy "ValueError",vy "Exception",vy "BaseException",vy "object"] (a+8) n true [] [] false none false)) [some (vr a),none,some (vs n (t-2)),some (vs n (t+6)),some (vb "ValueError.__new__"),some vt],
  ob (vy "super") (.fields ⟨[vr (a+9),vr (a+9),vr (a+9)]⟩) [],ob (vy "builtin_function_or_method") (.fields ⟨[vb "object.__init_subclass__",vr (a+9)]⟩) []]
def sp:List Obj->List Obj×List Obj
 |[]=>([],[])
 |x::l=>(x::(sp l).2,(sp l).1)
def bt:Nat->List Obj->BT
 |0,_=>.nil
 |_+1,[]=>.nil
 |n+1,x::l=>.node x (bt n (sp l).1) (bt n (sp l).2)
end
end DL.H
namespace DL.pD.H
open PySem PySem.W DL.H L2
noncomputable section
abbrev pw:Program:=PySem.Challenge.pw_braidcomb_k83_combed
abbrev T(i:Nat):Stmt:=DL.pD.top i
def J(i j:Nat):Stmt:=match T i with|.ClassDef _ _ _ b _ _ _ _ _ _ _=>b.getD j (.Pass ⟨0,0,0,0⟩)|s=>s
def M3(P:Params):List DictEntry:=[en P "__doc__" 166 vn,en P "__package__" 167 vn,en P "__loader__" 168 (vb "__main__.__loader__#opaque"),en P "__spec__" 169 vn,en P "__annotations__" 170 (vr 6),en P "__builtins__" 171 (vr 4),en P "__file__" 173 (vs "/claim/cut.py" 172),en P "__cached__" 174 vn,en P "BraidError" 206 (vr 24),en P "NoWord" 222 (vr 37),en P "BadText" 238 (vr 49),en P "NoMove" 254 (vr 61),en P "NoRow" 270 (vr 73),en P "Unlike" 286 (vr 85),en P "FEWEST_STRINGS" 290 (vi 1 289),en P "MOST_STRINGS" 292 (vi 7 291),en P "is_crossing" 300 (vr 94),en P "checked" 309 (vr 101),en P "turned" 315 (vr 106),en P "mirrored" 321 (vr 111),en P "trimmed" 330 (vr 118),en P "straight" 339 (vr 125),en P "half" 346 (vr 132),en P "places_of" 356 (vr 139),en P "stops" 362 (vr 144),en P "starts" 369 (vr 151),en P "with_crossing_behind" 377 (vr 158),en P "with_crossing_ahead" 385 (vr 165),en P "row_of" 395 (vr 172),en P "ahead" 401 (vr 177),en P "flipped_row" 407 (vr 182),en P "MOST_KEPT" 411 (vi 200000 410),en P "as_bits" 420 (vr 189),en P "Comb" 526 (vr 253),en P "cut" 542 (vr 264),en P "turned_step" 549 (vr 271),en P "step_of" 557 (vr 278),en P "past_halves" 565 (vr 285),en P "rows_behind_halves" 575 (vr 292),en P "form_of_steps" 581 (vr 297),en P "steps_of_word" 587 (vr 302),en P "form" 595 (vr 309),en P "same" 604 (vr 316),en P "has_places" 615 (vr 323),en P "can_out" 623 (vr 330),en P "can_in" 633 (vr 337),en P "can_far" 641 (vr 344),en P "can_near" 649 (vr 351),en P "can_be_done" 660 (vr 358),en P "refuse_undoable" 669 (vr 365),en P "moved" 680 (vr 372),en P "moves_past" 691 (vr 379),en P "has_to_change" 699 (vr 386),en P "unfolded" 711 (vr 393),en P "moves_in" 719 (vr 398),en P "mirrored_move" 726 (vr 405),en P "moves_out" 732 (vr 410),en P "way" 741 (vr 417),en P "FIGURES" 774 (vr 418),en P "read_crossing" 781 (vr 425),en P "read_number" 789 (vr 432),en P "read_crossings" 795 (vr 437),en P "read_text" 805 (vr 444),en P "line_of" 813 (vr 449),en P "combed" 824 (vr 456),en P "compared" 830 (vr 461),en P "_law_mix" 841 (vr 468),en P "_law_strings" 850 (vr 475),en P "_law_crossing" 859 (vr 482),en P "_law_piece" 869 (vr 489),en P "_law_drawn" 881 (vr 496),en P "_law_refused" 891 (vr 503),en P "_law_first" 900 (vr 510),en P "law" 906 (vr 515)]
def m3(P:Params)(v:Value)(k e:Nat):Obj:=ob (vy "dict") (.dict ⟨en P "__name__" 165 v::(M3 P).take k⟩ e) []
def L12:List (Nat×Nat):=[(2,20),(4,33),(6,45),(8,57),(10,69),(12,81),(17,93),(19,100),(26,105),(28,110),(30,117),(39,124),(41,131),(43,138),(48,143),(50,150),(52,157),(54,164),(56,171),(65,176),(67,181),(71,188),(76,195),(149,263),(164,270),(166,277),(170,284),(174,291),(182,296),(188,301),(190,308),(192,315),(195,322),(197,329),(199,336),(201,343),(203,350),(207,357),(217,364),(220,371),(232,378),(238,385),(240,392),(254,397),(256,404),(260,409),(264,416),(272,424),(276,431),(281,436),(285,443),(294,448),(296,455),(303,460),(314,467),(316,474),(321,481),(326,488),(332,495),(338,502),(350,509),(359,514)]
def GH(k:Nat):Obj:=ob vn (.fields ⟨(L12.take k).flatMap fun x=>[.int x.1 0,vi 0 0,vr x.2]⟩) []
def w0:Value:=vs "braidcomb.errors" 187
def w1:Value:=vs "braidcomb.words" 287
def w2:Value:=vs "braidcomb.rows" 331
def w3:Value:=vs "braidcomb.sliding" 408
def w4:Value:=vs "braidcomb.forms" 527
def w5:Value:=vs "braidcomb.moves" 605
def w6:Value:=vs "braidcomb.unfolding" 681
def w7:Value:=vs "braidcomb.ways" 712
def w8:Value:=vs "braidcomb.wordtext" 742
def w9:Value:=vs "braidcomb.asking" 806
def AJ:Value:=vs "law_braidcomb_k83_combed" 831
def f7(i a t:Nat)(m:Value)(ns:List String):List Obj:=PY (T i) (nO (T i)) a t m ns
def f5(i a t:Nat)(m:Value):List Obj:=fb5 (T i) (nO (T i)) a t m
def FL(P:Params):List Obj:=[boot_o_0 P,boot_o_1 P,boot_o_2 P,m3 P AJ 74 75,boot_o_4 P,boot_o_5 P,boot_o_6 P,boot_o_7 P,boot_o_8 P,boot_o_9 P,boot_o_10 P]
 ++[E,(GH 62),(ob (vy "code") (.fields ⟨[(vs "<module>" 182),(vs "<module>" 183),(vs "/claim/cut.py" 184),(vi 1 0),(vi 0 0),(vi 0 0),(vi 0 0),(vi 0 0),(vr 11),vf,(vi 181 0),(vr 12),vn,vn,vn,vn,(vi 185 0),(vi 1 0),(vs "/claim/cut.py" 186)]⟩) []),(ob (vy "frame") pl [(some (vr 13)),(some (vr 3)),(some (vr 3)),none,(some (vs "__main__" 164)),none,(some (vr 0))]),(ob (vy "tuple") (.seq ⟨[(vy "ValueError")]⟩ 0) []),(ob (vy "builtin_function_or_method") (.fields ⟨[(vb "type.__prepare__"),(vy "type")]⟩) []),(ob (vy "dict") (.dict ⟨[(en P "__module__" 196 (vs "braidcomb.errors" 187)),(en P "__qualname__" 198 (vs "BraidError" 197)),(en P "__firstlineno__" 200 (vi 2 199)),(en P "__static_attributes__" 201 (vr 22))]⟩ 4) []),E,F,(ob (vy "code") (.fields ⟨[(vs "BraidError" 191),(vs "BraidError" 192),(vs "/claim/cut.py" 193),(vi 2 0),(vi 0 0),(vi 0 0),(vi 0 0),(vi 0 0),(vr 18),vf,(vi 181 0),(vr 19),vn,vn,vn,vn,(vi 194 0),(vi 2 0),(vs "/claim/cut.py" 195)]⟩) []),(ob (vy "frame") pl [(some (vr 20)),(some (vr 3)),(some (vr 17)),none,(some (vs "braidcomb.errors" 187)),none,(some (vr 0))]),E,(ob (vy "dict") (.dict ⟨[(en P "__module__" 196 (vs "braidcomb.errors" 187)),(en P "__firstlineno__" 200 (vi 2 199)),(en P "__static_attributes__" 201 (vr 22)),(en P "__weakref__" 203 (vr 25)),(en P "__doc__" 204 vn)]⟩ 3) []),(ob (vy "type") (.cls (cd "BraidError" [(vy "ValueError")] [(vr 24),(vy "ValueError"),(vy "Exception"),(vy "BaseException"),(vy "object")] 23 "BraidError" true [] [(vr 37),(vr 49),(vr 61),(vr 73),(vr 85)] false none false)) [(some (vr 15)),none,(some (vs "BraidError" 189)),(some (vs "BraidError" 197)),(some (vb "ValueError.__new__")),(some vt)]),(ob (vy "getset_descriptor") (.fields ⟨[(vs "__weakref__" 202),(vr 24),(vb "ExceptionGroup.__weakref__"),vn]⟩) []),(ob (vy "super") (.fields ⟨[(vr 24),(vr 24),(vr 24)]⟩) []),(ob (vy "builtin_function_or_method") (.fields ⟨[(vb "object.__init_subclass__"),(vr 24)]⟩) [])]
 ++xb P "NoWord" 28 209 w0 24 4
 ++xb P "BadText" 40 225 w0 24 6
 ++xb P "NoMove" 52 241 w0 24 8
 ++xb P "NoRow" 64 257 w0 24 10
 ++xb P "Unlike" 76 273 w0 24 12
 ++f7 10 88 293 w1 ["n","k"]
 ++f7 11 95 301 w1 ["n","word","k"]
 ++f5 12 102 310 w1
 ++f5 13 107 316 w1
 ++f7 14 112 322 w1 ["word","left","k"]
 ++f7 16 119 333 w2 ["n"]
 ++f7 17 126 340 w2 ["n"]
 ++f7 18 133 347 w2 ["row","places","place","string"]
 ++f5 19 140 357 w2
 ++f7 20 145 363 w2 ["row"]
 ++f7 21 152 370 w2 ["row","k"]
 ++f7 22 159 378 w2 ["row","k"]
 ++f7 23 166 386 w2 ["n","word","row","k"]
 ++f5 24 173 396 w2
 ++f5 25 178 402 w2
 ++f7 28 183 412 w3 ["crossings","bits","k"]
 ++[E,(ob (vy "builtin_function_or_method") (.fields ⟨[(vb "type.__prepare__"),(vy "type")]⟩) []),(ob (vy "dict") (.dict ⟨[(en P "__module__" 428 w3),(en P "__qualname__" 430 (vs "Comb" 429)),(en P "__firstlineno__" 432 (vi 76 431)),(en P "__init__" 440 (vr 203)),(en P "number_of" 449 (vr 210)),(en P "without_first" 459 (vr 217)),(en P "with_last" 469 (vr 224)),(en P "slide" 480 (vr 231)),(en P "slide_kept" 491 (vr 238)),(en P "put" 502 (vr 245)),(en P "form_told" 508 (vr 250)),(en P "__static_attributes__" 519 (vr 251))]⟩ 12) []),E,(ob vn (.fields ⟨[(vi 78 0),(vi 4 0),(vr 202),(vi 90 0),(vi 4 0),(vr 209),(vi 99 0),(vi 4 0),(vr 216),(vi 105 0),(vi 4 0),(vr 223),(vi 111 0),(vi 4 0),(vr 230),(vi 120 0),(vi 4 0),(vr 237),(vi 129 0),(vi 4 0),(vr 244),(vi 143 0),(vi 4 0),(vr 249)]⟩) []),(ob (vy "code") (.fields ⟨[(vs "Comb" 423),(vs "Comb" 424),(vs "/claim/cut.py" 425),(vi 76 0),(vi 0 0),(vi 0 0),(vi 0 0),(vi 0 0),(vr 193),vf,(vi 181 0),(vr 194),vn,vn,vn,vn,(vi 426 0),(vi 76 0),(vs "/claim/cut.py" 427)]⟩) []),(ob (vy "frame") pl [(some (vr 195)),(some (vr 3)),(some (vr 192)),none,(some w3),none,(some (vr 0))])]
 ++PY (J 29 0) "Comb.__init__" 197 433 w3 ["self","n"]
 ++PY (J 29 1) "Comb.number_of" 204 441 w3 ["self","row","key"]
 ++PY (J 29 2) "Comb.without_first" 211 450 w3 ["self","number","k","step"]
 ++PY (J 29 3) "Comb.with_last" 218 460 w3 ["self","number","k","step"]
 ++PY (J 29 4) "Comb.slide" 225 470 w3 ["self","one","other","free","k"]
 ++PY (J 29 5) "Comb.slide_kept" 232 481 w3 ["self","one","other","pair","found"]
 ++PY (J 29 6) "Comb.put" 239 492 w3 ["self","row","line","place","pair"]
 ++fb5 (J 29 7) "Comb.form_told" 246 503 w3
 ++[(ob (vy "tuple") (.seq ⟨[(vs "firsts" 509),(vs "kept" 510),(vs "known" 511),(vs "lasts" 512),(vs "line" 513),(vs "longer" 514),(vs "none" 515),(vs "numbers" 516),(vs "shorter" 517),(vs "whole" 518)]⟩ 0) []),(ob (vy "dict") (.dict ⟨[(en P "__module__" 428 w3),(en P "__firstlineno__" 432 (vi 76 431)),(en P "__init__" 440 (vr 203)),(en P "number_of" 449 (vr 210)),(en P "without_first" 459 (vr 217)),(en P "with_last" 469 (vr 224)),(en P "slide" 480 (vr 231)),(en P "slide_kept" 491 (vr 238)),(en P "put" 502 (vr 245)),(en P "form_told" 508 (vr 250)),(en P "__static_attributes__" 519 (vr 251)),(en P "__dict__" 521 (vr 254)),(en P "__weakref__" 523 (vr 255)),(en P "__doc__" 524 vn)]⟩ 4) []),(ob (vy "type") (.cls (cd "Comb" [(vy "object")] [(vr 253),(vy "object")] 252 "Comb" true [] [] false none false)) [none,none,(some (vs "Comb" 421)),(some (vs "Comb" 429)),(some (vb "object.__new__")),(some vt)]),(ob (vy "getset_descriptor") (.fields ⟨[(vs "__dict__" 520),(vr 253),(vb "function.__dict__"),(vb "function.__dict__#set")]⟩) []),(ob (vy "getset_descriptor") (.fields ⟨[(vs "__weakref__" 522),(vr 253),(vb "ExceptionGroup.__weakref__"),vn]⟩) []),(ob (vy "super") (.fields ⟨[(vr 253),(vr 253),(vr 253)]⟩) []),(ob (vy "builtin_function_or_method") (.fields ⟨[(vb "object.__init_subclass__"),(vr 253)]⟩) [])]
 ++f7 31 258 529 w4 ["n","word","pieces","order","sign_above","k","place","held"]
 ++f7 32 265 543 w4 ["row"]
 ++f7 33 272 550 w4 ["n","piece"]
 ++f7 34 279 558 w4 ["halves","row"]
 ++f7 35 286 566 w4 ["steps","rows","halves","step"]
 ++f5 36 293 576 w4
 ++f5 37 298 582 w4
 ++f7 38 303 588 w4 ["n","word"]
 ++f7 39 310 596 w4 ["n","one","other"]
 ++f7 41 317 607 w5 ["word","p","many"]
 ++f7 42 324 616 w5 ["word","p"]
 ++f7 43 331 624 w5 ["n","word","p","k"]
 ++f7 44 338 634 w5 ["word","p"]
 ++f7 45 345 642 w5 ["word","p"]
 ++f7 46 352 650 w5 ["n","word","move","name","p"]
 ++f7 47 359 661 w5 ["n","word","move"]
 ++f7 48 366 670 w5 ["n","word","move","name","p"]
 ++f7 50 373 683 w6 ["p","one","other"]
 ++f7 51 380 692 w6 ["one","other"]
 ++f7 52 387 700 w6 ["n","word","moves","now","p","move"]
 ++f5 54 394 714 w7
 ++f7 55 399 720 w7 ["move"]
 ++f5 56 406 727 w7
 ++f7 57 411 733 w7 ["n","one","other"]
 ++[(ob (vy "dict") (.dict ⟨[(en P "0" 744 (vi 0 745)),(en P "1" 746 (vi 1 747)),(en P "2" 748 (vi 2 749)),(en P "3" 750 (vi 3 751)),(en P "4" 752 (vi 4 753)),(en P "5" 754 (vi 5 755)),(en P "6" 756 (vi 6 757)),(en P "7" 758 (vi 7 759)),(en P "8" 760 (vi 8 761)),(en P "9" 762 (vi 9 763))]⟩ 10) [])]
 ++f7 60 419 775 w8 ["piece"]
 ++f7 61 426 782 w8 ["piece","number"]
 ++f5 62 433 790 w8
 ++f7 63 438 796 w8 ["text","parts","n","word"]
 ++f5 65 445 808 w9
 ++f7 66 450 814 w9 ["text","read","found","lines","row"]
 ++f5 67 457 825 w9
 ++f7 69 462 833 AJ ["_law_cell","_law_k","_law_factor"]
 ++f7 70 469 842 AJ ["_law_seed","_law_least","_law_most"]
 ++f7 71 476 851 AJ ["_law_number","_law_n","_law_k"]
 ++f7 72 483 860 AJ ["_law_number","_law_n","_law_k","_law_other"]
 ++f7 73 490 870 AJ ["_law_cells","_law_n","_law_most","_law_word","_law_k","_law_cell"]
 ++f7 74 497 882 AJ ["_law_text","_law_which","_law_error","caught"]
 ++f7 75 504 892 AJ ["_law_text","_law_other","_law_told"]
 ++f5 76 511 901 AJ
def as:List Addr:=2::3::(range 505).map (·+11)
def K(P:Params):Frag:=as.map fun a=>(a,(FL P).getD a E)
def q:Program:=view pw [1,2,3,4,5,6,8,9,10,11,12,13,14,16,17,18,19,20,21,22,23,24,25,27,28,29,31,32,33,34,35,36,37,38,39,41,42,43,44,45,46,47,48,50,51,52,54,55,56,57,59,60,61,62,63,65,66,67,69,70,71,72,73,74,75,76]
def env:Env:={scope:=pw.main.scope,locals:=mainNs,globals:=mainNs,cells:=[],code:=vr 13,frame:=some 14}
def bd:List Stmt:=behindTheImports pw
abbrev cE:Code:=.body bd env
abbrev fr:List Frame:=[topFrame ⟨0,0,0,0⟩]
abbrev an:Option Value:=(some (vr 6))
def S(P:Params):Nat->List Obj
 |0=>(((FL P).take 15).set 12 (GH 0)).set 3 (boot_o_3 P)
 |1=>((((FL P).take 40).set 3 (m3 P w0 10 11)).set 12 (GH 2)).set 24 ((ob (vy "type") (.cls (cd "BraidError" [(vy "ValueError")] [(vr 24),(vy "ValueError"),(vy "Exception"),(vy "BaseException"),(vy "object")] 23 "BraidError" true [] [(vr 37)] false none false)) [(some (vr 15)),none,(some (vs "BraidError" 189)),(some (vs "BraidError" 197)),(some (vb "ValueError.__new__")),(some vt)]))
 |2=>((((FL P).take 64).set 3 (m3 P w0 12 13)).set 12 (GH 4)).set 24 ((ob (vy "type") (.cls (cd "BraidError" [(vy "ValueError")] [(vr 24),(vy "ValueError"),(vy "Exception"),(vy "BaseException"),(vy "object")] 23 "BraidError" true [] [(vr 37),(vr 49),(vr 61)] false none false)) [(some (vr 15)),none,(some (vs "BraidError" 189)),(some (vs "BraidError" 197)),(some (vb "ValueError.__new__")),(some vt)]))
 |3=>(((FL P).take 88).set 3 (m3 P w1 15 16)).set 12 (GH 6)
 |4=>(((FL P).take 178).set 3 (m3 P w2 30 31)).set 12 (GH 20)
 |5=>(((FL P).take 190).set 3 (m3 P w3 33 34)).set 12 (GH 22)
 |6=>(((FL P).take 258).set 3 (m3 P w3 34 35)).set 12 (GH 23)
 |7=>(((FL P).take 352).set 3 (m3 P w5 48 49)).set 12 (GH 37)
 |8=>(((FL P).take 418).set 3 (m3 P w8 58 59)).set 12 (GH 47)
 |9=>(((FL P).take 476).set 3 (m3 P AJ 68 69)).set 12 (GH 56)
 |10=>(FL P).take 516
 |_=>[]
abbrev st(i n t:Nat)(w:World)(os:OsState):SharedT:=⟨bt 12 (S w.params i),n,(boot_heap w.params).life,⟨[]⟩,boot_drawn,t,os⟩
theorem pre(w:World)(os:OsState):topGo treeTable pw w 11 an 12 ⟨boot_heap w.params,⟨[]⟩,boot_drawn,boot_toks,os⟩ (topStub pw)=some ((st 0 15 187 w os).abs,⟨denote treeTable cE,cE,⟨0,0,0,0⟩,fr⟩):=by kernel_rfl
theorem blk(w:World)(os:OsState):segRun treeTable pw w 11 an 1 1 (st 0 15 187 w os).abs (blockOf bd env cE ⟨0,0,0,0⟩ fr)=some (.next,(st 0 15 187 w os).abs,cE,⟨0,0,0,0⟩):=by kernel_rfl
abbrev Pc(N i n t d k:Nat)(p:Pos)(n2 t2:Nat)(p2:Pos)(w:World)(os:OsState):Prop:=segRunT treeTable pw w 11 an 1 N (st i n t w os) (piecesOf ((bd.drop d).take k) env cE p fr)=some (.next,st (i+1) n2 t2 w os,cE,p2)
theorem pc0(w:World)(os:OsState):Pc 409 0 15 187 0 3 ⟨0,0,0,0⟩ 40 223 ⟨4,0,5,8⟩ w os:=by kernel_rfl
theorem pc1(w:World)(os:OsState):Pc 427 1 40 223 3 2 ⟨4,0,5,8⟩ 64 255 ⟨8,0,9,8⟩ w os:=by kernel_rfl
theorem pc2(w:World)(os:OsState):Pc 445 2 64 255 5 4 ⟨8,0,9,8⟩ 88 291 ⟨15,0,15,14⟩ w os:=by kernel_rfl
theorem pc3(w:World)(os:OsState):Pc 426 3 88 291 9 16 ⟨15,0,15,14⟩ 178 402 ⟨65,0,66,61⟩ w os:=by kernel_rfl
theorem pc4(w:World)(os:OsState):Pc 76 4 178 402 25 4 ⟨65,0,66,61⟩ 190 421 ⟨71,0,75,15⟩ w os:=by kernel_rfl
theorem pc5(w:World)(os:OsState):Pc 466 5 190 421 29 1 ⟨71,0,75,15⟩ 258 527 ⟨76,0,147,80⟩ w os:=by kernel_rfl
theorem pc6(w:World)(os:OsState):Pc 442 6 258 527 30 16 ⟨76,0,147,80⟩ 352 650 ⟨203,0,206,42⟩ w os:=by kernel_rfl
theorem pc7(w:World)(os:OsState):Pc 332 7 352 650 46 13 ⟨203,0,206,42⟩ 418 744 ⟨270,0,270,8⟩ w os:=by kernel_rfl
theorem pc8(w:World)(os:OsState):Pc 443 8 418 744 59 12 ⟨270,0,270,8⟩ 476 851 ⟨316,0,320,70⟩ w os:=byRow2 "special-get-raises" (P:=fun w=>Pc 443 8 418 744 59 12 ⟨270,0,270,8⟩ 476 851 ⟨316,0,320,70⟩ w os) (fun w=>by kernel_rfl) (fun w=>by kernel_rfl) w
theorem pc9(w:World)(os:OsState):Pc 187 9 476 851 71 6 ⟨316,0,320,70⟩ 516 907 ⟨359,0,376,98⟩ w os:=by kernel_rfl
theorem fin(w:World)(os:OsState):topRun treeTable pw w 11 an 2 (st 10 516 907 w os).abs (restOf [] env cE ⟨359,0,376,98⟩ fr)=some (st 10 516 907 w os).abs:=by kernel_rfl
theorem cut:bd=((bd.drop 0).take 3++((bd.drop 3).take 2++((bd.drop 5).take 4++((bd.drop 9).take 16++((bd.drop 25).take 4++((bd.drop 29).take 1++((bd.drop 30).take 16++((bd.drop 46).take 13++((bd.drop 59).take 12++((bd.drop 71).take 6++[])))))))))):=by kernel_rfl
theorem rest{tb:String->Option Builtin}{p:Program}{w:World}{n₀ N:Nat}{ann:Option Value}{s r:Shared}{b b':List Stmt}{e:Env}{c:Code}{ps:Pos}{B:List Frame}(h:b=b')(k:topRun tb p w n₀ ann N s (restOf b' e c ps B)=some r):topRun tb p w n₀ ann N s (restOf b e c ps B)=some r:=h▸k
theorem run(w:World)(os:OsState):topRun treeTable pw w 11 an (12+(1+(409+(427+(445+(426+(76+(466+(442+(332+(443+(187+2)))))))))))) ⟨boot_heap w.params,⟨[]⟩,boot_drawn,boot_toks,os⟩ (topStub pw)=some (st 10 516 907 w os).abs:=go_top (pre w os) (piece_block (blk w os) (rest cut (piece_app (segRun_of (pc0 w os)) (piece_app (segRun_of (pc1 w os)) (piece_app (segRun_of (pc2 w os)) (piece_app (segRun_of (pc3 w os)) (piece_app (segRun_of (pc4 w os)) (piece_app (segRun_of (pc5 w os)) (piece_app (segRun_of (pc6 w os)) (piece_app (segRun_of (pc7 w os)) (piece_app (segRun_of (pc8 w os)) (piece_app (segRun_of (pc9 w os)) (fin w os)))))))))))))
def lo:List Str:=[Str.ofString "FIGURES"]
def hk:Hook:=kHook K as (fun _=>by kernel_rfl)
def Xt(s:Shared):Bool:=xlAt q [] s&&recOk (OpenLaw.row PySem.Challenge.rw_braidcomb_k83_combed).toRowW.records s
abbrev H1(P:Params):Heap:=absHeap (bt 12 (S P 10)) 516 (boot_heap P).life
theorem WI(w:World)(os:OsState):(staticsOk (importedModules pw.main.body) (boot_heap w.params) (H1 w.params)&&namesBound pw (H1 w.params)&&gensDone ⟨H1 w.params,⟨[]⟩,boot_drawn,907,os⟩&&laidKept (boot_heap w.params) (H1 w.params))=true:=by kernel_rfl
theorem WK(w:World)(os:OsState):(openSeen q lo (importedModules pw.main.body) Xt true ⟨H1 w.params,⟨[]⟩,boot_drawn,907,os⟩)=openGood q lo:=by kernel_rfl
theorem WL(w:World)(os:OsState):(hk.obs ⟨H1 w.params,⟨[]⟩,boot_drawn,907,os⟩)=hk.val w:=by kernel_rfl
theorem o1:opening pw=plainProg pw.main.scope.names:=by kernel_rfl
theorem o2(s:Shared):fenceModules? pw s=some s:=by kernel_rfl
theorem o3:ble 600 7412=true:=by kernel_rfl
theorem op(w:World):(fencedOpening treeTable pw w 7412).map (fun s=>(s.heap,s.gens,s.drawn,s.toks))=some (boot_heap w.params,⟨[]⟩,boot_drawn,boot_toks):=boot_open o1 o3 o2 w
theorem sz(w:World):((boot_heap w.params).isNs mainGlobals&&(⟨[]⟩:Array GenState).size==0,(boot_heap w.params).objs.size,(boot_heap w.params).nsMap mainGlobals "__annotations__")=(true,11,an):=by kernel_rfl
theorem le:ble (12+(1+(409+(427+(445+(426+(76+(466+(442+(332+(443+(187+2)))))))))))) 7412=true:=by kernel_rfl
theorem ab(w:World)(os:OsState):some (st 10 516 907 w os).abs=some ⟨H1 w.params,⟨[]⟩,boot_drawn,907,os⟩:=by kernel_rfl
theorem run'(w:World)(os:OsState):topRun treeTable pw w 11 an (12+(1+(409+(427+(445+(426+(76+(466+(442+(332+(443+(187+2)))))))))))) ⟨boot_heap w.params,⟨[]⟩,boot_drawn,boot_toks,os⟩ (topStub pw)=some ⟨H1 w.params,⟨[]⟩,boot_drawn,907,os⟩:=Eq.trans (run w os) (ab w os)
theorem left:LeftO pw q lo Xt hk.obs hk.val 7412 true:=
 @LeftO.of_pieces pw q lo Xt hk.α hk.obs hk.val 7412 true boot_heap H1 ⟨[]⟩ ⟨[]⟩ boot_drawn boot_drawn boot_toks 907 11 an (12+(1+(409+(427+(445+(426+(76+(466+(442+(332+(443+(187+2)))))))))))) op sz run' le (fun w=>funext fun os=>Prod.ext (WI w os) (Prod.ext (WK w os) (WL w os)))
end
end DL.pD.H
namespace DL.pD
open PySem PySem.Spec PyProof.Rows L2 DL
abbrev Kv:Stmt:=inClass (top 29) 1
structure Lq(K:PySem.W.Frag)(mg:Str->Option Value)(C:Addr):Prop where
 cl:HR K C
 kn:fM K C "known"
 nu:fM K C "numbers"
 fi:fM K C "firsts"
 la:fM K C "lasts"
 sh:fM K C "shorter"
 lo:fM K C "longer"
 ke:fM K C "kept"
 li:fM K C "line"
 no:fM K C "none"
 wh:fM K C "whole"
 mgC:mg "Comb"=some (.ref C)
 mtu:mg "tuple"=none
 mli:mg "list"=none
 Yi:mg "len"=none
def B5(K:PySem.W.Frag)(C:Addr):Sp:=fun vs H Q _=>∃(a:Addr)(A:Ad)(ex:List (Str×V))(n:Nat)(kn:List RP)(ln:List Int)(B:Nat)(nu sh lo ke:List (List Key×V))(p:RP)(v:V),
 vs=[.ref a,v]/\iA C H a A ex n kn ln B nu sh lo ke/\n<=7/\B<1000000/\Iv n p.1 p.2/\Is K (fun x=>x∉a::A.all) H (.lst (aO p.1)) v/\
 ∀(i:Nat)(H':Hp)(A':Ad)(mo:List RP)(Dw:List (List Key×V)),iA C H' a A' ex n (kn++mo) ln (B+1) Dw sh lo ke->(kn++mo)[i]?=some p->ie H H' (a::A.all) (a::A'.all)->A'.li=A.li->Q (.int i) H'
section
variable{P:Program}{w:World}{K:PySem.W.Frag}{mg:Str->Option Value}{base:Heap}
theorem sc1:aw ["self","row","key"] ["self","row"] (aa Kv):=⟨rfl,rfl,rfl,by decide +kernel,rfl,by decide +kernel,by decide +kernel⟩
theorem Sz{f C:Addr}{fd:FuncData}(F:zL K "number_of" "Comb.number_of" Kv f fd)(T:Lq K mg C)(t:Tb K mg)
  (xW:mQ P w K mg base 2 t.sJ t.sL ["row"] rV)(qk:mQ P w K mg base 1 t.sH t.sI ["row"] p4)(Kx:Ok P w K mg base 1 t.qb t.qc ["crossings"] lQ)
  (PZ:∀ks:List Int,(∀k∈ks,1<=k/\k<=7)->lQ [.lst (aO ks)]=.ok (.int (Ds ks))):bH P w K mg base kh 3 f fd ["self","row"] (B5 K C):=by
 refine F.ok sc1 (fun vs H Q E h=>?_) (fun cdv A outer s H vs Q E hr h=>?_)
 ·obtain⟨a,A,ex,n,kn,ln,B,nu,sh,lo,ke,p,v,rfl,_⟩:=h
  rfl
 ·obtain⟨a,A,ex,n,kn,ln,B,nu,sh,lo,ke,p,v,rfl,c,hn,hB,iv,Lj,k⟩:=h
  have hu:=rq hr
  refine⟨_,aA (di (i:=2) sc1.nd rfl (Or.inl rfl) (lG yy (by rfl) T.mtu IJ (aq (pv 1) aE)))
   (aA (uR (CF (uc hu (pv 2) (bB (pv 0) rfl)))
    (aA (vM hu (bB (pv 0) rfl) (pv 2) (je mz (by rfl) T.Yi kX (aq (bB (pv 0) rfl) aE)) rfl)
    (aA (fX (nG plainAttrs_list PySem.F.slot_list_append PySem.F.type_list_append dO (bB (pv 0) rfl) (aq (lG mB (by rfl) T.mli vP (aq (pv 1) aE)) aE)) rfl)
    (aA (fX (nG plainAttrs_list PySem.F.slot_list_append PySem.F.type_list_append dO (bB (pv 0) rfl) (aq (dS (E:=fun _ _ _=>False) Kx (hr.mono (by decide)) (by rfl) t.gF.m t.gF.F.kp t.gF.b .nil ky (aq (dS (E:=fun _ _ _=>False) xW (hr.mono (by decide)) (by rfl) t.pK.m t.pK.F.kp t.pK.b .nil ky (aq (pv 1) aE)) aE)) aE)) rfl)
    (bO (fX (nG plainAttrs_list PySem.F.slot_list_append PySem.F.type_list_append dO (bB (pv 0) rfl) (aq (dS (E:=fun _ _ _=>False) Kx (hr.mono (by decide)) (by rfl) t.gF.m t.gF.F.kp t.gF.b .nil ky (aq (dS (E:=fun _ _ _=>False) qk (hr.mono (by decide)) (by rfl) t.p9.m t.p9.F.kp t.p9.b .nil ky (aq (pv 1) aE)) aE)) aE)) rfl))))) km)
   (bO (kR (zM hu (bB (pv 0) rfl) (pv 2) (fun _ _=>rfl))))),?_⟩
  obtain⟨b,vs,rfl,lb,il⟩:=id Lj
  have ev:=iR il
  subst ev
  refine⟨_,rfl,b,_,rfl,.inl ⟨lb.sq,fun l hl=>?_⟩⟩
  have s1:aC H (upd H l (.tup (p.1.map V.int))):=aF hl _
  have c1:=c.same s1
  have hkey:(upd H l (.tup (p.1.map V.int))) l=some (.tup ((kk p.1).map kV)):=by rw[aaJ];exact ak
  have Ao:=ie.same s1 (a::A.all)
  generalize hH1:upd H l (.tup (p.1.map V.int))=H1 at s1 c1 hkey Ao
  refine⟨_,rfl,_,rfl,a,C,A.dx,_,_,rfl,c1.ob,T.cl,T.nu,EE,A.nu,_,rfl,mE.t c1.yL hkey,_,rfl,?_⟩
  by_cases hm:∃q∈kn,q.1=p.1
  ·obtain⟨q,hq,eq⟩:=hm
   have hqp:q=p:=WD (c.rw q hq) iv eq
   subst hqp
   obtain⟨i,hi,ei⟩:=getElem_of_mem hq
   have PL:kn[i]?=some q:=by rw[getElem?_eq_getElem hi,ei]
   have hv:=c.n1 i q PL
   rw[hv]
   refine t8 ?_
   refine⟨_,rfl,a,C,A.dx,_,_,rfl,c1.ob,T.cl,T.nu,EE,_,rfl,A.nu,.int i,rfl,?_,?_⟩
   ·have:=mE.t (k:=kk q.1) c1.yL hkey
    rw[hv]at this
    exact this
   ·exact k i H1 A [] nu (by rw[append_nil];exact c1.more (by omega)) (by rw[append_nil];exact PL) Ao rfl
  ·have hv:du nu (kk p.1)=none:=c.n2 p.1 fun q hq e=>hm ⟨q,hq,e⟩
   rw[hv]
   refine vp ?_
   have hz:=c.z
   obtain⟨⟨n1,n2,n3,n4,n5,n6⟩,⟨m1,m2,m3,m4,m5,m6⟩,Sq,⟨d1,d2,d3,d4,d5,d6,d7,d8,d9⟩,WE⟩:=c.So
   have big:∀{x:Nat},x<=1000001->x<sizeLine:=fun h=>Nat.lt_of_le_of_lt h (by decide)
   have Nk:∀x∈A.hd,x∈a::A.all:=fun x hx=>mem_cons_of_mem _ (mem_append_left _ hx)
   refine⟨_,rfl,a,C,A.dx,_,_,rfl,c1.ob,T.cl,T.kn,zm,A.kn,_,rfl,.inl (cV.of c1.hkn),_,rfl,a,C,A.dx,_,_,rfl,c1.ob,T.cl,T.nu,EE,_,rfl,A.nu,_,rfl,AY.t c1.yL hkey (big (by omega)),?_⟩
   rw[length_map,c.BQ]
   have k1n:A.kn≠A.nu:=bD c.hkn c.yL (by intro z;cases z)
   have fin:A.fi≠A.nu:=bD c.yp c.yL (by intro z;cases z)
   have lan:A.la≠A.nu:=bD c.hla c.yL (by intro z;cases z)
   have an:a≠A.nu:=bD c.ob c.yL (by intro z;cases z)
   have akn:a≠A.kn:=bD c.ob c.hkn (by intro z;cases z)
   have afi:a≠A.fi:=bD c.ob c.yp (by intro z;cases z)
   have ala:a≠A.la:=bD c.ob c.hla (by intro z;cases z)
   have ln1:l≠A.nu:=fun z=>by rw[z,c.yL]at hl;cases hl
   generalize hH2:upd H1 A.nu (.dT (putK nu (kk p.1) (.int (kn.length:Int))))=H2
   have WM:H2 a=some (.ins C A.dx (vA A++ex)):=by rw[<-hH2,ae an];exact c1.ob
   have P1:H2 A.kn=some (.lst (A.ks.map V.ref)):=by rw[<-hH2,ae k1n];exact c1.hkn
   have Dy:ie H H2 (a::A.all) (a::A.all):=Ao.trans (by rw[<-hH2];exact ie.upd (Nk _ (by simp[Ad.hd])) _)
   have lb2:vq K (fun _=>True) H2 b (p.1.map V.int):=lb.ext ⟨fun _ _ _ _=>trivial,fun x o px hx=>Dy.kp x o px hx⟩
   refine⟨_,rfl,a,C,A.dx,_,_,rfl,WM,T.cl,T.kn,zm,.inl ⟨rfl,_,cV.of P1⟩,_,rfl,b,_,rfl,.inl lb2.sq,fun l2 hl2=>?_⟩
   have TY:H l2=none:=Dy.gr l2 hl2
   have l2k:A.kn≠l2:=fun z=>by rw[<-z,P1]at hl2;cases hl2
   refine⟨A.kn,A.ks.map V.ref,.ref l2,rfl,rfl,by rw[ae l2k];exact P1,by rw[length_map,c.BQ];exact big (by omega),?_⟩
   generalize Lr:upd (upd H2 l2 (.lst (p.1.map V.int))) A.kn (.lst (A.ks.map V.ref++[.ref l2]))=H3
   have rg:ie H H3 (a::A.all) (a::A.all):=by
    rw[<-Lr]
    exact(Dy.trans (ie.same (aF hl2 _) _)).trans (ie.upd (Nk _ (by simp[Ad.hd])) _)
   have WN:H3 a=some (.ins C A.dx (vA A++ex)):=by rw[<-Lr,ae akn];exact aF hl2 _ _ _ WM
   have fi3:H3 A.fi=some (.lst (kn.map fun p=>V.int (vB p.2))):=by
    rw[<-Lr,ae (Ne.symm n1)]
    refine aF hl2 _ _ _ ?_
    rw[<-hH2,ae fin]
    exact c1.yp
   have lb3:vq K (fun _=>True) H3 b (p.1.map V.int):=lb.ext ⟨fun _ _ _ _=>trivial,fun x o px hx=>rg.kp x o px hx⟩
   refine⟨_,rfl,a,C,A.dx,_,_,rfl,WN,T.cl,T.fi,JY,.inl ⟨rfl,_,cV.of fi3⟩,_,rfl,_,[.lst (aO p.1)],⟨.ref b,[],rfl,⟨b,_,rfl,lb3,bW p.1⟩,rfl⟩,?_⟩
   have hd7:∀(m:Nat)(x y:List Int),m<=7->Iv m x y->∀k∈BL y,1<=k/\k<=7:=fun m x y hm h k hk=>by
    obtain⟨a',e,h1,_⟩:=Ae.mp hk
    rw[h.ls]at h1
    omega
   rw[GW iv hn]
   intro q ws H4 s4 hq4 hw4 iw4
   have ew:=iR iw4
   subst ew
   refine⟨fun _=>True,[.lst (aO (BL p.2))],⟨.ref q,[],rfl,⟨q,_,rfl,.inl ⟨trivial,.inl hw4⟩,bW _⟩,rfl⟩,?_⟩
   rw[PZ _ (hd7 n p.1 p.2 hn iv)]
   intro v5 H5 s5 i5
   have e5:v5=.int (Ds (BL p.2)):=i5
   subst e5
   have Nm:=s4.trans s5
   refine⟨A.fi,_,.int (vB p.2),rfl,rfl,Nm _ _ fi3,by rw[length_map];exact big (by omega),?_⟩
   generalize Ls:upd H5 A.fi (.lst ((kn.map fun p=>V.int (vB p.2))++[V.int (vB p.2)]))=H6
   have Yj:ie H H6 (a::A.all) (a::A.all):=by
    rw[<-Ls]
    exact(rg.trans (ie.same Nm _)).trans (ie.upd (Nk _ (by simp[Ad.hd])) _)
   have Yk:H6 a=some (.ins C A.dx (vA A++ex)):=by rw[<-Ls,ae afi];exact Nm _ _ WN
   have la6:H6 A.la=some (.lst (kn.map fun p=>V.int (vB p.1))):=by
    rw[<-Ls,ae (Ne.symm n4)]
    refine Nm _ _ ?_
    rw[<-Lr,ae (Ne.symm n2)]
    refine aF hl2 _ _ _ ?_
    rw[<-hH2,ae lan]
    exact c1.hla
   have lb6:vq K (fun _=>True) H6 b (p.1.map V.int):=lb.ext ⟨fun _ _ _ _=>trivial,fun x o px hx=>Yj.kp x o px hx⟩
   refine⟨_,rfl,a,C,A.dx,_,_,rfl,Yk,T.cl,T.la,JZ,.inl ⟨rfl,_,cV.of la6⟩,_,rfl,_,[.lst (aO p.1)],⟨.ref b,[],rfl,⟨b,_,rfl,lb6,bW p.1⟩,rfl⟩,?_⟩
   rw[BP p.1 (by rw[iv.lr];exact hn)]
   intro q7 ws7 H7 s7 hq7 hw7 iw7
   have ew7:=iR iw7
   subst ew7
   refine⟨fun _=>True,[.lst (aO (BL p.1))],⟨.ref q7,[],rfl,⟨q7,_,rfl,.inl ⟨trivial,.inl hw7⟩,bW _⟩,rfl⟩,?_⟩
   rw[PZ _ (hd7 n p.2 p.1 hn iv.symm)]
   intro v8 H8 s8 i8
   have e8:v8=.int (Ds (BL p.1)):=i8
   subst e8
   have P4:=s7.trans s8
   refine⟨A.la,_,.int (vB p.1),rfl,rfl,P4 _ _ la6,by rw[length_map];exact big (by omega),?_⟩
   generalize P5:upd H8 A.la (.lst ((kn.map fun p=>V.int (vB p.1))++[V.int (vB p.1)]))=H9
   have fr9:ie H H9 (a::A.all) (a::A.all):=by
    rw[<-P5]
    exact(Yj.trans (ie.same P4 _)).trans (ie.upd (Nk _ (by simp[Ad.hd])) _)
   have keep:∀x o,x≠A.nu->x≠A.kn->x≠A.fi->x≠A.la->H x=some o->H9 x=some o:=fun x o x1 x2 x3 x4 hx=>by
    rw[<-P5,ae x4]
    refine P4 _ _ ?_
    rw[<-Ls,ae x3]
    refine Nm _ _ ?_
    rw[<-Lr,ae x2]
    refine aF hl2 _ _ _ ?_
    rw[<-hH2,ae x1]
    exact s1 _ _ hx
   have Yd:H9 a=some (.ins C A.dx (vA A++ex)):=keep a _ an akn afi ala c.ob
   have Ye:H9 A.nu=some (.dT (putK nu (kk p.1) (.int (kn.length:Int)))):=by
    rw[<-P5,ae (Ne.symm lan)]
    refine P4 _ _ ?_
    rw[<-Ls,ae (Ne.symm fin)]
    refine Nm _ _ ?_
    rw[<-Lr,ae (Ne.symm k1n)]
    refine aF hl2 _ _ _ ?_
    rw[<-hH2]
    exact ak
   have acO:H9 l=some (.tup ((kk p.1).map kV)):=by
    have lk:∀{x:Addr}{o:HO},H x=some o->l≠x:=fun hx z=>by rw[z,hx]at hl;cases hl
    rw[<-P5,ae (lk c.hla)]
    refine P4 _ _ ?_
    rw[<-Ls,ae (lk c.yp)]
    refine Nm _ _ ?_
    rw[<-Lr,ae (lk c.hkn)]
    refine aF hl2 _ _ _ ?_
    rw[<-hH2,ae (lk c.yL)]
    exact hkey
   have l29:H9 l2=some (.lst (p.1.map V.int)):=by
    have lk:∀{x:Addr}{o:HO},H x=some o->l2≠x:=fun hx z=>by rw[z,hx]at TY;cases TY
    rw[<-P5,ae (lk c.hla)]
    refine P4 _ _ ?_
    rw[<-Ls,ae (lk c.yp)]
    refine Nm _ _ ?_
    rw[<-Lr,ae (lk c.hkn)]
    exact ak
   have kn9:H9 A.kn=some (.lst (A.ks.map V.ref++[.ref l2])):=by
    rw[<-P5,ae n2]
    refine P4 _ _ ?_
    rw[<-Ls,ae n1]
    refine Nm _ _ ?_
    rw[<-Lr]
    exact ak
   have fi9:H9 A.fi=some (.lst ((kn.map fun p=>V.int (vB p.2))++[V.int (vB p.2)])):=by
    rw[<-P5,ae n4]
    refine P4 _ _ ?_
    rw[<-Ls]
    exact ak
   have la9:H9 A.la=some (.lst ((kn.map fun p=>V.int (vB p.1))++[V.int (vB p.1)])):=by
    rw[<-P5]
    exact ak
   have yM:∀j,du (putK nu (kk p.1) (.int (kn.length:Int))) j=if j=kk p.1 then some (.int (kn.length:Int))else du nu j:=fun j=>jR nu (kk p.1) j _
   have c9:=c.add hm iv TY Yd Ye kn9 fi9 la9 l29 keep
   refine⟨_,rfl,a,C,A.dx,_,_,rfl,Yd,T.cl,T.nu,EE,_,rfl,A.nu,.int (kn.length:Int),rfl,?_,?_⟩
   ·have:=mE.t (k:=kk p.1) Ye acO
    rw[yM,if_pos rfl]at this
    exact this
   ·refine k kn.length H9 _ [p] _ c9 (by simp) ⟨fr9.kp,fun x hx=>?_,fr9.gr⟩ rfl
    have Hr:x∈a::(A.hd++(A.ks++[l2])):=hx
    rw[<-List.append_assoc,<-cons_append]at Hr
    rcases mem_append.mp Hr with h|h
    ·exact .inl h
    ·have:x=l2:=by simpa using h
     rw[this];exact .inr TY
end
end DL.pD
namespace DL.pD
open PySem PySem.Spec PyProof.Rows L2 DL
abbrev Ky:Stmt:=inClass (top 29) 2
def P6(C:Addr):Sp:=fun vs H Q _=>∃(a:Addr)(A:Ad)(z w:Int)(n:Nat)(kn:List RP)(ln:List Int)(B:Nat)(nu sh lo ke:List (List Key×V))(p:RP)(i j:Nat),
 vs=[.ref a,.int i,.int ((j:Int)+1)]/\iA C H a A (uY z w) n kn ln B nu sh lo ke/\n<=7/\B+1<1000000/\kn[i]?=some p/\j+1<n/\
 ∀(i':Nat)(H':Hp)(A':Ad)(mo:List RP)(Dw SA:List (List Key×V)),iA C H' a A' (uY z w) n (kn++mo) ln (B+2) Dw SA lo ke->(kn++mo)[i']?=some (GX p j)->ie H H' (a::A.all) (a::A'.all)->A'.li=A.li->Q (.int i') H'
section
variable{P:Program}{w:World}{K:PySem.W.Frag}{mg:Str->Option Value}{base:Heap}
theorem sc2:aw ["self","number","k","step"] ["self","number","k"] (aa Ky):=⟨rfl,rfl,rfl,by decide +kernel,rfl,by decide +kernel,by decide +kernel⟩
theorem WO{f C fN:Addr}{fd Kz:FuncData}(F:zL K "without_first" "Comb.without_first" Ky f fd)(T:Lq K mg C)(t:Tb K mg)
  (mN:Meth K C "number_of" fN)(bN:Binds K Kz ["self","row"] [])(GN:bH P w K mg base kh 3 fN Kz ["self","row"] (B5 K C))
  (G_x:mQ P w K mg base 2 t.cz t.cA ["row","k"] cy):bH P w K mg base kh 4 f fd ["self","number","k"] (P6 C):=by
 refine F.ok sc2 (fun vs H Q E h=>?_) (fun cdv A outer s H vs Q E hr h=>?_)
 ·obtain⟨a,A,z,w,n,kn,ln,B,nu,sh,lo,ke,p,i,j,rfl,_⟩:=h
  rfl
 ·obtain⟨a,A,z,w,n,kn,ln,B,nu,sh,lo,ke,p,i,j,rfl,c,hn,hB,hi,hj,k⟩:=h
  have hu:=rq hr
  refine⟨_,aA (di (i:=3) sc2.nd rfl (Or.inl rfl) (tY (aq (pv 1) (aq (pv 2) aE))))
   (aA (uR (CF (uc hu (pv 3) (bB (pv 0) rfl)))
    (bO (vM hu (bB (pv 0) rfl) (pv 3) (iM (pv 0) T.cl mN GN (hr.mono (by decide)) bN .nil nH (aq (dS (E:=fun _ _ _=>False) G_x (hr.mono (by decide)) (by rfl) t.bE.m t.bE.F.kp t.bE.b .nil ky (aq (gP dE (bB (pv 0) rfl) (pv 1) (fun _ _=>rfl)) (aq (pv 2) aE))) aE)) rfl)) km)
   (bO (kR (zM hu (bB (pv 0) rfl) (pv 3) (fun _ _=>rfl))))),?_⟩
  refine⟨_,rfl,_,rfl,(by show 2<=sizeLine;decide),fun l hl=>?_⟩
  have s1:aC H (upd H l (.tup [.int i,.int ((j:Int)+1)])):=aF hl _
  have c1:=c.same s1
  have hkey:(upd H l (.tup [.int i,.int ((j:Int)+1)])) l=some (.tup (([.inl (i:Int),.inl ((j:Int)+1)]:List Key).map kV)):=ak
  have Ao:=ie.same s1 (a::A.all)
  have WQ:l∉a::A.all:=fun hx=>by
   obtain⟨o,ho⟩:=c.there hx
   rw[hl]at ho
   cases ho
  generalize hH1:upd H l (.tup [.int i,.int ((j:Int)+1)])=H1 at s1 c1 hkey Ao
  refine⟨_,rfl,_,rfl,a,C,A.dx,_,_,rfl,c1.ob,T.cl,T.sh,EF,A.sh,_,rfl,mE.t c1.hsh hkey,_,rfl,?_⟩
  have ej:((j:Int)+1-1).toNat=j:=by omega
  cases hv:du sh ([.inl (i:Int),.inl ((j:Int)+1)]:List Key)with
  |some v=>
   refine t8 ?_
   obtain⟨j',p',h1,h2,rfl⟩:=c.s1 i ((j:Int)+1) v hv
   rw[hi]at h1
   cases h1
   rw[ej]at h2
   refine⟨_,rfl,a,C,A.dx,_,_,rfl,c1.ob,T.cl,T.sh,EF,_,rfl,A.sh,.int j',rfl,?_,?_⟩
   ·have:=mE.t (k:=[.inl (i:Int),.inl ((j:Int)+1)]) c1.hsh hkey
    rw[hv]at this
    exact this
   ·exact k j' H1 A [] nu sh (by rw[append_nil];exact c1.more (by omega)) (by rw[append_nil];exact h2) Ao rfl
  |none=>
   refine vp ?_
   have iv:=c.rw p (mem_of_getElem? hi)
   have WR:i<A.ks.length:=by rw[c.BQ];exact(List.getElem?_eq_some_iff.mp hi).1
   have hb1:=c1.hks i A.ks[i] p (getElem?_eq_getElem WR) hi
   refine⟨_,rfl,a,A.dx,_,rfl,c1.ob,rfl,_,rfl,a,C,A.dx,_,_,rfl,c1.ob,T.cl,T.kn,zm,_,rfl,A.kn,A.ks.map V.ref,i,.ref A.ks[i],rfl,rfl,cV.of c1.hkn,iO (by rw[getElem?_map,getElem?_eq_getElem WR];rfl),_,rfl,fun _=>True,[.lst (aO p.1),.int ((j:Int)+1)],⟨_,_,rfl,⟨_,_,rfl,.inl ⟨trivial,.inl hb1⟩,bW _⟩,⟨_,_,rfl,rfl,rfl⟩⟩,?_⟩
   rw[JW iv hn hj]
   intro q ws H2 s2 hq2 hw2 iw2
   have ew:=iR iw2
   subst ew
   have c2:=c1.same s2
   have hqF:q∉a::A.all:=fun hx=>by
    obtain⟨o,ho⟩:=c1.there hx
    rw[hq2]at ho
    cases ho
   refine⟨a,A,uY z w,n,kn,ln,B,nu,sh,lo,ke,GX p j,.ref q,rfl,c2,hn,by omega,iv.step hj,⟨q,_,rfl,.inl ⟨hqF,.inl hw2⟩,bW _⟩,fun i' H3 A' mo Dw c3 SD rg eli=>?_⟩
   have sX:H3 l=some (.tup (([.inl (i:Int),.inl ((j:Int)+1)]:List Key).map kV)):=rg.kp l _ WQ (s2 _ _ hkey)
   have hz:=c3.z
   refine⟨_,rfl,a,C,A'.dx,_,_,rfl,c3.ob,T.cl,T.sh,EF,_,rfl,A'.sh,_,rfl,AY.t c3.hsh sX (Nat.lt_of_le_of_lt (show sh.length<=1000001 by omega) (by decide)),?_⟩
   have PL:(kn++mo)[i]?=some p:=bU hi
   have c4:=c3.Ss (i:=i) (j:=i') (k:=(j:Int)+1) PL (by rw[ej];exact SD)
   have hl4:A'.sh≠l:=fun zz=>by rw[<-zz,c3.hsh]at sX;cases sX
   refine⟨_,rfl,a,C,A'.dx,_,_,rfl,c4.ob,T.cl,T.sh,EF,_,rfl,A'.sh,.int i',rfl,?_,?_⟩
   ·have hk4:(upd H3 A'.sh (.dT (putK sh [.inl (i:Int),.inl ((j:Int)+1)] (.int i')))) l=some (.tup (([.inl (i:Int),.inl ((j:Int)+1)]:List Key).map kV)):=by rw[ae (Ne.symm hl4)];exact sX
    have:=mE.t (k:=[.inl (i:Int),.inl ((j:Int)+1)]) c4.hsh hk4
    rw[jR,if_pos rfl]at this
    exact this
   ·refine k i' _ A' mo Dw _ c4 SD ?_ eli
    exact((Ao.trans (ie.same s2 _)).trans rg).trans (ie.upd (mem_cons_of_mem _ (mem_append_left _ (by simp[Ad.hd]))) _)
end
abbrev KA:Stmt:=inClass (top 29) 3
def P7(C:Addr):Sp:=fun vs H Q _=>∃(a:Addr)(A:Ad)(z w:Int)(n:Nat)(kn:List RP)(ln:List Int)(B:Nat)(nu sh lo ke:List (List Key×V))(p:RP)(i j:Nat),
 vs=[.ref a,.int i,.int ((j:Int)+1)]/\iA C H a A (uY z w) n kn ln B nu sh lo ke/\n<=7/\B+1<1000000/\kn[i]?=some p/\j+1<n/\
 ∀(i':Nat)(H':Hp)(A':Ad)(mo:List RP)(Dw SE:List (List Key×V)),iA C H' a A' (uY z w) n (kn++mo) ln (B+2) Dw sh SE ke->(kn++mo)[i']?=some (Dt p j)->ie H H' (a::A.all) (a::A'.all)->A'.li=A.li->Q (.int i') H'
section
variable{P:Program}{w:World}{K:PySem.W.Frag}{mg:Str->Option Value}{base:Heap}
theorem sc3:aw ["self","number","k","step"] ["self","number","k"] (aa KA):=⟨rfl,rfl,rfl,by decide +kernel,rfl,by decide +kernel,by decide +kernel⟩
theorem WS{f C fN:Addr}{fd Kz:FuncData}(F:zL K "with_last" "Comb.with_last" KA f fd)(T:Lq K mg C)(t:Tb K mg)
  (mN:Meth K C "number_of" fN)(bN:Binds K Kz ["self","row"] [])(GN:bH P w K mg base kh 3 fN Kz ["self","row"] (B5 K C))
  (G_x:mQ P w K mg base 1 t.bj t.bp ["row","k"] aP):bH P w K mg base kh 4 f fd ["self","number","k"] (P7 C):=by
 refine F.ok sc3 (fun vs H Q E h=>?_) (fun cdv A outer s H vs Q E hr h=>?_)
 ·obtain⟨a,A,z,w,n,kn,ln,B,nu,sh,lo,ke,p,i,j,rfl,_⟩:=h
  rfl
 ·obtain⟨a,A,z,w,n,kn,ln,B,nu,sh,lo,ke,p,i,j,rfl,c,hn,hB,hi,hj,k⟩:=h
  have hu:=rq hr
  refine⟨_,aA (di (i:=3) sc3.nd rfl (Or.inl rfl) (tY (aq (pv 1) (aq (pv 2) aE))))
   (aA (uR (CF (uc hu (pv 3) (bB (pv 0) rfl)))
    (bO (vM hu (bB (pv 0) rfl) (pv 3) (iM (pv 0) T.cl mN GN (hr.mono (by decide)) bN .nil nH (aq (dS (E:=fun _ _ _=>False) G_x (hr.mono (by decide)) (by rfl) t.aT.m t.aT.F.kp t.aT.b .nil ky (aq (gP dE (bB (pv 0) rfl) (pv 1) (fun _ _=>rfl)) (aq (pv 2) aE))) aE)) rfl)) km)
   (bO (kR (zM hu (bB (pv 0) rfl) (pv 3) (fun _ _=>rfl))))),?_⟩
  refine⟨_,rfl,_,rfl,(by show 2<=sizeLine;decide),fun l hl=>?_⟩
  have s1:aC H (upd H l (.tup [.int i,.int ((j:Int)+1)])):=aF hl _
  have c1:=c.same s1
  have hkey:(upd H l (.tup [.int i,.int ((j:Int)+1)])) l=some (.tup (([.inl (i:Int),.inl ((j:Int)+1)]:List Key).map kV)):=ak
  have Ao:=ie.same s1 (a::A.all)
  have WQ:l∉a::A.all:=fun hx=>by
   obtain⟨o,ho⟩:=c.there hx
   rw[hl]at ho
   cases ho
  generalize hH1:upd H l (.tup [.int i,.int ((j:Int)+1)])=H1 at s1 c1 hkey Ao
  refine⟨_,rfl,_,rfl,a,C,A.dx,_,_,rfl,c1.ob,T.cl,T.lo,EG,A.lo,_,rfl,mE.t c1.hlo hkey,_,rfl,?_⟩
  have ej:((j:Int)+1-1).toNat=j:=by omega
  cases hv:du lo ([.inl (i:Int),.inl ((j:Int)+1)]:List Key)with
  |some v=>
   refine t8 ?_
   obtain⟨j',p',h1,h2,rfl⟩:=c.l1 i ((j:Int)+1) v hv
   rw[hi]at h1
   cases h1
   rw[ej]at h2
   refine⟨_,rfl,a,C,A.dx,_,_,rfl,c1.ob,T.cl,T.lo,EG,_,rfl,A.lo,.int j',rfl,?_,?_⟩
   ·have:=mE.t (k:=[.inl (i:Int),.inl ((j:Int)+1)]) c1.hlo hkey
    rw[hv]at this
    exact this
   ·exact k j' H1 A [] nu lo (by rw[append_nil];exact c1.more (by omega)) (by rw[append_nil];exact h2) Ao rfl
  |none=>
   refine vp ?_
   have iv:=c.rw p (mem_of_getElem? hi)
   have WR:i<A.ks.length:=by rw[c.BQ];exact(List.getElem?_eq_some_iff.mp hi).1
   have hb1:=c1.hks i A.ks[i] p (getElem?_eq_getElem WR) hi
   refine⟨_,rfl,a,A.dx,_,rfl,c1.ob,rfl,_,rfl,a,C,A.dx,_,_,rfl,c1.ob,T.cl,T.kn,zm,_,rfl,A.kn,A.ks.map V.ref,i,.ref A.ks[i],rfl,rfl,cV.of c1.hkn,iO (by rw[getElem?_map,getElem?_eq_getElem WR];rfl),_,rfl,fun _=>True,[.lst (aO p.1),.int ((j:Int)+1)],⟨_,_,rfl,⟨_,_,rfl,.inl ⟨trivial,.inl hb1⟩,bW _⟩,⟨_,_,rfl,rfl,rfl⟩⟩,?_⟩
   rw[uv (by rw[iv.lr];exact hn) (by rw[iv.lr];exact hj)]
   intro q ws H2 s2 hq2 hw2 iw2
   have ew:=iR iw2
   subst ew
   have c2:=c1.same s2
   have hqF:q∉a::A.all:=fun hx=>by
    obtain⟨o,ho⟩:=c1.there hx
    rw[hq2]at ho
    cases ho
   refine⟨a,A,uY z w,n,kn,ln,B,nu,sh,lo,ke,Dt p j,.ref q,rfl,c2,hn,by omega,(iv.symm.step hj).symm,⟨q,_,rfl,.inl ⟨hqF,.inl hw2⟩,bW _⟩,fun i' H3 A' mo Dw c3 SD rg eli=>?_⟩
   have sX:H3 l=some (.tup (([.inl (i:Int),.inl ((j:Int)+1)]:List Key).map kV)):=rg.kp l _ WQ (s2 _ _ hkey)
   have hz:=c3.z
   refine⟨_,rfl,a,C,A'.dx,_,_,rfl,c3.ob,T.cl,T.lo,EG,_,rfl,A'.lo,_,rfl,AY.t c3.hlo sX (Nat.lt_of_le_of_lt (show lo.length<=1000001 by omega) (by decide)),?_⟩
   have PL:(kn++mo)[i]?=some p:=bU hi
   have c4:=c3.Su (i:=i) (j:=i') (k:=(j:Int)+1) PL (by rw[ej];exact SD)
   have hl4:A'.lo≠l:=fun zz=>by rw[<-zz,c3.hlo]at sX;cases sX
   refine⟨_,rfl,a,C,A'.dx,_,_,rfl,c4.ob,T.cl,T.lo,EG,_,rfl,A'.lo,.int i',rfl,?_,?_⟩
   ·have hk4:(upd H3 A'.lo (.dT (putK lo [.inl (i:Int),.inl ((j:Int)+1)] (.int i')))) l=some (.tup (([.inl (i:Int),.inl ((j:Int)+1)]:List Key).map kV)):=by rw[ae (Ne.symm hl4)];exact sX
    have:=mE.t (k:=[.inl (i:Int),.inl ((j:Int)+1)]) c4.hlo hk4
    rw[jR,if_pos rfl]at this
    exact this
   ·refine k i' _ A' mo Dw _ c4 SD ?_ eli
    exact((Ao.trans (ie.same s2 _)).trans rg).trans (ie.upd (mem_cons_of_mem _ (mem_append_left _ (by simp[Ad.hd]))) _)
end
end DL.pD
namespace DL.pD
open PySem PySem.Spec PyProof.Rows L2 DL
abbrev KC:Stmt:=inClass (top 29) 4
def P8(C:Addr):Sp:=fun vs H Q _=>∃(a:Addr)(A:Ad)(z w:Int)(n:Nat)(kn:List RP)(ln:List Int)(B:Nat)(nu sh lo ke:List (List Key×V))(p q:RP)(i j:Nat),
 vs=[.ref a,.int i,.int j]/\iA C H a A (uY z w) n kn ln B nu sh lo ke/\n<=7/\B+300<1000000/\kn[i]?=some p/\kn[j]?=some q/\
 ∀(t:Addr)(i' j':Nat)(H':Hp)(A':Ad)(mo:List RP)(Dw SA SE:List (List Key×V)),iA C H' a A' (uY z w) n (kn++mo) ln (B+200) Dw SA SE ke->(kn++mo)[i']?=some (nV 50 p q).1->(kn++mo)[j']?=some (nV 50 p q).2->
  H t=none->H' t=some (.tup [.int i',.int j'])->ie H H' (a::A.all) (a::A'.all)->A'.li=A.li->Q (.ref t) H'
section
variable{P:Program}{w:World}{K:PySem.W.Frag}{mg:Str->Option Value}{base:Heap}
theorem TZ:aw ["self","one","other","free","k"] ["self","one","other"] (aa KC):=⟨rfl,rfl,rfl,by decide +kernel,rfl,by decide +kernel,by decide +kernel⟩
theorem WT{f C fS fL:Addr}{fd P9 fdL:FuncData}(F:zL K "slide" "Comb.slide" KC f fd)(T:Lq K mg C)
  (mS:Meth K C "without_first" fS)(bS:Binds K P9 ["self","number","k"] [])(GS:bH P w K mg base kh 4 fS P9 ["self","number","k"] (P6 C))
  (mL:Meth K C "with_last" fL)(bL:Binds K fdL ["self","number","k"] [])(GL:bH P w K mg base kh 4 fL fdL ["self","number","k"] (P7 C)):bH P w K mg base kh 5 f fd ["self","one","other"] (P8 C):=by
 refine F.ok TZ (fun vs H Q E h=>?_) (fun cdv A outer s H vs Q E hr h=>?_)
 ·obtain⟨a,A,z,w,n,kn,ln,B,nu,sh,lo,ke,p,q,i,j,rfl,_⟩:=h
  rfl
 ·obtain⟨a,A,z,w,n,kn,ln,B,nu,sh,lo,ke,p,q,i,j,rfl,c,hn,hB,hi,hj,k⟩:=h
  have hu:=rq hr
  refine⟨_,aA (di (i:=3) TZ.nd rfl (Or.inl rfl) (rh HL (gP dE (bB (pv 0) rfl) (pv 2) (fun _ _=>rfl)) (DW HM (gP dE (bB (pv 0) rfl) (pv 1) (fun _ _=>rfl)))))
   (aA (wo PassesOwn.never (iK nC (pv 3) gK (aR _))
    (aA (di (i:=4) TZ.nd rfl (Or.inl rfl) (zK PySem.F.plainAttrs_int PySem.F.slot_int_bit_length PySem.F.type_int_bit_length M9 (pv 3)))
    (aA (di (i:=1) TZ.nd rfl (Or.inl rfl) (iM (pv 0) T.cl mL GL (hr.mono (by decide)) bL .nil nH (aq (pv 1) (aq (pv 4) aE))))
    (aA (di (i:=2) TZ.nd rfl (Or.inl rfl) (iM (pv 0) T.cl mS GS (hr.mono (by decide)) bS .nil nH (aq (pv 2) (aq (pv 4) aE))))
    (bO (di (i:=3) TZ.nd rfl (Or.inl rfl) (rh HL (gP dE (bB (pv 0) rfl) (pv 2) (fun _ _=>rfl)) (DW HM (gP dE (bB (pv 0) rfl) (pv 1) (fun _ _=>rfl))))))))))
   (bO (kR (tY (aq (pv 1) (aq (pv 2) aE)))))),?_⟩
  have Ym:∀{H2:Hp}{A2:Ad}{P1:List RP}{B2:Nat}{wc xX lo2:List (List Key×V)}{i2:Nat}{p2:RP},iA C H2 a A2 (uY z w) n P1 ln B2 wc xX lo2 ke->P1[i2]?=some p2->iN (P1.map fun p=>V.int (vB p.2)) (i2:Int)=some (.int (vB p2.2))/\iN (P1.map fun p=>V.int (vB p.1)) (i2:Int)=some (.int (vB p2.1)):=fun c2 h2=>
   ⟨iO (by rw[getElem?_map,h2];rfl),iO (by rw[getElem?_map,h2];rfl)⟩
  have l7:∀{x:RP},Iv n x.1 x.2->x.1.length<=7/\x.2.length<=7:=fun h=>⟨by rw[h.lr];exact hn,by rw[h.ls];exact hn⟩
  have ivp:=c.rw p (mem_of_getElem? hi)
  have ivq:=c.rw q (mem_of_getElem? hj)
  refine⟨_,rfl,a,C,A.dx,_,_,rfl,c.ob,T.cl,T.fi,JY,_,rfl,A.fi,_,j,_,rfl,rfl,cV.of c.yp,(Ym c hj).1,_,rfl,a,C,A.dx,_,_,rfl,c.ob,T.cl,T.la,JZ,_,rfl,A.la,_,i,_,rfl,rfl,cV.of c.hla,(Ym c hi).2,_,rfl,_,_,rfl,rfl,?_⟩
  dsimp only
  rw[EH (l7 ivp).1 (l7 ivq).2]
  refine⟨fun m σ H2=>∃(A2:Ad)(mo:List RP)(wc xX lo2:List (List Key×V))(i2 j2:Nat)(p2 q2:RP)(s:Nat)(kv:Option V),σ=[some (.ref a),some (.int i2),some (.int j2),some (.int (Ds (AI p2 q2))),kv]/\iA C H2 a A2 (uY z w) n (kn++mo) ln (B+4*s) wc xX lo2 ke/\
    (kn++mo)[i2]?=some p2/\(kn++mo)[j2]?=some q2/\nV (50-s) p2 q2=nV 50 p q/\s<=yK p2.1/\m=50-s/\ie H H2 (a::A.all) (a::A2.all)/\A2.li=A.li,⟨50,A,[],nu,sh,lo,i,j,p,q,0,none,rfl,by rw[append_nil];exact c,by rw[append_nil];exact hi,by rw[append_nil];exact hj,rfl,zero_le _,rfl,ie.refl _ _,rfl⟩,?_⟩
  rintro m σ H2 ⟨A2,mo,wc,xX,lo2,i2,j2,p2,q2,s,kv,rfl,c2,hi2,SG,hs,hsc,hm,Dy,T3⟩
  have Li:=c2.rw p2 (mem_of_getElem? hi2)
  have Lj:=c2.rw q2 (mem_of_getElem? SG)
  have ahK:=zp hn Li
  refine⟨_,rfl,_,_,rfl,rfl,_,rfl,?_⟩
  dsimp only
  rw[J2 (l7 Li).1 (l7 Lj).2]
  cases hl:(AI p2 q2).getLast? with
  |none=>
   refine t8 ?_
   rw[BW _ hl]at hs
   refine⟨_,rfl,_,rfl,(by show 2<=sizeLine;decide),fun t ht=>?_⟩
   have st:=aF ht (.tup [V.int i2,V.int j2])
   refine k t i2 j2 _ A2 mo wc xX lo2 ((c2.same st).more (by omega)) (by rw[<-hs];exact hi2) (by rw[<-hs];exact SG) (Dy.gr t ht) ak (Dy.trans (ie.same st _)) T3
  |some kk'=>
   refine vp ?_
   obtain⟨j',rfl,Dj,hlt,_⟩:=EI Li Lj (List.mem_of_getLast? hl)
   have hup:=Sx Li Dj hlt
   have ivu:=Ka Li Dj
   have ahL:=zp hn ivu
   have hsl:nV (50-(s+1)) (Dt p2 j') (GX q2 j')=nV 50 p q:=by
    rw[<-hs,show 50-s=(50-(s+1))+1 by omega,BV _ hl,show((j':Int)+1-1).toNat=j' by omega]
   refine⟨fun σ' H'=>∃m'<m,∃(A2:Ad)(mo:List RP)(wc xX lo2:List (List Key×V))(i2 j2:Nat)(p2 q2:RP)(s:Nat)(kv:Option V),σ'=[some (.ref a),some (.int i2),some (.int j2),some (.int (Ds (AI p2 q2))),kv]/\iA C H' a A2 (uY z w) n (kn++mo) ln (B+4*s) wc xX lo2 ke/\
    (kn++mo)[i2]?=some p2/\(kn++mo)[j2]?=some q2/\nV (50-s) p2 q2=nV 50 p q/\s<=yK p2.1/\m'=50-s/\ie H H' (a::A.all) (a::A2.all)/\A2.li=A.li,fun σ' H' h=>h,?_⟩
   refine⟨_,rfl,(by first|exact rfl|exact trivial),_,rfl,rfl,?_⟩
   dsimp only
   rw[J3 (l7 Li).1 (l7 Lj).2 hl]
   refine⟨_,rfl,a,A2.dx,_,rfl,c2.ob,rfl,_,rfl,_,rfl,a,A2,z,w,n,kn++mo,ln,B+4*s,wc,xX,lo2,ke,p2,i2,j',rfl,c2,hn,by omega,hi2,Dj,fun i3 H3 A3 Yn nu3 Yo c3 SD rg WU=>?_⟩
   have hj3:(kn++mo++Yn)[j2]?=some q2:=bU SG
   refine⟨_,rfl,a,A3.dx,_,rfl,c3.ob,rfl,_,rfl,_,rfl,a,A3,z,w,n,kn++mo++Yn,ln,B+4*s+2,nu3,xX,Yo,ke,q2,j2,j',rfl,c3,hn,by omega,hj3,Dj,fun j4 H4 A4 E4 WV WW c4 WX SH el4=>?_⟩
   have SJ:(kn++mo++Yn++E4)[i3]?=some (Dt p2 j'):=bU SD
   refine⟨_,rfl,a,C,A4.dx,_,_,rfl,c4.ob,T.cl,T.fi,JY,_,rfl,A4.fi,_,j4,_,rfl,rfl,cV.of c4.yp,(Ym c4 WX).1,_,rfl,a,C,A4.dx,_,_,rfl,c4.ob,T.cl,T.la,JZ,_,rfl,A4.la,_,i3,_,rfl,rfl,cV.of c4.hla,(Ym c4 SJ).2,_,rfl,_,_,rfl,rfl,?_⟩
   have iva:=Kb Lj Dj
   dsimp only
   rw[EH (l7 ivu).1 (l7 iva).2]
   rw[List.append_assoc,List.append_assoc]at c4 SJ WX
   refine⟨50-(s+1),by omega,A4,mo++(Yn++E4),WV,WW,Yo,i3,j4,Dt p2 j',GX q2 j',s+1,_,rfl,?_,SJ,WX,hsl,by omega,rfl,(Dy.trans rg).trans SH,el4.trans (WU.trans T3)⟩
   rw[show B+4*(s+1)=B+4*s+2+2 by omega]
   exact c4
end
end DL.pD
namespace DL.pD
open PySem PySem.Spec PyProof.Rows L2 DL
abbrev KD:Stmt:=inClass (top 29) 5
def Qa(C:Addr):Sp:=fun vs H Q _=>∃(a:Addr)(A:Ad)(z w:Int)(n:Nat)(kn:List RP)(ln:List Int)(B:Nat)(nu sh lo ke:List (List Key×V))(p q:RP)(i j:Nat),
 vs=[.ref a,.int i,.int j]/\iA C H a A (uY z w) n kn ln B nu sh lo ke/\n<=7/\B+400<1000000/\kn[i]?=some p/\kn[j]?=some q/\
 ∀(t:Addr)(i' j':Nat)(H':Hp)(A':Ad)(mo:List RP)(Dw SA SE ke':List (List Key×V)),iA C H' a A' (uY z w) n (kn++mo) ln (B+201) Dw SA SE ke'->(kn++mo)[i']?=some (nV 50 p q).1->(kn++mo)[j']?=some (nV 50 p q).2->
  H' t=some (.tup [.int i',.int j'])->ie H H' (a::A.all) (a::A'.all)->A'.li=A.li->Q (.ref t) H'
section
variable{P:Program}{w:World}{K:PySem.W.Frag}{mg:Str->Option Value}{base:Heap}
theorem Yp:aw ["self","one","other","pair","found"] ["self","one","other"] (aa KD):=⟨rfl,rfl,rfl,by decide +kernel,rfl,by decide +kernel,by decide +kernel⟩
theorem WY{f C fS:Addr}{fd P9:FuncData}(F:zL K "slide_kept" "Comb.slide_kept" KD f fd)(T:Lq K mg C)(t:Tb K mg)
  (mS:Meth K C "slide" fS)(bS:Binds K P9 ["self","one","other"] [])(GS:bH P w K mg base kh 5 fS P9 ["self","one","other"] (P8 C)):bH P w K mg base kh 6 f fd ["self","one","other"] (Qa C):=by
 refine F.ok Yp (fun vs H Q E h=>?_) (fun cdv A outer s H vs Q E hr h=>?_)
 ·obtain⟨a,A,z,w,n,kn,ln,B,nu,sh,lo,ke,p,q,i,j,rfl,_⟩:=h
  rfl
 ·obtain⟨a,A,z,w,n,kn,ln,B,nu,sh,lo,ke,p,q,i,j,rfl,c,hn,hB,hi,hj,k⟩:=h
  have hu:=rq hr
  refine⟨_,aA (di (i:=3) Yp.nd rfl (Or.inl rfl) (tY (aq (pv 1) (aq (pv 2) aE))))
   (aA (di (i:=4) Yp.nd rfl (Or.inl rfl) (Ie hu (bB (pv 0) rfl) (pv 3) ⟨rfl,rfl,rfl,rfl⟩))
   (aA (uR (iK QP (pv 4) Hv (aR _))
    (aA (di (i:=4) Yp.nd rfl (Or.inl rfl) (iM (pv 0) T.cl mS GS (hr.mono (by decide)) bS .nil nH (aq (pv 1) (aq (pv 2) aE))))
    (bO (uR (iK wt (je GU (by rfl) T.Yi kX (aq (bB (pv 0) rfl) aE)) (pT (by rfl) t.sS (v:=.int 200000) ⟨_,rfl⟩) (aR _))
     (bO (vM hu (bB (pv 0) rfl) (pv 3) (pv 4) rfl)) km))) km)
   (bO (kR (pv 4))))),?_⟩
  refine⟨_,rfl,_,rfl,(by show 2<=sizeLine;decide),fun l hl=>?_⟩
  have s1:aC H (upd H l (.tup [.int i,.int j])):=aF hl _
  have c1:=c.same s1
  have hkey:(upd H l (.tup [.int i,.int j])) l=some (.tup (([.inl (i:Int),.inl (j:Int)]:List Key).map kV)):=ak
  have Ao:=ie.same s1 (a::A.all)
  have WQ:l∉a::A.all:=fun hx=>by
   obtain⟨o,ho⟩:=c.there hx
   rw[hl]at ho
   cases ho
  generalize hH1:upd H l (.tup [.int i,.int j])=H1 at s1 c1 hkey Ao
  refine⟨_,rfl,a,C,A.dx,_,_,rfl,c1.ob,T.cl,T.ke,J0,A.ke,rfl,.inr ⟨_,.inl c1.hke⟩,_,rfl,_,mE.t c1.hke hkey,?_⟩
  cases hv:du ke ([.inl (i:Int),.inl (j:Int)]:List Key)with
  |some v=>
   obtain⟨t',i',j',p',q',h1,h2,rfl,h4,h5,h6⟩:=c1.k1 i j v hv
   rw[hi]at h1
   rw[hj]at h2
   cases h1
   cases h2
   refine⟨_,rfl,rfl,_,rfl,?_⟩
   rw[decide_eq_false (show¬((some (V.ref t')).getD .non=.non)from fun zz=>nomatch zz)]
   refine t8 ?_
   exact⟨_,rfl,k t' i' j' H1 A [] nu sh lo ke (by rw[append_nil];exact c1.more (by omega)) (by rw[append_nil];exact h5) (by rw[append_nil];exact h6) h4 Ao rfl⟩
  |none=>
   refine⟨_,rfl,rfl,_,rfl,?_⟩
   rw[decide_eq_true (show((none:Option V).getD .non=.non)from rfl)]
   refine vp ?_
   refine⟨_,rfl,a,A.dx,_,rfl,c1.ob,rfl,_,rfl,_,rfl,a,A,z,w,n,kn,ln,B,nu,sh,lo,ke,p,q,i,j,rfl,c1,hn,by omega,hi,hj,fun t' i' j' H2 A2 mo wc xX lo2 c2 hi2 SG htn Yq Dy T3=>?_⟩
   have hz:=c2.z
   have WZ:=Ao.trans Dy
   refine⟨_,rfl,a,C,A2.dx,_,_,rfl,c2.ob,T.cl,T.ke,J0,A2.ke,_,rfl,c2.hke,_,_,rfl,rfl,_,rfl,?_⟩
   generalize decide ((ke.length:Int)<200000)=bb
   cases bb with
   |true=>
    refine vp ?_
    have W0:H2 l=some (.tup (([.inl (i:Int),.inl (j:Int)]:List Key).map kV)):=Dy.kp l _ WQ hkey
    refine⟨_,rfl,_,rfl,a,C,A2.dx,_,_,rfl,c2.ob,T.cl,T.ke,J0,_,rfl,A2.ke,_,rfl,AY.t c2.hke W0 (Nat.lt_of_le_of_lt (show ke.length<=1000001 by omega) (by decide)),?_⟩
    have c3:=c2.Sv (bU hi) (bU hj) Yq hi2 SG
    refine⟨_,rfl,k t' i' j' _ A2 mo wc xX lo2 _ c3 hi2 SG ?_ (WZ.trans (ie.upd (mem_cons_of_mem _ (mem_append_left _ (by simp[Ad.hd]))) _)) T3⟩
    rw[ae (bD Yq c2.hke (by intro zz;cases zz))]
    exact Yq
   |false=>
    refine t8 ?_
    exact⟨_,rfl,k t' i' j' H2 A2 mo wc xX lo2 ke (c2.more (by omega)) hi2 SG Yq WZ T3⟩
end
end DL.pD
namespace DL.pD
open PySem PySem.Spec PyProof.Rows L2 DL
abbrev KG:Stmt:=inClass (top 29) 6
def Qc(K:PySem.W.Frag)(C:Addr):Sp:=fun vs H Q _=>∃(a:Addr)(A:Ad)(zn:Nat)(w:Int)(n:Nat)(kn:List RP)(ls:List Nat)(R:List RP)(B:Nat)(nu sh lo ke:List (List Key×V))(p:RP)(v:V),
 vs=[.ref a,v]/\iA C H a A (uY zn w) n kn (nI ls) B nu sh lo ke/\cP kn ls R/\kn[zn]?=some (upTo n,upTo n)/\n<=7/\B+402*(R.length+1)<900000/\R.length<=1000/\Iv n p.1 p.2/\Is K (fun x=>x∉a::A.all) H (.lst (aO p.1)) v/\
 ∀(H':Hp)(A':Ad)(mo:List RP)(ls':List Nat)(Dw SA SE ke':List (List Key×V)),iA C H' a A' (uY zn w) n (kn++mo) (nI ls') (B+402*(R.length+1)) Dw SA SE ke'->cP (kn++mo) ls' (mV n R p)->ie H H' (a::A.all) (a::A'.all)->Q .non H'
section
variable{P:Program}{w:World}{K:PySem.W.Frag}{mg:Str->Option Value}{base:Heap}
theorem W2:aw ["self","row","line","place","pair"] ["self","row"] (aa KG):=⟨rfl,rfl,rfl,by decide +kernel,rfl,by decide +kernel,by decide +kernel⟩
theorem W3{f C fN fS:Addr}{fd Kz P9:FuncData}(F:zL K "put" "Comb.put" KG f fd)(T:Lq K mg C)
  (mN:Meth K C "number_of" fN)(bN:Binds K Kz ["self","row"] [])(GN:bH P w K mg base kh 3 fN Kz ["self","row"] (B5 K C))
  (mS:Meth K C "slide_kept" fS)(bS:Binds K P9 ["self","one","other"] [])(GS:bH P w K mg base kh 6 fS P9 ["self","one","other"] (Qa C)):bH P w K mg base kh 7 f fd ["self","row"] (Qc K C):=by
 refine F.ok W2 (fun vs H Q E h=>?_) (fun cdv A outer s H vs Q E hr h=>?_)
 ·obtain⟨a,A,zn,w,n,kn,ls,R,B,nu,sh,lo,ke,p,v,rfl,_⟩:=h
  rfl
 ·obtain⟨a,A,zn,w,n,kn,ls,R,B,nu,sh,lo,ke,p,v,rfl,c,hR,hzn,hn,hB,hRl,ivp,isr,k⟩:=h
  have hu:=rq hr
  refine⟨_,aA (di (i:=2) W2.nd rfl (Or.inl rfl) (bB (pv 0) rfl))
   (aA (fX (nG plainAttrs_list PySem.F.slot_list_append PySem.F.type_list_append dO (pv 2) (aq (iM (pv 0) T.cl mN GN (hr.mono (by decide)) bN .nil nH (aq (pv 1) aE)) aE)) rfl)
   (aA (di (i:=3) W2.nd rfl (Or.inl rfl) (rh dq (je mz (by rfl) T.Yi kX (aq (pv 2) aE)) gK))
   (aA (wo PassesOwn.never (iK nC (pv 3) gK (aR _))
    (aA (di (i:=4) W2.nd rfl (Or.inl rfl) (iM (pv 0) T.cl mS GS (hr.mono (by decide)) bS .nil nH (aq (gP dE (pv 2) (rh dq (pv 3) gK) (fun _ _=>rfl)) (aq (gP dE (pv 2) (pv 3) (fun _ _=>rfl)) aE))))
    (aA (uR (iK HN (gP zI (pv 4) gK (fun _ _=>rfl)) (gP dE (pv 2) (rh dq (pv 3) gK) (fun _ _=>rfl)) (aR _)) (bO HB) km)
    (aA (zG (gP zI (pv 4) gK (fun _ _=>rfl)) (CG (pv 2) (rh dq (pv 3) gK) set_list (by intro _;rfl)) rfl rfl rfl)
    (aA (zG (gP zI (pv 4) gK (fun _ _=>rfl)) (CG (pv 2) (pv 3) set_list (by intro _;rfl)) rfl rfl rfl)
    (bO (CH (i:=3) W2.nd rfl (Or.inl rfl) gK QG)))))))
   (bO (uR (iK HN (gP dE (pv 2) (DW jP gK) (fun _ _=>rfl)) (bB (pv 0) rfl) (aR _))
    (bO (fX (zK plainAttrs_list slot_list_pop type_list_pop HZ (pv 2)) rfl)) km))))),?_⟩
  refine⟨_,rfl,a,C,A.dx,_,_,rfl,c.ob,T.cl,T.li,BR,?_⟩
  refine⟨_,rfl,.inl ⟨rfl,_,cV.of c.hli⟩,_,rfl,a,A.dx,_,rfl,c.ob,rfl,_,rfl,a,A,uY zn w,n,kn,nI ls,B,nu,sh,lo,ke,p,v,rfl,c,hn,by omega,ivp,isr,fun i1 H1 A1 W4 W5 c1 hi1 Ao T4=>?_⟩
  have hz:=c1.z
  have Yc:=hR.len
  have big:∀{x:Nat},x<=1000001->x<sizeLine:=fun h=>Nat.lt_of_le_of_lt h (by decide)
  refine⟨A.li,(nI ls).map V.int,.int i1,rfl,rfl,by rw[<-T4];exact c1.hli,by rw[length_map,lg];exact big (by omega),?_⟩
  have hR1:cP (kn++W4) (ls++[i1]) (R++[p]):=hR.pre.app hi1
  have c2:=c1.BX hR1.li
  rw[Sy,T4]at c2
  have Dy:ie H (upd H1 A.li (.lst ((nI ls).map V.int++[.int i1]))) (a::A.all) (a::A1.all):=Ao.trans (ie.upd (by rw[<-T4];exact mem_cons_of_mem _ (mem_append_left _ (by simp[Ad.hd]))) _)
  generalize upd H1 A.li (.lst ((nI ls).map V.int++[.int i1]))=H2 at c2 Dy
  have ac0:H2 A.li=some (.lst ((nI (ls++[i1])).map V.int)):=by rw[<-T4];exact c2.hli
  refine⟨_,rfl,A.li,_,rfl,.inl (cV.of ac0),_,_,rfl,rfl,?_⟩
  have epl:((((nI (ls++[i1])).map V.int).length:Nat):Int)-1=(R.length:Nat):=by
   rw[length_map,lg,length_append,length_singleton]
   omega
  dsimp only
  rw[epl]
  refine⟨fun m σ H2=>∃(A2:Ad)(mo:List RP)(wc xX lo2 Lu:List (List Key×V))(W6:List Nat)(t:Nat)(cr:RP)(dn:List RP)(pr:Option V),σ=[some (.ref a),some v,some (.ref A.li),some (.int t),pr]/\iA C H2 a A2 (uY zn w) n (kn++mo) (nI W6) (B+1+201*(R.length-t)) wc xX lo2 Lu/\
    cP (kn++mo) W6 (R.take t++cr::dn)/\t<=R.length/\(Lp (R.take t).reverse cr).reverse++dn=Kc R p/\m=t/\ie H H2 (a::A.all) (a::A2.all)/\A2.li=A.li,
   ⟨R.length,A1,W4,W5,sh,lo,ke,ls++[i1],R.length,p,[],none,rfl,by rw[sub_self];exact c2,by rw[take_length];exact hR1,le_refl _,by rw[take_length,append_nil];rfl,rfl,Dy,T4⟩,?_⟩
  rintro m σ H3 ⟨A3,mo,nu3,sh3,Yo,ke3,yq,t,cr,dn,pr,rfl,c3,hL,htR,hT,rfl,rg,WU⟩
  have hli:H3 A.li=some (.lst ((nI yq).map V.int)):=by rw[<-WU];exact c3.hli
  refine⟨_,rfl,_,_,rfl,rfl,_,rfl,?_⟩
  cases m with
  |zero=>
   rw[decide_eq_false (by omega)]
   refine t8 ?_
   have Qd:cP (kn++mo) yq (Kc R p):=by
    rw[<-hT]
    exact hL
   obtain⟨m1,r1,hm1,hm2,T5⟩:=Qd.last (by rw[vX];omega)
   refine⟨_,rfl,_,rfl,A.li,_,-1,_,rfl,rfl,cV.of hli,wA (vY hm1),_,rfl,a,C,A3.dx,_,_,rfl,c3.ob,T.cl,T.no,PN,rfl,_,rfl,?_⟩
   have hz2:(kn++mo)[zn]?=some (upTo n,upTo n):=bU hzn
   by_cases hq:r1=(upTo n,upTo n)
   ·rw[decide_eq_true (show V.int (m1:Int)=V.int (zn:Int)from congrArg V.int ((c3.inj T5 hz2).mpr hq))]
    refine vp ?_
    refine⟨_,rfl,.inl ⟨rfl,_,cV.of hli⟩,A.li,_,_,rfl,rfl,hli,EK (vY hm1),?_⟩
    rw[EL,<-WU]
    have hdr:cP (kn++mo) yq.dropLast (mV n R p):=by
     unfold mV
     rw[if_pos (by rw[hm2,hq])]
     exact Qd.drop
    exact k _ A3 mo yq.dropLast _ _ _ _ ((c3.BX hdr.li).more (by omega)) hdr (rg.trans (ie.upd (mem_cons_of_mem _ (mem_append_left _ (by simp[Ad.hd]))) _))
   ·rw[decide_eq_false (show¬V.int (m1:Int)=V.int (zn:Int)from fun e=>hq ((c3.inj T5 hz2).mp (by injection e)))]
    refine t8 ?_
    have hdr:cP (kn++mo) yq (mV n R p):=by
     unfold mV
     rw[if_neg (by rw[hm2];exact fun e=>hq (Option.some.inj e))]
     exact Qd
    exact k _ A3 mo yq _ _ _ _ (c3.more (by omega)) hdr rg
  |succ t=>
   rw[decide_eq_true (by omega)]
   refine vp ?_
   have hrt:R[t]?=some (R[t]'(by omega)):=getElem?_eq_getElem (by omega)
   generalize R[t]'(by omega)=r at hrt
   have etk:R.take (t+1)=R.take t++[r]:=by rw[take_succ,hrt];rfl
   have ltk:(R.take t).length=t:=by rw[length_take];omega
   have g1:(R.take (t+1)++cr::dn)[t]?=some r:=by
    rw[etk,List.append_assoc,getElem?_append_right (by omega),ltk,sub_self]
    rfl
   have g2:(R.take (t+1)++cr::dn)[t+1]?=some cr:=by
    rw[getElem?_append_right (by rw[length_take];omega),show t+1-(R.take (t+1)).length=0 by rw[length_take];omega]
    rfl
   obtain⟨ma,la,ka⟩:=hL.at g1
   obtain⟨mb,lb,kb⟩:=hL.at g2
   refine⟨fun σ' H'=>∃m'<t+1,∃(A2:Ad)(mo:List RP)(wc xX lo2 Lu:List (List Key×V))(W6:List Nat)(t:Nat)(cr:RP)(dn:List RP)(pr:Option V),σ'=[some (.ref a),some v,some (.ref A.li),some (.int t),pr]/\iA C H' a A2 (uY zn w) n (kn++mo) (nI W6) (B+1+201*(R.length-t)) wc xX lo2 Lu/\
    cP (kn++mo) W6 (R.take t++cr::dn)/\t<=R.length/\(Lp (R.take t).reverse cr).reverse++dn=Kc R p/\m'=t/\ie H H' (a::A.all) (a::A2.all)/\A2.li=A.li,fun σ' H' h=>h,?_⟩
   have Yr:((t+1:Nat):Int)-1=(t:Nat):=by omega
   refine⟨_,rfl,a,A3.dx,_,rfl,c3.ob,rfl,_,rfl,_,rfl,_,_,rfl,rfl,A.li,_,((t+1:Nat):Int)-1,.int ma,rfl,rfl,cV.of hli,by rw[Yr];exact iO (uw la),_,rfl,_,rfl,A.li,_,((t+1:Nat):Int),.int mb,rfl,rfl,cV.of hli,iO (uw lb),
    a,A3,zn,w,n,kn++mo,nI yq,_,nu3,sh3,Yo,ke3,r,cr,ma,mb,rfl,c3,hn,by omega,ka,kb,fun tt i4 j4 H4 A4 E4 WV WW lo4 ke4 c4 SJ WX Ys SH el4=>?_⟩
   have B6:=el4.trans WU
   have Nn:H4 A.li=some (.lst ((nI yq).map V.int)):=by rw[<-B6];exact c4.hli
   refine⟨_,rfl,tt,_,0,_,rfl,rfl,AQ.of Ys,rfl,_,rfl,_,rfl,_,_,rfl,rfl,A.li,_,((t+1:Nat):Int)-1,.int ma,rfl,rfl,cV.of Nn,by rw[Yr];exact iO (uw la),rfl,_,rfl,?_⟩
   have kaX:(kn++mo++E4)[ma]?=some r:=bU ka
   have hsl:=Kf (c:=cr) hrt
   by_cases Yt:(nV 50 r cr).1=r
   ·rw[decide_eq_true (show V.int (i4:Int)=V.int (ma:Int)from congrArg V.int ((c4.inj SJ kaX).mpr Yt))]
    refine vp ?_
    have Qd:cP (kn++mo++E4) yq (Kc R p):=by
     rw[<-hT,hsl,if_pos Yt,reverse_cons,List.reverse_reverse,show R.take (t+1)++[cr]++dn=R.take (t+1)++cr::dn by rw[List.append_assoc];rfl]
     exact hL.pre
    have hli:=Nn
    obtain⟨m1,r1,hm1,hm2,T5⟩:=Qd.last (by rw[vX];omega)
    rw[List.append_assoc]at c4 T5 Qd
    refine⟨_,rfl,_,rfl,A.li,_,-1,_,rfl,rfl,cV.of hli,wA (vY hm1),_,rfl,a,C,A4.dx,_,_,rfl,c4.ob,T.cl,T.no,PN,rfl,_,rfl,?_⟩
    have hz2:(kn++(mo++E4))[zn]?=some (upTo n,upTo n):=bU hzn
    by_cases hq:r1=(upTo n,upTo n)
    ·rw[decide_eq_true (show V.int (m1:Int)=V.int (zn:Int)from congrArg V.int ((c4.inj T5 hz2).mpr hq))]
     refine vp ?_
     refine⟨_,rfl,.inl ⟨rfl,_,cV.of hli⟩,A.li,_,_,rfl,rfl,hli,EK (vY hm1),?_⟩
     rw[EL,<-B6]
     have hdr:cP (kn++(mo++E4)) yq.dropLast (mV n R p):=by
      unfold mV
      rw[if_pos (by rw[hm2,hq])]
      exact Qd.drop
     exact k _ A4 (mo++E4) yq.dropLast _ _ _ _ ((c4.BX hdr.li).more (by omega)) hdr ((rg.trans SH).trans (ie.upd (mem_cons_of_mem _ (mem_append_left _ (by simp[Ad.hd]))) _))
    ·rw[decide_eq_false (show¬V.int (m1:Int)=V.int (zn:Int)from fun e=>hq ((c4.inj T5 hz2).mp (by injection e)))]
     refine t8 ?_
     have hdr:cP (kn++(mo++E4)) yq (mV n R p):=by
      unfold mV
      rw[if_neg (by rw[hm2];exact fun e=>hq (Option.some.inj e))]
      exact Qd
     exact k _ A4 (mo++E4) yq _ _ _ _ (c4.more (by omega)) hdr (rg.trans SH)
   ·rw[decide_eq_false (show¬V.int (i4:Int)=V.int (ma:Int)from fun e=>Yt ((c4.inj SJ kaX).mp (by injection e)))]
    refine t8 ?_
    have lt1:t+1<yq.length:=(List.getElem?_eq_some_iff.mp lb).1
    have ixa:qZ ((nI yq).map V.int).length (((t+1:Nat):Int)-1)=some t:=by
     unfold L2.qZ
     rw[Yr,if_pos (by omega),if_pos (by rw[length_map,lg];omega),toNat_natCast]
    refine⟨_,rfl,tt,_,0,_,rfl,rfl,AQ.of Ys,rfl,_,rfl,_,rfl,_,_,rfl,rfl,A.li,_,_,t,rfl,rfl,Nn,ixa,?_⟩
    have hLa:cP (kn++mo++E4) (yq.set t i4) ((R.take (t+1)++cr::dn).set t (nV 50 r cr).1):=hL.pre.set t SJ
    have c5:=c4.BX hLa.li
    rw[B6,<-Ke]at c5
    have Hh:ie H (upd H4 A.li (.lst (((nI yq).map V.int).set t (.int i4)))) (a::A.all) (a::A4.all):=(rg.trans SH).trans (ie.upd (by rw[<-B6];exact mem_cons_of_mem _ (mem_append_left _ (by simp[Ad.hd]))) _)
    have Tz:(upd H4 A.li (.lst (((nI yq).map V.int).set t (.int i4)))) tt=some (.tup [.int i4,.int j4]):=by rw[ae (bD Ys Nn (by intro zz;cases zz))];exact Ys
    generalize upd H4 A.li (.lst (((nI yq).map V.int).set t (.int i4)))=H5 at c5 Hh Tz
    have ac4:H5 A.li=some (.lst ((nI (yq.set t i4)).map V.int)):=by rw[<-B6];exact c5.hli
    have ixb:qZ ((nI (yq.set t i4)).map V.int).length ((t+1:Nat):Int)=some (t+1):=by
     unfold L2.qZ
     rw[if_pos (by omega),if_pos (by rw[length_map,lg,length_set];omega),toNat_natCast]
    refine⟨_,rfl,tt,_,1,_,rfl,rfl,AQ.of Tz,rfl,_,rfl,_,rfl,A.li,_,_,t+1,rfl,rfl,ac4,ixb,?_⟩
    have Yu:=hLa.set (t+1) WX
    have c6:=c5.BX Yu.li
    rw[B6,<-Ke]at c6
    have Yj:ie H (upd H5 A.li (.lst (((nI (yq.set t i4)).map V.int).set (t+1) (.int j4)))) (a::A.all) (a::A4.all):=Hh.trans (ie.upd (by rw[<-B6];exact mem_cons_of_mem _ (mem_append_left _ (by simp[Ad.hd]))) _)
    refine⟨_,rfl,_,_,rfl,rfl,?_⟩
    have ac5:((R.take (t+1)++cr::dn).set t (nV 50 r cr).1).set (t+1) (nV 50 r cr).2=R.take t++(nV 50 r cr).1::(nV 50 r cr).2::dn:=by
     rw[etk,List.append_assoc,List.set_append_right _ _ (by omega),List.set_append_right _ _ (by omega),ltk,sub_self,show t+1-t=1 by omega]
     rfl
    rw[ac5]at Yu
    rw[List.append_assoc]at c6 Yu
    dsimp only
    rw[Yr]
    refine⟨t,by omega,A4,mo++E4,WV,WW,lo4,ke4,_,t,(nV 50 r cr).1,(nV 50 r cr).2::dn,_,rfl,c6.more (by omega),Yu,by omega,?_,rfl,Yj,B6⟩
    rw[<-hT,hsl,if_neg Yt,reverse_cons,List.append_assoc]
    rfl
end
end DL.pD
namespace DL.pD
open PySem PySem.Spec PyProof.Rows L2 DL
abbrev E5:Stmt:=inClass (top 29) 7
def ac6(K:PySem.W.Frag):TE:=Y8 (fun xs H Q=>∃p ys,xs=[V.ref p]/\(cV K H p ys\/AQ K H p ys)/\∀l,H l=none->Q (.ref l) (upd H l (.lst ys))) (HS (Uu (QS K) (UC K (LD 1) "known") (LD 0)) LS)
def Qe(K:PySem.W.Frag)(C:Addr):Sp:=fun vs H Q _=>∃(a:Addr)(A:Ad)(z:Int)(wn n:Nat)(kn:List RP)(ls:List Nat)(R:List RP)(B:Nat)(nu sh lo ke:List (List Key×V)),
 vs=[.ref a]/\iA C H a A (uY z wn) n kn (nI ls) B nu sh lo ke/\cP kn ls R/\kn[wn]?=some (Kg n)/\R.length<=1000/\∀(v:V)(H':Hp),aC H H'->Is K (fun x=>H x=none) H' (uZ n R) v->Q v H'
section
variable{P:Program}{w:World}{K:PySem.W.Frag}{mg:Str->Option Value}{base:Heap}
theorem sc7:aw ["self","many"] ["self"] (aa E5):=⟨rfl,rfl,rfl,by decide +kernel,rfl,by decide +kernel,by decide +kernel⟩
theorem W7{f C:Addr}{fd:FuncData}(F:zL K "form_told" "Comb.form_told" E5 f fd)(T:Lq K mg C):bH P w K mg base kh 1 f fd ["self"] (Qe K C):=by
 refine F.ok sc7 (fun vs H Q E h=>?_) (fun cdv A outer s H vs Q E hr h=>?_)
 ·obtain⟨a,A,z,wn,n,kn,ls,R,B,nu,sh,lo,ke,rfl,_⟩:=h
  rfl
 ·obtain⟨a,A,z,wn,n,kn,ls,R,B,nu,sh,lo,ke,rfl,c,hR,hwn,hRl,k⟩:=h
  have hu:=rq hr
  refine⟨_,aA (di (i:=1) sc7.nd rfl (Or.inl rfl) gK)
   (aA (wo PassesOwn.never (pw_and (iK wt (pv 1) (je mz (by rfl) T.Yi kX (aq (bB (pv 0) rfl) aE)) (aR _)) (pw_and1 (iK HN (gP dE (bB (pv 0) rfl) (pv 1) (fun _ _=>rfl)) (bB (pv 0) rfl) (aR _)))).pt
    (bO (CH (i:=1) sc7.nd rfl (Or.inl rfl) gK HE)))
   (bO (kR (tY (aq (pv 1) (aq (Kl (te:=ac6 K) (IQ (N:=["number","self"]) (nt:=1) (caps:=[0]) (aa E5) ["self","many"] (by decide +kernel)) rfl (vK (wz D2 (bB (pv 0) rfl) (D0 (pv 1)) DZ)) (fun _ _ _ _ _=>zF (i:=0) (by show Nodup (["number","self"]:List Str);decide +kernel) rfl (Or.inl rfl)) (fun _ _ _ _ _=>by exact lG mB (by rfl) T.mli vP (aq (gP dE (bB (pv 1) rfl) (pv 0) (fun _ _=>rfl)) aE))) aE)))))),?_⟩
  refine⟨fun m σ H2=>∃i:Nat,σ=[some (.ref a),some (.int i)]/\H2=H/\i<=R.length/\(∀j<i,R[j]?=some (Kg n))/\m=R.length-i,⟨R.length,0,rfl,rfl,zero_le _,fun j hj=>absurd hj (Nat.not_lt_zero _),rfl⟩,?_⟩
  rintro m σ H2 ⟨i,rfl,rfl,hiR,hal,hm⟩
  refine⟨_,rfl,_,rfl,a,C,A.dx,_,_,rfl,c.ob,T.cl,T.li,BR,A.li,_,rfl,.inl (cV.of c.hli),_,_,rfl,rfl,_,rfl,?_⟩
  by_cases hlt:i<R.length
  ·rw[decide_eq_true (show(i:Int)<(((nI ls).map V.int).length:Nat)by rw[length_map,lg,hR.len];omega)]
   refine vp ?_
   obtain⟨mi,hm1,hm2⟩:=hR.at (getElem?_eq_getElem hlt)
   refine⟨_,rfl,a,C,A.dx,_,_,rfl,c.ob,T.cl,T.li,BR,_,rfl,A.li,_,i,.int mi,rfl,rfl,cV.of c.hli,iO (uw hm1),_,rfl,a,C,A.dx,_,_,rfl,c.ob,T.cl,T.wh,WG,rfl,_,rfl,?_⟩
   by_cases he:R[i]=Kg n
   ·rw[decide_eq_true (show V.int (mi:Int)=V.int (wn:Int)from congrArg V.int ((c.inj hm2 hwn).mpr he))]
    refine vp ?_
    refine⟨fun σ' H'=>∃m'<m,∃i:Nat,σ'=[some (.ref a),some (.int i)]/\H'=H2/\i<=R.length/\(∀j<i,R[j]?=some (Kg n))/\m'=R.length-i,fun _ _ h=>h,_,rfl,_,_,rfl,rfl,R.length-(i+1),by omega,i+1,rfl,rfl,hlt,fun j hj=>?_,rfl⟩
    by_cases hji:j<i
    ·exact hal j hji
    ·have:j=i:=by omega
     subst this
     rw[getElem?_eq_getElem hlt,he]
   ·rw[decide_eq_false (show¬V.int (mi:Int)=V.int (wn:Int)from fun e=>he ((c.inj hm2 hwn).mp (by injection e)))]
    refine t8 ?_
    have hcn:yN n R=i:=BZ hal (by rw[getElem?_eq_getElem hlt];exact fun e=>he (Option.some.inj e))
    have SK:yw ((nI ls).map V.int) (some (i:Int)) none=(nI (ls.drop i)).map V.int:=by
     unfold yw nI
     rw[rm _ _ _ (by omega),oJ,toNat_natCast,length_map,length_map,hR.len,min_eq_left hiR,map_drop,map_drop]
     refine take_of_length_le ?_
     rw[length_drop,length_map,length_map,hR.len]
     exact le_refl _
    refine⟨_,rfl,_,rfl,a,C,A.dx,_,_,rfl,c.ob,T.cl,T.li,BR,_,rfl,_,rfl,A.li,_,rfl,cV.of c.hli,fun q hq=>?_⟩
    rw[SK]
    have s1:=aF hq (.lst ((nI (ls.drop i)).map V.int))
    have hq1:(upd H2 q (.lst ((nI (ls.drop i)).map V.int))) q=some (.lst ((nI (ls.drop i)).map V.int)):=ak
    generalize upd H2 q (.lst ((nI (ls.drop i)).map V.int))=H1 at s1 hq1
    have SM:cP kn (ls.drop i) (R.drop i):=by
     unfold cP
     rw[map_drop,map_drop,show ls.map (fun m=>kn[m]?)=R.map some from hR]
    refine⟨q,rfl,⟨_,cV.of hq1⟩,q,_,[.ref a],rfl,cV.of hq1,rfl,fun j i' v e1 e2=>?_,fun Dd hD=>?_⟩
    ·match j with
     |0=>
      have z1:0=i':=by simpa using e1
      have z2:V.ref a=v:=by simpa using e2
      subst z1 z2
      rfl
     |j+1=>simp at e1
    ·refine⟨fun j acc Hx=>∃as:List Addr,acc=as.map V.ref/\as.length=j/\j<=(R.drop i).length/\aC H1 Hx/\Hx Dd=some (.lst acc)/\(∀b∈as,H1 b=none/\b≠Dd)/\∀(k:Nat)(b:Addr)(r:RP),as[k]?=some b->(R.drop i)[k]?=some r->Hx b=some (.lst (r.1.map V.int)),⟨[],rfl,rfl,zero_le _,aF hD _,ak,(fun b hb=>nomatch hb),fun k b r e=>by simp at e⟩,?_,?_,?_⟩
     ·rintro j acc Hx ⟨as,rfl,_,_,sx,G4,_⟩
      exact⟨cV.of (sx _ _ hq1),G4⟩
     ·rintro j acc Hx x ⟨as,rfl,hj,Lv,sx,G4,hnew,hat⟩ hx
      have hjr:j<(ls.drop i).length:=by
       have:=(List.getElem?_eq_some_iff.mp hx).1
       rwa [length_map,lg]at this
      have Np:j<(R.drop i).length:=by rw[<-SM.len];exact hjr
      obtain⟨m,hm1,hm2⟩:=SM.at (getElem?_eq_getElem Np)
      rw[uw hm1]at hx
      cases hx
      have cx:=c.same (s1.trans sx)
      have Mt:m<A.ks.length:=by rw[c.BQ];exact(List.getElem?_eq_some_iff.mp hm2).1
      have hb:=cx.hks m A.ks[m] _ (getElem?_eq_getElem Mt) hm2
      refine⟨_,rfl,a,C,A.dx,_,_,rfl,cx.ob,T.cl,T.kn,zm,_,rfl,A.kn,A.ks.map V.ref,m,.ref A.ks[m],rfl,rfl,cV.of cx.hkn,iO (by rw[getElem?_map,getElem?_eq_getElem Mt];rfl),A.ks[m],_,rfl,.inl (cV.of hb),fun l2 hl2=>?_⟩
      have SN:Dd≠l2:=fun zz=>by rw[<-zz,G4]at hl2;cases hl2
      have hl1:H1 l2=none:=sx.free hl2
      refine⟨by rw[ae SN];exact G4,by rw[length_map,hj];exact lt_of_lt_of_le (show j<1000001 by rw[length_drop]at Np;omega) (by decide),as++[l2],by rw[map_append];rfl,by rw[length_append,hj];rfl,Np,?_,ak,fun b Lh=>?_,fun k' b r e1 e2=>?_⟩
      ·intro y o hy
       have hyD:y≠Dd:=fun zz=>by rw[zz,hD]at hy;cases hy
       rw[ae hyD]
       exact aF hl2 _ _ _ (sx _ _ hy)
      ·rcases mem_append.mp Lh with h|h
       ·exact hnew b h
       ·have:b=l2:=by simpa using h
        rw[this];exact⟨hl1,Ne.symm SN⟩
      ·by_cases hk:k'<as.length
       ·rw[getElem?_append_left hk]at e1
        have UR:=hat k' b r e1 e2
        rw[ae (hnew b (mem_of_getElem? e1)).2]
        exact aF hl2 _ _ _ UR
       ·obtain⟨z1,z2⟩:=pA e1 hk
        rw[hj]at z1
        rw[z1,getElem?_eq_getElem Np]at e2
        cases e2
        rw[<-z2,ae (Ne.symm SN)]
        exact ak
     ·rintro acc Hx ⟨as,rfl,hj,Lv,sx,G4,hnew,hat⟩
      refine⟨(by show 2<=sizeLine;decide),fun pt Nq=>?_⟩
      have st:=aF Nq (.tup [V.int i,V.ref Dd])
      have hlen:as.length=((R.drop i).map (·.1)).length:=by
       rw[hj,length_map,lg,length_map]
       exact SM.len
      have hD0:H2 Dd=none:=s1.free hD
      refine k _ _ ((s1.trans sx).trans st) ?_
      unfold uZ
      rw[hcn]
      refine⟨pt,_,rfl,.inl ⟨(s1.trans sx).free Nq,.inl ak⟩,_,_,rfl,rfl,_,_,rfl,⟨Dd,_,rfl,.inl ⟨hD0,.inl (st _ _ G4)⟩,?_⟩,rfl⟩
      have:=rP (K:=K) (P:=fun x=>H2 x=none) (H:=upd Hx pt (.tup [V.int i,V.ref Dd])) hlen (fun b hb=>s1.free (hnew b hb).1) fun k' b ns e1 e2=>by
       rw[getElem?_map]at e2
       cases hr:(R.drop i)[k']? with
       |none=>rw[hr]at e2;cases e2
       |some r=>
        rw[hr]at e2
        cases e2
        exact st _ _ (hat k' b r e1 hr)
      rw[map_map]at this
      exact this
  ·rw[decide_eq_false (show¬(i:Int)<(((nI ls).map V.int).length:Nat)by rw[length_map,lg,hR.len];omega)]
   refine t8 ?_
   refine t8 ?_
   have hcn:yN n R=i:=BZ hal (by rw[List.getElem?_eq_none (by omega)];exact fun e=>nomatch e)
   have SK:yw ((nI ls).map V.int) (some (i:Int)) none=(nI (ls.drop i)).map V.int:=by
    unfold yw nI
    rw[rm _ _ _ (by omega),oJ,toNat_natCast,length_map,length_map,hR.len,min_eq_left hiR,map_drop,map_drop]
    refine take_of_length_le ?_
    rw[length_drop,length_map,length_map,hR.len]
    exact le_refl _
   refine⟨_,rfl,_,rfl,a,C,A.dx,_,_,rfl,c.ob,T.cl,T.li,BR,_,rfl,_,rfl,A.li,_,rfl,cV.of c.hli,fun q hq=>?_⟩
   rw[SK]
   have s1:=aF hq (.lst ((nI (ls.drop i)).map V.int))
   have hq1:(upd H2 q (.lst ((nI (ls.drop i)).map V.int))) q=some (.lst ((nI (ls.drop i)).map V.int)):=ak
   generalize upd H2 q (.lst ((nI (ls.drop i)).map V.int))=H1 at s1 hq1
   have SM:cP kn (ls.drop i) (R.drop i):=by
    unfold cP
    rw[map_drop,map_drop,show ls.map (fun m=>kn[m]?)=R.map some from hR]
   refine⟨q,rfl,⟨_,cV.of hq1⟩,q,_,[.ref a],rfl,cV.of hq1,rfl,fun j i' v e1 e2=>?_,fun Dd hD=>?_⟩
   ·match j with
    |0=>
     have z1:0=i':=by simpa using e1
     have z2:V.ref a=v:=by simpa using e2
     subst z1 z2
     rfl
    |j+1=>simp at e1
   ·refine⟨fun j acc Hx=>∃as:List Addr,acc=as.map V.ref/\as.length=j/\j<=(R.drop i).length/\aC H1 Hx/\Hx Dd=some (.lst acc)/\(∀b∈as,H1 b=none/\b≠Dd)/\∀(k:Nat)(b:Addr)(r:RP),as[k]?=some b->(R.drop i)[k]?=some r->Hx b=some (.lst (r.1.map V.int)),⟨[],rfl,rfl,zero_le _,aF hD _,ak,(fun b hb=>nomatch hb),fun k b r e=>by simp at e⟩,?_,?_,?_⟩
    ·rintro j acc Hx ⟨as,rfl,_,_,sx,G4,_⟩
     exact⟨cV.of (sx _ _ hq1),G4⟩
    ·rintro j acc Hx x ⟨as,rfl,hj,Lv,sx,G4,hnew,hat⟩ hx
     have hjr:j<(ls.drop i).length:=by
      have:=(List.getElem?_eq_some_iff.mp hx).1
      rwa [length_map,lg]at this
     have Np:j<(R.drop i).length:=by rw[<-SM.len];exact hjr
     obtain⟨m,hm1,hm2⟩:=SM.at (getElem?_eq_getElem Np)
     rw[uw hm1]at hx
     cases hx
     have cx:=c.same (s1.trans sx)
     have Mt:m<A.ks.length:=by rw[c.BQ];exact(List.getElem?_eq_some_iff.mp hm2).1
     have hb:=cx.hks m A.ks[m] _ (getElem?_eq_getElem Mt) hm2
     refine⟨_,rfl,a,C,A.dx,_,_,rfl,cx.ob,T.cl,T.kn,zm,_,rfl,A.kn,A.ks.map V.ref,m,.ref A.ks[m],rfl,rfl,cV.of cx.hkn,iO (by rw[getElem?_map,getElem?_eq_getElem Mt];rfl),A.ks[m],_,rfl,.inl (cV.of hb),fun l2 hl2=>?_⟩
     have SN:Dd≠l2:=fun zz=>by rw[<-zz,G4]at hl2;cases hl2
     have hl1:H1 l2=none:=sx.free hl2
     refine⟨by rw[ae SN];exact G4,by rw[length_map,hj];exact lt_of_lt_of_le (show j<1000001 by rw[length_drop]at Np;omega) (by decide),as++[l2],by rw[map_append];rfl,by rw[length_append,hj];rfl,Np,?_,ak,fun b Lh=>?_,fun k' b r e1 e2=>?_⟩
     ·intro y o hy
      have hyD:y≠Dd:=fun zz=>by rw[zz,hD]at hy;cases hy
      rw[ae hyD]
      exact aF hl2 _ _ _ (sx _ _ hy)
     ·rcases mem_append.mp Lh with h|h
      ·exact hnew b h
      ·have:b=l2:=by simpa using h
       rw[this];exact⟨hl1,Ne.symm SN⟩
     ·by_cases hk:k'<as.length
      ·rw[getElem?_append_left hk]at e1
       have UR:=hat k' b r e1 e2
       rw[ae (hnew b (mem_of_getElem? e1)).2]
       exact aF hl2 _ _ _ UR
      ·obtain⟨z1,z2⟩:=pA e1 hk
       rw[hj]at z1
       rw[z1,getElem?_eq_getElem Np]at e2
       cases e2
       rw[<-z2,ae (Ne.symm SN)]
       exact ak
    ·rintro acc Hx ⟨as,rfl,hj,Lv,sx,G4,hnew,hat⟩
     refine⟨(by show 2<=sizeLine;decide),fun pt Nq=>?_⟩
     have st:=aF Nq (.tup [V.int i,V.ref Dd])
     have hlen:as.length=((R.drop i).map (·.1)).length:=by
      rw[hj,length_map,lg,length_map]
      exact SM.len
     have hD0:H2 Dd=none:=s1.free hD
     refine k _ _ ((s1.trans sx).trans st) ?_
     unfold uZ
     rw[hcn]
     refine⟨pt,_,rfl,.inl ⟨(s1.trans sx).free Nq,.inl ak⟩,_,_,rfl,rfl,_,_,rfl,⟨Dd,_,rfl,.inl ⟨hD0,.inl (st _ _ G4)⟩,?_⟩,rfl⟩
     have:=rP (K:=K) (P:=fun x=>H2 x=none) (H:=upd Hx pt (.tup [V.int i,V.ref Dd])) hlen (fun b hb=>s1.free (hnew b hb).1) fun k' b ns e1 e2=>by
      rw[getElem?_map]at e2
      cases hr:(R.drop i)[k']? with
      |none=>rw[hr]at e2;cases e2
      |some r=>
       rw[hr]at e2
       cases e2
       exact st _ _ (hat k' b r e1 hr)
     rw[map_map]at this
     exact this
end
end DL.pD
namespace DL.pD
open PySem PySem.Spec PyProof.Rows L2 DL
abbrev Dz:Stmt:=inClass (top 29) 0
def T6(i:Int):List (Str×V):=[("none",.int i)]
def Qf(K:PySem.W.Frag)(C:Addr):Sp:=fun vs H Q _=>∃(a dx:Addr)(n:Nat),vs=[.ref a,.int n]/\(1<=n/\n<=7)/\H a=some (.ins C dx [])/\(∃o,H dx=some o)/\a≠dx/\
 ∀(H':Hp)(A':Ad)(kn:List RP)(zn wn:Nat)(nu:List (List Key×V)),iA C H' a A' (uY zn wn) n kn (nI []) 2 nu [] [] []->kn[zn]?=some (upTo n,upTo n)->kn[wn]?=some (Kg n)->(∀x u,x≠a->H x=some u->x≠dx->H' x=some u)->(∀x∈A'.all,x=dx\/H x=none)->(∀x,H' x=none->H x=none)->Q .non H'
section
variable{P:Program}{w:World}{K:PySem.W.Frag}{mg:Str->Option Value}{base:Heap}
theorem sc0:aw ["self","n"] ["self","n"] (aa Dz):=⟨rfl,rfl,rfl,by decide +kernel,rfl,by decide +kernel,by decide +kernel⟩
theorem W8{f C fN:Addr}{fd Kz:FuncData}(F:zL K "__init__" "Comb.__init__" Dz f fd)(T:Lq K mg C)(t:Tb K mg)
  (mN:Meth K C "number_of" fN)(bN:Binds K Kz ["self","row"] [])(GN:bH P w K mg base kh 3 fN Kz ["self","row"] (B5 K C))
  (G_s:mQ P w K mg base 1 t.iD t.iF ["n"] cW)(G_h:mQ P w K mg base 1 t.Ak t.Al ["n"] xr)
  (es:∀n:Nat,n<=7->cW [.int n]=.ok (aO (upTo n)))(eh:∀n:Nat,1<=n/\n<=7->xr [.int n]=.ok (aO (upTo n).reverse))(ivh:∀n:Nat,Iv n (upTo n).reverse (upTo n).reverse)(ivs:∀n:Nat,Iv n (upTo n) (upTo n)):bH P w K mg base kh 4 f fd ["self","n"] (Qf K C):=by
 refine F.ok sc0 (fun vs H Q E h=>?_) (fun cdv A outer s H vs Q E hr h=>?_)
 ·obtain⟨a,dx,n,rfl,_⟩:=h
  rfl
 ·obtain⟨a,dx,n,rfl,hn,hob,hdx,hne,k⟩:=h
  have hu:=rq hr
  refine⟨_,(aA (kT (pv 0) (tZ aE) rfl) (aA (kT (pv 0) rA rfl) (aA (kT (pv 0) (tZ aE) rfl) (aA (kT (pv 0) (tZ aE) rfl) (aA (kT (pv 0) rA rfl) (aA (kT (pv 0) rA rfl) (aA (kT (pv 0) rA rfl) (aA (kT (pv 0) (tZ aE) rfl) (aA (kT (pv 0) (iM (pv 0) T.cl mN GN (hr.mono (by decide)) bN .nil nH (aq (dS (E:=fun _ _ _=>False) G_s (hr.mono (by decide)) (by rfl) t.e9.m t.e9.F.kp t.e9.b .nil ky (aq (pv 1) aE)) aE)) rfl) (bO (kT (pv 0) (iM (pv 0) T.cl mN GN (hr.mono (by decide)) bN .nil nH (aq (dS (E:=fun _ _ _=>False) G_h (hr.mono (by decide)) (by rfl) t.xR.m t.xR.F.kp t.xR.b .nil ky (aq (pv 1) aE)) aE)) rfl))))))))))),?_⟩
  refine⟨(by show 0<=sizeLine;decide),fun l1 h1=>?_⟩
  obtain⟨ne1,W9,X8,at1,Yv,Lw⟩:=jh hob h1 (.lst []) "known"
  refine⟨_,rfl,a,C,dx,_,rfl,W9,T.cl,T.kn,(by show 0<1000;decide),?_⟩
  generalize hH1:upd (upd H l1 (.lst [])) a _=H1 at X8 at1 Yv Lw
  intro l2 h2
  obtain⟨ne2,Xa,WM,at2,Nr,Qg⟩:=jh X8 h2 (.dT []) "numbers"
  refine⟨_,rfl,a,C,dx,_,rfl,Xa,T.cl,T.nu,(by show 1<1000;decide),?_⟩
  generalize hH2:upd (upd H1 l2 (.dT [])) a _=H2 at WM at2 Nr Qg
  refine⟨(by show 0<=sizeLine;decide),fun l3 h3=>?_⟩
  obtain⟨ne3,Xb,WN,SQ,E6,SR⟩:=jh WM h3 (.lst []) "firsts"
  refine⟨_,rfl,a,C,dx,_,rfl,Xb,T.cl,T.fi,(by show 2<1000;decide),?_⟩
  generalize Lr:upd (upd H2 l3 (.lst [])) a _=H3 at WN SQ E6 SR
  refine⟨(by show 0<=sizeLine;decide),fun l4 h4=>?_⟩
  obtain⟨ne4,Xd,ob4,T7,B7,T8⟩:=jh WN h4 (.lst []) "lasts"
  refine⟨_,rfl,a,C,dx,_,rfl,Xd,T.cl,T.la,(by show 3<1000;decide),?_⟩
  generalize hH4:upd (upd H3 l4 (.lst [])) a _=H4 at ob4 T7 B7 T8
  intro l5 h5
  obtain⟨ne5,Xe,ob5,Xf,AK,Xg⟩:=jh ob4 h5 (.dT []) "shorter"
  refine⟨_,rfl,a,C,dx,_,rfl,Xe,T.cl,T.sh,(by show 4<1000;decide),?_⟩
  generalize hH5:upd (upd H4 l5 (.dT [])) a _=H5 at ob5 Xf AK Xg
  intro l6 h6
  obtain⟨Yw,Xh,Yk,Yx,B8,Yy⟩:=jh ob5 h6 (.dT []) "longer"
  refine⟨_,rfl,a,C,dx,_,rfl,Xh,T.cl,T.lo,(by show 5<1000;decide),?_⟩
  generalize Ls:upd (upd H5 l6 (.dT [])) a _=H6 at Yk Yx B8 Yy
  intro l7 h7
  obtain⟨ne7,Xi,ob7,at7,E7,gr7⟩:=jh Yk h7 (.dT []) "kept"
  refine⟨_,rfl,a,C,dx,_,rfl,Xi,T.cl,T.ke,(by show 6<1000;decide),?_⟩
  generalize hH7:upd (upd H6 l7 (.dT [])) a _=H7 at ob7 at7 E7 gr7
  refine⟨(by show 0<=sizeLine;decide),fun l8 h8=>?_⟩
  obtain⟨ne8,Xj,Yz,at8,Nt,gr8⟩:=jh ob7 h8 (.lst []) "line"
  refine⟨_,rfl,a,C,dx,_,rfl,Xj,T.cl,T.li,(by show 7<1000;decide),?_⟩
  generalize XY:upd (upd H7 l8 (.lst [])) a _=H8 at Yz at8 Nt gr8
  have v1:H8 l1=some (.lst []):=(Nt _ _ ne1 (E7 _ _ ne1 (B8 _ _ ne1 (AK _ _ ne1 (B7 _ _ ne1 (E6 _ _ ne1 (Nr _ _ ne1 at1)))))))
  have v2:H8 l2=some (.dT []):=(Nt _ _ ne2 (E7 _ _ ne2 (B8 _ _ ne2 (AK _ _ ne2 (B7 _ _ ne2 (E6 _ _ ne2 at2))))))
  have v3:H8 l3=some (.lst []):=(Nt _ _ ne3 (E7 _ _ ne3 (B8 _ _ ne3 (AK _ _ ne3 (B7 _ _ ne3 SQ)))))
  have v4:H8 l4=some (.lst []):=(Nt _ _ ne4 (E7 _ _ ne4 (B8 _ _ ne4 (AK _ _ ne4 T7))))
  have v5:H8 l5=some (.dT []):=(Nt _ _ ne5 (E7 _ _ ne5 (B8 _ _ ne5 Xf)))
  have v6:H8 l6=some (.dT []):=(Nt _ _ Yw (E7 _ _ Yw Yx))
  have v7:H8 l7=some (.dT []):=(Nt _ _ ne7 at7)
  have v8:H8 l8=some (.lst []):=at8
  have kp:∀x u,x≠a->H x=some u->H8 x=some u:=fun x u hn hx=>(Nt _ _ hn (E7 _ _ hn (B8 _ _ hn (AK _ _ hn (B7 _ _ hn (E6 _ _ hn (Nr _ _ hn (Yv _ _ hn hx))))))))
  have gr:∀x,H8 x=none->H x=none:=fun x hx=>(Lw _ (Qg _ (SR _ (T8 _ (Xg _ (Yy _ (gr7 _ (gr8 _ hx))))))))
  have f1:H l1=none:=h1
  have f2:H l2=none:=(Lw _ h2)
  have f3:H l3=none:=(Lw _ (Qg _ h3))
  have f4:H l4=none:=(Lw _ (Qg _ (SR _ h4)))
  have f5:H l5=none:=(Lw _ (Qg _ (SR _ (T8 _ h5))))
  have f6:H l6=none:=(Lw _ (Qg _ (SR _ (T8 _ (Xg _ h6)))))
  have f7:H l7=none:=(Lw _ (Qg _ (SR _ (T8 _ (Xg _ (Yy _ h7))))))
  have f8:H l8=none:=(Lw _ (Qg _ (SR _ (T8 _ (Xg _ (Yy _ (gr7 _ h8)))))))
  have adf:l1≠l2:=ao at1 h2
  have adg:l1≠l3:=ao (Nr _ _ ne1 at1) h3
  have adh:l2≠l3:=ao at2 h3
  have adi:l1≠l4:=ao (E6 _ _ ne1 (Nr _ _ ne1 at1)) h4
  have adj:l2≠l4:=ao (E6 _ _ ne2 at2) h4
  have adk:l3≠l4:=ao SQ h4
  have adl:l1≠l5:=ao (B7 _ _ ne1 (E6 _ _ ne1 (Nr _ _ ne1 at1))) h5
  have adm:l2≠l5:=ao (B7 _ _ ne2 (E6 _ _ ne2 at2)) h5
  have adn:l3≠l5:=ao (B7 _ _ ne3 SQ) h5
  have ado:l4≠l5:=ao T7 h5
  have adp:l1≠l6:=ao (AK _ _ ne1 (B7 _ _ ne1 (E6 _ _ ne1 (Nr _ _ ne1 at1)))) h6
  have adq:l2≠l6:=ao (AK _ _ ne2 (B7 _ _ ne2 (E6 _ _ ne2 at2))) h6
  have adt:l3≠l6:=ao (AK _ _ ne3 (B7 _ _ ne3 SQ)) h6
  have adu:l4≠l6:=ao (AK _ _ ne4 T7) h6
  have adv:l5≠l6:=ao Xf h6
  have adw:l1≠l7:=ao (B8 _ _ ne1 (AK _ _ ne1 (B7 _ _ ne1 (E6 _ _ ne1 (Nr _ _ ne1 at1))))) h7
  have adx:l2≠l7:=ao (B8 _ _ ne2 (AK _ _ ne2 (B7 _ _ ne2 (E6 _ _ ne2 at2)))) h7
  have ady:l3≠l7:=ao (B8 _ _ ne3 (AK _ _ ne3 (B7 _ _ ne3 SQ))) h7
  have adz:l4≠l7:=ao (B8 _ _ ne4 (AK _ _ ne4 T7)) h7
  have adA:l5≠l7:=ao (B8 _ _ ne5 Xf) h7
  have adB:l6≠l7:=ao Yx h7
  have adC:l1≠l8:=ao (E7 _ _ ne1 (B8 _ _ ne1 (AK _ _ ne1 (B7 _ _ ne1 (E6 _ _ ne1 (Nr _ _ ne1 at1)))))) h8
  have adD:l2≠l8:=ao (E7 _ _ ne2 (B8 _ _ ne2 (AK _ _ ne2 (B7 _ _ ne2 (E6 _ _ ne2 at2))))) h8
  have adE:l3≠l8:=ao (E7 _ _ ne3 (B8 _ _ ne3 (AK _ _ ne3 (B7 _ _ ne3 SQ)))) h8
  have adF:l4≠l8:=ao (E7 _ _ ne4 (B8 _ _ ne4 (AK _ _ ne4 T7))) h8
  have adG:l5≠l8:=ao (E7 _ _ ne5 (B8 _ _ ne5 Xf)) h8
  have adH:l6≠l8:=ao (E7 _ _ Yw Yx) h8
  have adI:l7≠l8:=ao at7 h8
  have vd:∃o,H8 dx=some o:=by
   obtain⟨o,ho⟩:=hdx
   exact⟨o,kp _ _ (Ne.symm hne) ho⟩
  have Qh:∀{l:Addr},H l=none->l≠dx:=fun hl z=>by
   obtain⟨o,ho⟩:=hdx
   rw[<-z,hl]at ho
   cases ho
  have c:iA C H8 a ⟨dx,l1,l2,l3,l4,l5,l6,l7,l8,[]⟩ [] n [] [] 0 [] [] [] []:=by
   refine⟨Yz,vd,?_,v1,rfl,(fun i b p e=>by simp at e),v2,v3,v4,v5,v6,v7,v8,(fun p hp=>by simp at hp),(fun i p e=>by simp at e),(fun r _=>rfl),(fun i k v e=>by cases e),(fun i k v e=>by cases e),(fun i j v e=>by cases e),⟨le_refl _,le_refl _,le_refl _,le_refl _,le_refl _⟩,(fun m hm=>by simp at hm)⟩
   show(a::dx::l1::l2::l3::l4::l5::l6::l7::l8::[]).Nodup
   simp only [nodup_cons,mem_cons,not_mem_nil,or_false,not_or,not_false_eq_true,List.nodup_nil,and_true]
   exact⟨⟨hne,Ne.symm ne1,Ne.symm ne2,Ne.symm ne3,Ne.symm ne4,Ne.symm ne5,Ne.symm Yw,Ne.symm ne7,Ne.symm ne8⟩,⟨Ne.symm (Qh f1),Ne.symm (Qh f2),Ne.symm (Qh f3),Ne.symm (Qh f4),Ne.symm (Qh f5),Ne.symm (Qh f6),Ne.symm (Qh f7),Ne.symm (Qh f8)⟩,⟨adf,adg,adi,adl,adp,adw,adC⟩,⟨adh,adj,adm,adq,adx,adD⟩,⟨adk,adn,adt,ady,adE⟩,⟨ado,adu,adz,adF⟩,⟨adv,adA,adG⟩,⟨adB,adH⟩,adI⟩
  generalize Yz=Yz at c
  clear W9 Xa Xb Xd Xe Xh Xi Xj
  have MA:∀x∈(⟨dx,l1,l2,l3,l4,l5,l6,l7,l8,[]⟩:Ad).all,x=dx\/H x=none:=fun x hx=>by
   unfold Ad.all Ad.hd at hx
   simp only [append_nil,mem_cons,not_mem_nil,or_false]at hx
   rcases hx with rfl|rfl|rfl|rfl|rfl|rfl|rfl|rfl|rfl
   ·exact .inl rfl
   ·exact .inr f1
   ·exact .inr f2
   ·exact .inr f3
   ·exact .inr f4
   ·exact .inr f5
   ·exact .inr f6
   ·exact .inr f7
   ·exact .inr f8
  generalize (⟨dx,l1,l2,l3,l4,l5,l6,l7,l8,[]⟩:Ad)=A at c MA
  refine⟨_,rfl,a,A.dx,_,rfl,c.ob,rfl,_,rfl,fun _=>True,[.int n],⟨_,_,rfl,rfl,rfl⟩,?_⟩
  rw[es n hn.2]
  intro q ws H9 s9 hq9 hw9 iw9
  have ew:=iR iw9
  subst ew
  have c9:=c.same s9
  have nF:∀{Hx Hy:Hp}{Ax:Ad}{y:Addr}{exx:List (Str×V)}{knn:List RP}{lnn:List Int}{BB:Nat}{nn ss ll kk:List (List Key×V)},iA C Hx a Ax exx n knn lnn BB nn ss ll kk->Hx y=none->y∉a::Ax.all:=fun cx hy hx=>by
   obtain⟨o,ho⟩:=cx.there hx
   rw[hy]at ho
   cases ho
  refine⟨a,A,[],n,[],[],0,[],[],[],[],(upTo n,upTo n),.ref q,rfl,c9,hn.2,by decide,ivs n,⟨q,_,rfl,.inl ⟨nF (Hy:=H9) c hq9,.inl hw9⟩,bW _⟩,fun i1 rG A1 W4 W5 c10 hi1 Ao T4=>?_⟩
  refine⟨_,rfl,a,C,A1.dx,_,rfl,c10.ob,T.cl,T.no,(by show 8<1000;decide),?_⟩
  have YA:=c10.PQ (T6 i1)
  have Xk:ie H8 (upd rG a (.ins C A1.dx (vA A1++(T6 i1)))) (a::A.all) (a::A1.all):=((ie.same s9 _).trans Ao).trans (ie.upd mem_cons_self _)
  rw[show jQ ("none":Str) (.int (i1:Int)) (vA A1++[])=vA A1++(T6 i1)from rfl]
  generalize upd rG a (.ins C A1.dx (vA A1++(T6 i1)))=Mf at YA Xk
  refine⟨_,rfl,a,A1.dx,_,rfl,YA.ob,rfl,_,rfl,fun _=>True,[.int n],⟨_,_,rfl,rfl,rfl⟩,?_⟩
  rw[eh n hn]
  intro q2 ws2 H12 CA adJ adK adL
  have ew2:=iR adL
  subst ew2
  have c12:=YA.same CA
  refine⟨a,A1,(T6 i1),n,[]++W4,[],1,W5,[],[],[],Kg n,.ref q2,rfl,c12,hn.2,by decide,ivh n,⟨q2,_,rfl,.inl ⟨nF (Hy:=H12) YA adJ,.inl adK⟩,bW _⟩,fun i2 H13 A2 mo2 wc c13 hi2 Dy T3=>?_⟩
  refine⟨_,rfl,a,C,A2.dx,_,rfl,c13.ob,T.cl,T.wh,(by show 9<1000;decide),?_⟩
  have c14:=c13.PQ (uY i1 i2)
  rw[show jQ ("whole":Str) (.int (i2:Int)) (vA A2++(T6 i1))=vA A2++uY i1 i2 from rfl]
  have SS:ie H8 (upd H13 a (.ins C A2.dx (vA A2++uY i1 i2))) (a::A.all) (a::A2.all):=((Xk.trans (ie.same CA _)).trans Dy).trans (ie.upd mem_cons_self _)
  refine k _ A2 ([]++W4++mo2) i1 i2 wc c14 (bU hi1) hi2 (fun x u hx h1 h2=>?_) (fun x hx=>?_) (fun x hx=>gr x (SS.gr x hx))
  ·refine SS.kp x u (fun hm=>?_) (kp x u hx h1)
   rcases mem_cons.mp hm with z|z
   ·exact hx z
   ·rcases MA x z with z|z
    ·exact h2 z
    ·rw[z]at h1;cases h1
  ·rcases SS.nw x (mem_cons_of_mem _ hx)with z|z
   ·rcases mem_cons.mp z with z|z
    ·rw[z]at hx
     exact absurd hx (nodup_cons.mp c14.nd).1
    ·exact MA x z
   ·exact .inr (gr x z)
end
end DL.pD
namespace DL.pD
open PySem PySem.Spec PyProof.Rows L2 DL
theorem SV{α:Type}(r:R α)(c:Str):r.ne≠.err c:=by cases r<;>exact fun z=>nomatch z
structure CbM(P:Program)(w:World)(K:PySem.W.Frag)(mg:Str->Option Value)(base:Heap)(C:Addr) where
 fI:Addr
 dI:FuncData
 fP:Addr
 dP:FuncData
 fT:Addr
 dT:FuncData
 M:Mk K C fI
 bI:Binds K dI ["self","n"] []
 GI:bH P w K mg base kh 4 fI dI ["self","n"] (Qf K C)
 mP:Meth K C "put" fP
 bP:Binds K dP ["self","row"] []
 GP:bH P w K mg base kh 7 fP dP ["self","row"] (Qc K C)
 mT:Meth K C "form_told" fT
 bT:Binds K dT ["self"] []
 GT:bH P w K mg base kh 1 fT dT ["self"] (Qe K C)
section
variable{P:Program}{w:World}{K:PySem.W.Frag}{mg:Str->Option Value}{base:Heap}
theorem SW{C:Addr}(T:Lq K mg C)(Z:CbM P w K mg base C)(t:Tb K mg)(G_r:TU P w K mg base 3 t.cQ t.cR ["steps"] bf):
  Ok P w K mg base 9 t.gb t.gj ["n","steps"] dN:=by
 refine t.jo.F.ok eg (fun vs H Q E h=>?_) (fun cdv A outer s H vs Q E hr h=>?_)
 ·obtain⟨Pa,ds,i,h⟩:=h
  match ds,h with
  |[.int n,d],h=>
   obtain⟨v,r,rfl,_,v',r',rfl,_,e⟩:=i
   have e':r'=[]:=e
   subst e'
   rfl
 ·obtain⟨Pa,ds,i,h⟩:=h
  obtain⟨n,d,rfl⟩:∃n d,ds=[.int n,d]:=by
   match ds,h with
   |[.int n,d],h=>exact⟨n,d,rfl⟩
  obtain⟨v0,r0,rfl,i0,v1,r1,rfl,i1,e2⟩:=i
  have Tu:r1=[]:=e2
  have e0':v0=.int n:=i0
  subst Tu e0'
  cases em:dN [.int n,d]with
  |bad=>rw[em]at h;exact h.elim
  |err c=>exact absurd em (SV _ c)
  |ok adM=>
  rw[em]at h
  have em':R.bind (bf [d]) (fun rs=> @ite _ ((1<=n/\n<=7)/\rs.length<=40/\∀r∈rs,dY n.toNat r) (propDecidable _) (R.bind (ER [.val (.int n),.val d,.no,.no,.val (uZ n.toNat (gA n.toNat rs))]) ai) .bad)=.ok adM:=R.bD em
  obtain⟨rs,hrs,Xl⟩:=R.cu em'
  by_cases hg:(1<=n/\n<=7)/\rs.length<=40/\∀r∈rs,dY n.toNat r
  case neg=>
   rw[if_neg hg]at Xl
   cases Xl
  case pos=>
  rw[if_pos hg]at Xl
  obtain⟨hn,aii,Xm⟩:=hg
  obtain⟨m,rfl⟩:∃m:Nat,n=m:=⟨n.toNat,by omega⟩
  rw[toNat_natCast]at Xl Xm
  have hu:=rq hr
  refine⟨_,aA (di (i:=2) eg.nd rfl (Or.inl rfl) (LV Z.M Z.GI (hr.mono (by decide)) (by rfl) T.mgC Z.bI .nil nH (aq (pv 0) aE)))
   (aA (HH PassesOwn.never rfl (vK (dS (E:=fun _ _ _=>False) G_r (hr.mono (by decide)) (by rfl) t.bM.m t.bM.F.kp t.bM.b .nil ky (aq (pv 1) aE))) (zF (i:=3) eg.nd rfl (Or.inl rfl))
    (bO (fX (iM (pv 2) T.cl Z.mP Z.GP (hr.mono (by decide)) Z.bP .nil nH (aq (pv 3) aE)) rfl)))
   (aA (di (i:=4) eg.nd rfl (Or.inl rfl) (HU (pv 2) T.cl Z.mT Z.GT (hr.mono (by decide)) Z.bT .nil nH))
   (bg (iq (E:=EN) (Ma (az (aW jO eU (PE.aD (Gm (nD 4) (PE.aD cI))) (PE.aD (aac rfl t.PX (PE.rC (kC (IQ (N:=["step"]) (nt:=1) (caps:=[]) (aa iB) ["n","steps","comb","row","found"] (by decide +kernel)) rfl (zR (iL (nD 1))) (Kp.ok (yE (nt:=1) 0)) (fun _ _ _ _ _=>(vx 0 (by show Nodup (["step"]:List Str);decide +kernel))) (fun _ _ _ _ _=>Oq) (fun _ _ _ _ _=>(Gm (nD 0) (PE.aD cI)))))))) (az (Gm (nD 4) (PE.aD cI)) bJ))))))),?_⟩
  refine⟨_,rfl,fun x dx hx hdx hne=>?_⟩
  refine⟨x,dx,m,rfl,by omega,ak,⟨_,by rw[ae hne];exact ak⟩,Ne.symm hne,fun H1 A1 YB zn wn W5 c1 hz1 hw1 Yv nw1 Lw=>⟨rfl,?_⟩⟩
  have Mz:aC H H1:=fun y u hy=>by
   have hyx:y≠x:=fun z=>by rw[z,hx]at hy;cases hy
   have hyd:y≠dx:=fun z=>by rw[z,hdx]at hy;cases hy
   exact Yv y u hyx (by rw[ae hyx,ae hyd];exact hy) hyd
  have nF1:∀y∈x::A1.all,H y=none:=fun y hy=>by
   rcases mem_cons.mp hy with rfl|hy
   ·exact hx
   ·rcases nw1 y hy with rfl|hy
    ·exact hdx
    ·by_cases z1:y=x
     ·rw[z1];exact hx
     ·by_cases z2:y=dx
      ·rw[z2];exact hdx
      ·rw[ae z1,ae z2]at hy;exact hy
  refine⟨_,rfl,fun _=>True,[d],⟨_,_,rfl,(i1.same Mz).weak,rfl⟩,?_⟩
  rw[hrs]
  intro la as H2 CA Xn
  have c2:=c1.same CA
  have hlen:=Xn.len
  have asF:∀b∈la::as,b∉x::A1.all:=fun b hb hF=>by
   obtain⟨o,ho⟩:=c1.there hF
   rw[Xn.fr b hb]at ho
   cases ho
  refine⟨la,rfl,⟨_,cV.of Xn.ha⟩,HK (K:=K) (a:=la) (xs:=as.map V.ref) (fun i σ Hx=>∃(A2:Ad)(mo:List RP)(ls:List Nat)(B2:Nat)(wc xX lo2 Lu:List (List Key×V))(rv:Option V),σ=[some (.int (m:Int)),some v1,some (.ref x),rv,none]/\iA C Hx x A2 (uY zn wn) m (YB++mo) (nI ls) B2 wc xX lo2 Lu/\
    cP (YB++mo) ls (gA m (rs.take i))/\B2<=2+402*41*i/\i<=rs.length/\ie H2 Hx (x::A1.all) (x::A2.all)) ⟨A1,[],[],2,W5,[],[],[],none,rfl,by rw[append_nil];exact c2,rfl,by omega,zero_le _,ie.refl _ _⟩ ?_ ?_ ?_⟩
  ·rintro i σ Hx hi ⟨A2,mo,ls,B2,wc,xX,lo2,Lu,rv,rfl,c3,hL,hB,hir,rg⟩
   exact cV.of (rg.kp la _ (asF la (by simp)) Xn.ha)
  ·rintro i y σ Hx hy ⟨A2,mo,ls,B2,wc,xX,lo2,Lu,rv,rfl,c3,hL,hB,hir,rg⟩
   have hia:i<as.length:=by
    have:=(List.getElem?_eq_some_iff.mp hy).1
    rwa [length_map]at this
   have Xo:i<rs.length:=by rw[<-hlen];exact hia
   rw[getElem?_map,getElem?_eq_getElem hia]at hy
   cases hy
   have hr1:rs[i]?=some rs[i]:=getElem?_eq_getElem Xo
   have hb2:=Xn.it i as[i] rs[i] (getElem?_eq_getElem hia) hr1
   have hbF:=asF as[i] (mem_cons_of_mem _ (List.getElem_mem _))
   have hb3:=rg.kp _ _ hbF hb2
   have adO:as[i]∉x::A2.all:=fun hF=>by
    rcases rg.nw _ hF with z|z
    ·exact hbF z
    ·rw[hb2]at z;cases z
   have hcl:=se m (rs.take i) []
   have SX:(gA m (rs.take i)).length<=40:=by
    unfold gA
    rw[length_nil,length_take]at hcl
    omega
   refine⟨_,rfl,x,A2.dx,_,rfl,c3.ob,rfl,_,rfl,x,A2,zn,wn,m,YB++mo,ls,gA m (rs.take i),B2,wc,xX,lo2,Lu,(rs[i],EO rs[i]),.ref as[i],rfl,c3,hL,bU hz1,by omega,by omega,by omega,Kj (Xm _ (List.getElem_mem _)),⟨as[i],_,rfl,.inl ⟨adO,.inl hb3⟩,bW _⟩,fun H4 A4 E4 ls4 WV WW lo4 ke4 c4 hL4 SH=>?_⟩
   rw[List.append_assoc]at c4 hL4
   exact⟨A4,mo++E4,ls4,_,WV,WW,lo4,ke4,_,rfl,c4,by rw[GY hr1];exact hL4,by omega,Xo,rg.trans SH⟩
  ·rintro σ Hx ⟨A2,mo,ls,B2,wc,xX,lo2,Lu,rv,rfl,c3,hL,hB,hir,rg⟩
   rw[length_map,hlen,take_length]at hL
   have hcl:=se m rs []
   have SX:(gA m rs).length<=1000:=by
    unfold gA
    rw[length_nil]at hcl
    omega
   refine⟨_,rfl,x,A2.dx,_,rfl,c3.ob,rfl,x,A2,zn,wn,m,YB++mo,ls,gA m rs,B2,wc,xX,lo2,Lu,rfl,c3,hL,bU hw1,SX,fun fv H5 s5 i5=>?_⟩
   have sHx:aC H Hx:=fun y u hy=>rg.kp y u (fun hF=>by rw[nF1 y hF]at hy;cases hy) (CA _ _ (Mz _ _ hy))
   have sH5:=sHx.trans s5
   refine⟨⟨Pa,H⟩,[.val (.int (m:Int)),.val d,.no,.no,.val (uZ m (gA m rs))],[],⟨rfl,sH5,fun i dd e=>?_,fun i xs e=>?_,fun i j xs ys b e=>?_,(fun b hb=>nomatch hb),fun i v e=>?_,A0.none fun i w e=>?_⟩,?_⟩
   ·match i with
    |0=>cases e;exact⟨_,rfl,rfl⟩
    |1=>cases e;exact⟨_,rfl,Is.ext ⟨fun a o p _=>⟨.inl p,fun z=>nomatch z⟩,fun a o _ q=>sH5 a o q⟩ _ _ i1⟩
    |2=>cases e
    |3=>cases e
    |4=>cases e;exact⟨_,rfl,Is.ext ⟨fun a o p _=>⟨.inr (sHx.free p),fun z=>nomatch z⟩,fun a o _ q=>q⟩ _ _ i5⟩
    |i+5=>cases e
   ·match i with
    |0=>cases e
    |1=>cases e
    |2=>cases e
    |3=>cases e
    |4=>cases e
    |i+5=>cases e
   ·match i with
    |0=>cases e
    |1=>cases e
    |2=>cases e
    |3=>cases e
    |4=>cases e
    |i+5=>cases e
   ·match i with
    |0=>cases e
    |1=>cases e
    |2=>cases e
    |3=>cases e
    |4=>cases e
    |i+5=>cases e
   ·match i with
    |0=>cases e
    |1=>cases e
    |2=>cases e
    |3=>cases e
    |4=>cases e
    |i+5=>cases e
   ·obtain⟨o,ho,hv⟩:=R.cu Xl
    obtain⟨dd,hdd,ho2⟩:=R.cu (show R.bind _ (fun v1=>R.ok (Out.rt v1))=.ok o from ho)
    cases ho2
    cases hv
    exact kB ho fun v H' sH' ZY=>h v H' sH' (Is.ext ⟨fun a o p _=>p.1,fun a o _ q=>q⟩ _ _ ZY)
end
end DL.pD
namespace DL
open PySem PySem.Spec PyProof.Rows L2
def fW:List Int->List Int->Option (List Int)
 |[],o=>some o
 |k::w,o=>if k<0\/ah o k.toNat<ah o (k-1).toNat then none else fW w (lV o (k-1).toNat)
theorem jM{n a:Nat}{o w:List Int}:fW (((a:Int)+1)::w) o=if ah o (a+1)<ah o a then none else fW w (lV o a):=by
 conv=>lhs;unfold fW
 rw[show((a:Int)+1).toNat=a+1 by omega,show((a:Int)+1-1).toNat=a by omega]
 by_cases h:ah o (a+1)<ah o a
 ·rw[if_pos (.inr h),if_pos h]
 ·rw[if_neg (by rintro(z|z);omega;exact h z),if_neg h]
def Ps(n:Nat)(w:List Int):Prop:=∀k∈w,∃a:Nat,k=(a:Int)+1/\a+1<n
def yr(w o:List Int):List Int:=w.foldl (fun o k=>lV o (k-1).toNat) o
theorem E8(f:Int->Int):∀(l:List Int)(a:Nat),lV (l.map f) a=(lV l a).map f
 |[],a=>by cases a<;>rfl
 |[x],0=>rfl
 |[x],a+1=>by cases a<;>rfl
 |x::y::l,0=>rfl
 |x::y::l,a+1=>by
  show lV (f x::map f (y::l)) (a+1)=_
  rw[zk,zk,E8 f (y::l) a]
  rfl
theorem KH{n a:Nat}(h:a+1<n):lV (upTo n) a=(upTo n).map (sg a):=by
 refine lU (by rw[jB,length_map]) fun j hj=>?_
 rw[jB,aV]at hj
 have e:=pq (r:=upTo n) (a:=a) (p:=j) (by rw[aV];exact hj)
 unfold JU at e
 rw[e,ph _ _ (by rw[aV];exact h),bR hj]
 unfold sg
 by_cases h1:j=a
 ·rw[if_pos h1,bR (by omega),if_pos (show(j:Int)=a by omega)]
  omega
 ·rw[if_neg h1,if_neg (show¬(j:Int)=a by omega)]
  by_cases h2:j=a+1
  ·rw[if_pos h2,bR (by omega),if_pos (show(j:Int)=a+1 by omega)]
  ·rw[if_neg h2,if_neg (show¬(j:Int)=a+1 by omega)]
theorem E9(f:Int->Int):∀(w o:List Int),yr w (o.map f)=(yr w o).map f
 |[],o=>rfl
 |k::w,o=>by
  show yr w (lV (o.map f) (k-1).toNat)=(yr w (lV o (k-1).toNat)).map f
  rw[E8,E9 f w]
theorem B9(n:Nat):Iv n (upTo n) (upTo n):=⟨aV n,aV n,fun p hp=>by rw[bR hp,toNat_natCast];exact⟨by omega,by omega,bR hp⟩,fun p hp=>by rw[bR hp,toNat_natCast];exact⟨by omega,by omega,bR hp⟩⟩
theorem DA{n:Nat}:∀w:List Int,Ps n w->Iv n (yr w.reverse (upTo n)) (yr w (upTo n))
 |[],_=>B9 n
 |k::w,h=>by
  obtain⟨a,rfl,ha⟩:=h k (by simp)
  have ih:=DA w fun x hx=>h x (by simp[hx])
  rw[reverse_cons]
  have e1:yr (((a:Int)+1)::w) (upTo n)=JU (yr w (upTo n)) a:=by
   show yr w (lV (upTo n) ((a:Int)+1-1).toNat)=_
   rw[show((a:Int)+1-1).toNat=a by omega,KH ha,E9]
   rfl
  have e2:yr (w.reverse++[(a:Int)+1]) (upTo n)=lV (yr w.reverse (upTo n)) a:=by
   unfold yr
   rw[foldl_append]
   show lV _ ((a:Int)+1-1).toNat=_
   rw[show((a:Int)+1-1).toNat=a by omega]
  rw[e1,e2]
  exact(ih.symm.step ha).symm
theorem Xp{n:Nat}{o s:List Int}(h:Iv n o s){a:Nat}(ha:a+1<n):ah o a≠ah o (a+1):=fun e=>by
 have:=h.symm.Yb (v:=a) (w:=a+1) (by omega) ha e
 omega
theorem Fb{n:Nat}{o s:List Int}(h:Iv n o s){a:Nat}(ha:a+1<n):yK (lV o a)=yK o+1/\ah o a<ah o (a+1)\/yK (lV o a)+1=yK o/\ah o (a+1)<ah o a:=by
 have e:=Af o a [] (by rw[h.lr];exact ha)
 have d:=Xp h ha
 unfold yK
 by_cases c:ah o a<ah o (a+1)
 ·rw[if_neg (by omega),if_pos c]at e
  exact .inl ⟨by omega,c⟩
 ·rw[if_pos (by omega),if_neg c]at e
  exact .inr ⟨by omega,by omega⟩
theorem xY{n:Nat}:∀(w o s z:List Int),Ps n w->Iv n o s->fW w o=some z->z=yr w o/\yK z=yK o+w.length
 |[],o,s,z,_,_,h=>by cases h;exact⟨rfl,rfl⟩
 |k::w,o,s,z,hw,hi,h=>by
  obtain⟨a,rfl,ha⟩:=hw k (by simp)
  rw[jM (n:=n)]at h
  split at h
  ·cases h
  ·rename_i hc
   obtain⟨e1,e2⟩:=xY w (lV o a) (JU s a) z (fun x hx=>hw x (by simp[hx])) (hi.symm.step ha).symm h
   have:=Fb hi ha
   refine⟨?_,by rw[e2,length_cons];omega⟩
   rw[e1]
   show _=yr w (lV o ((a:Int)+1-1).toNat)
   rw[show((a:Int)+1-1).toNat=a by omega]
theorem Ca{n:Nat}:∀(w o s:List Int),Ps n w->Iv n o s->yK (yr w o)<=yK o+w.length/\(yK (yr w o)=yK o+w.length->fW w o=some (yr w o))
 |[],o,s,_,_=>⟨le_refl _,fun _=>rfl⟩
 |k::w,o,s,hw,hi=>by
  obtain⟨a,rfl,ha⟩:=hw k (by simp)
  have e0:yr (((a:Int)+1)::w) o=yr w (lV o a):=by
   show yr w (lV o ((a:Int)+1-1).toNat)=_
   rw[show((a:Int)+1-1).toNat=a by omega]
  obtain⟨e1,e2⟩:=Ca w (lV o a) (JU s a) (fun x hx=>hw x (by simp[hx])) (hi.symm.step ha).symm
  rw[jM (n:=n),e0,length_cons]
  rcases Fb hi ha with⟨c1,c2⟩|⟨c1,c2⟩
  ·exact⟨by omega,fun h=>by rw[if_neg (by omega)];exact e2 (by omega)⟩
  ·exact⟨by omega,fun h=>by omega⟩
theorem KI{n:Nat}{w z:List Int}(hw:Ps n w)(h:fW w (upTo n)=some z):fW w.reverse (upTo n)=some (yr w.reverse (upTo n)):=by
 obtain⟨e1,e2⟩:=xY w _ _ z hw (B9 n) h
 refine(Ca w.reverse (upTo n) (upTo n) (fun k hk=>hw k (by simpa using hk)) (B9 n)).2 ?_
 rw[Sn (DA w hw),<-e1,e2,length_reverse]
theorem Fc{n:Nat}{w z:List Int}(hw:Ps n w)(h:fW w (upTo n)=some z):Iv n z (yr w.reverse (upTo n)):=by
 rw[(xY w _ _ z hw (B9 n) h).1]
 exact(DA w hw).symm
theorem zx:∀(w o:List Int)(k:Int),fW (w++[k]) o=(fW w o).bind fun z=>fW [k] z
 |[],o,k=>rfl
 |x::w,o,k=>by
  rw[cons_append]
  unfold fW
  split
  ·rfl
  ·exact zx w _ k
theorem Iv.nd {n:Nat}{r s:List Int}(h:Iv n r s):s.Nodup:=by
 unfold Nodup
 rw[List.pairwise_iff_getElem]
 intro i j hi hj hij e
 rw[h.ls]at hi hj
 have e2:ah s i=ah s j:=by
  unfold ah
  rw[getElem?_eq_getElem,getElem?_eq_getElem]
  ·exact e
 have:=h.Yb hi hj e2
 omega
theorem DB{n:Nat}{r s:List Int}(h:Iv n r s):dY n r:=by
 refine(List.perm_ext_iff_of_nodup h.symm.nd (xy n)).mpr fun x=>?_
 rw[mem_upTo]
 constructor
 ·intro hx
  obtain⟨p,hp,rfl⟩:=getElem_of_mem hx
  rw[h.lr]at hp
  have:=h.rs p hp
  rw[show ah r p=r[p]by
   unfold ah
   rw[getElem?_eq_getElem]
   rfl]at this
  exact⟨this.1,this.2.1⟩
 ·rintro⟨h0,h1⟩
  have:=(h.idx (v:=x.toNat) (by omega)).1
  rwa [show((x.toNat:Nat):Int)=x by omega]at this
def fl(n:Nat)(l:List Int):List Int:=l.map fun x=>(n:Int)-1-x
theorem KJ(n:Nat)(l:List Int):(fl n l).length=l.length:=length_map _
theorem Nu{n:Nat}{l:List Int}{p:Nat}(h:p<l.length):ah (fl n l) p=(n:Int)-1-ah l p:=by
 have:=dM h
 unfold fl
 conv=>lhs;unfold ah
 rw[getElem?_map,this]
 rfl
theorem Cb{l:List Int}{p:Nat}(h:p<l.length):ah l.reverse p=ah l (l.length-1-p):=by
 unfold ah
 rw[getElem?_reverse h]
theorem Qi(n:Nat):fl n (upTo n).reverse=upTo n:=by
 refine lU (by rw[KJ,length_reverse]) fun p hp=>?_
 rw[KJ,length_reverse,aV]at hp
 rw[Nu (by rw[length_reverse,aV];exact hp),Cb (by rw[aV];exact hp),aV,bR (by omega),bR hp]
 omega
theorem KN{n:Nat}{r:List Int}(h:dY n r):dY n (fl n r):=by
 have e:fl n (upTo n)=(upTo n).reverse:=by
  rw[<-Qi n]
  unfold fl
  rw[map_reverse,List.reverse_reverse,<-map_reverse]
  congr 1
  have:=Qi n
  unfold fl at this
  rw[this]
 exact(Perm.map _ h).trans (by
  show(fl n (upTo n)).Perm _
  rw[e]
  exact reverse_perm _)
theorem Nv{n:Nat}{r:List Int}(h:dY n r):dY n r.reverse:=(reverse_perm r).trans h
theorem kO(n:Nat)(hn:n<=7):cW [.int n]=.ok (aO (upTo n)):=by
 unfold cW xq
 simp -implicitDefEqProofs only [mS,mD,mF,cU,au,reduceAdd,reduceSub,reduceEqDiff,reduceIte,ai,aj,aG,aH,aI,aJ]
 rw[Gs _ (by omega),toNat_natCast,GV]
 simp -implicitDefEqProofs only [reduceIte,ai,aj,aG,aH,aI,aJ,jy]
theorem G5{n:Nat}{r s:List Int}(h:Iv n r s)(hn:n<=7):rW [.lst (aO r)]=.ok (aO (fl n s)):=by
 unfold rW EC
 simp -implicitDefEqProofs only [mS,mD,mF,cU,au,reduceAdd,reduceSub,reduceEqDiff,reduceIte,ai,aj,aG,aH,aI,aJ]
 rw[p6 h hn]
 simp -implicitDefEqProofs only [reduceIte,ai,aj,aG,aH,aI,aJ,eR]
 rw[qO (fun k=>(n:Int)-1-k) s fun k _=>⟨_,fJ _ _ _,rfl,by
  unfold xw eT
  simp -implicitDefEqProofs only [reduceIte,ai,aj,aG,aH,aI,aJ,cJ,h.lr]⟩]
 simp -implicitDefEqProofs only [reduceIte,ai,aj,aG,aH,aI,aJ,R.kZ]
 rw[iQ (by rw[length_map,h.ls];omega)]
 simp -implicitDefEqProofs only [reduceIte,ai,aj,aG,aH,aI,aJ,jy]
 rfl
theorem DC{n:Nat}{r:List Int}(h:r.length=n)(hn:n<=7):fQ [.lst (aO r)]=.ok (aO (fl n r.reverse)):=by
 unfold fQ qx
 simp -implicitDefEqProofs only [mS,mD,mF,cU,au,reduceAdd,reduceSub,reduceEqDiff,reduceIte,ai,aj,aG,aH,aI,aJ,Ej,eR]
 rw[qO (fun k=>(n:Int)-1-k) r.reverse fun k _=>⟨_,fJ _ _ _,rfl,by
  unfold lP eT
  simp -implicitDefEqProofs only [reduceIte,ai,aj,aG,aH,aI,aJ,cJ,h]⟩]
 simp -implicitDefEqProofs only [reduceIte,ai,aj,aG,aH,aI,aJ,R.kZ]
 rw[iQ (by rw[length_map,length_reverse];omega)]
 simp -implicitDefEqProofs only [reduceIte,ai,aj,aG,aH,aI,aJ,jy]
 rfl
theorem uE{b:D->DE->R Out}{x:D}{xs:List D}{e e':DE}(h:b x e=.ok (.nx e')):fq b (x::xs) e=fq b xs e':=by
 rw[fq,h];rfl
theorem uF(gs:List (List Int))(c:List Int):Br (gs++[c]) (.int (-1))=.ok (gs.length,c):=by
 have hk:qZ (gs++[c]).length (-1)=some gs.length:=by
  unfold L2.qZ
  rw[if_neg (by decide),length_append,length_singleton,if_pos (by omega)]
  congr 1
  omega
 have hg:(gs++[c])[gs.length]?=some c:=by simp
 unfold Br
 simp -implicitDefEqProofs only [hk,hg]
theorem Fd{ix:Nat}{env:DE}{nss:List (List Int)}{k:Nat}{l:List Int}{v:Int}(h:l.length<1000):C8 ix env nss (k,l) (.int v)=.ok (.nx (env.set ix (.deep (Ct.ls (nss.set k (l++[v])))))):=if_pos (lt_of_lt_of_le h (by decide))
theorem Fe{ix:Nat}{env:DE}{nss:List (List Int)}{ns:List Int}(h:nss.length<1000):Jq ix env nss ns=.ok (.nx (env.set ix (.deep (Ct.ls (nss++[ns]))))):=if_pos (lt_of_lt_of_le h (by decide))
theorem j7(nss:List (List Int))(r:DE):gw 0 (.deep (Ct.ls nss)::r)=.ok nss:=rfl
theorem j8(i:Nat)(a:Sl)(r:DE):gw (i+1) (a::r)=gw i r:=rfl
theorem KO(nss:List (List Int))(r:DE):br 0 (.deep (Ct.ls nss)::r)=.ok (.lst (nss.map fun ns=>.lst (aO ns))):=rfl
theorem SY{n:Nat}(hn:n<=7){o:List Int}(ho:o.length=n)(s0 s1 s3:Sl){a:Nat}(ha:a+1<n)(hc:¬ah o (a+1)<ah o a):kH (.int ((a:Int)+1)) [s0,s1,.own (aO o),s3]=.ok (.nx [s0,s1,.own (aO (lV o a)),.val (.int ((a:Int)+1))]):=by
 unfold kH
 have h0:¬(a:Int)+1<0:=by omega
 simp -implicitDefEqProofs only [fJ,mS,mD,mF,cU,au,reduceAdd,reduceSub,reduceEqDiff,reduceIte,ai,aj,aG,aH,aI,aJ,h0,decide_false]
 rw[iT (by omega) (by omega),iT (by omega) (by omega),show((a:Int)+1-1).toNat=a by omega,show((a:Int)+1).toNat=a+1 by omega]
 simp -implicitDefEqProofs only [reduceIte,ai,aj,aG,aH,aI,aJ,hc,decide_false]
 rw[uv (by omega) (by omega)]
 simp -implicitDefEqProofs only [reduceIte,ai,aj,aG,aH,aI,aJ]
theorem Ce{n:Nat}(hn:n<=7)(s0 s1:Sl):∀(w o z:List Int)(s3:Sl),Ps n w->o.length=n->fW w o=some z->∃s3',fq kH (aO w) [s0,s1,.own (aO o),s3]=.ok (.nx [s0,s1,.own (aO z),s3'])
 |[],o,z,s3,_,_,h=>by cases h;exact⟨s3,rfl⟩
 |k::w,o,z,s3,hv,ho,h=>by
  obtain⟨a,rfl,ha⟩:=hv k (by simp)
  rw[jM (n:=n)]at h
  split at h
  ·cases h
  ·rename_i hc
   rw[<-wQ,uE (SY hn ho s0 s1 s3 ha hc)]
   exact Ce hn s0 s1 w (lV o a) z _ (fun x hx=>hv x (by simp[hx])) (by rw[jB,ho]) h
theorem zy{n:Nat}(hn:n<=7){w z:List Int}(hv:Ps n w)(h:fW w (upTo n)=some z):lR [.int n,.lst (aO w)]=.ok (aO z):=by
 unfold lR BI
 simp -implicitDefEqProofs only [mS,mD,mF,cU,au,reduceAdd,reduceSub,reduceEqDiff,reduceIte,ai,aj,aG,aH,aI,aJ]
 rw[kO n hn]
 simp -implicitDefEqProofs only [reduceIte,ai,aj,aG,aH,aI,aJ]
 obtain⟨s3,e⟩:=Ce hn (.val (.int n)) (.val (.lst (aO w))) w (upTo n) z .no hv (aV n) h
 rw[e]
 simp -implicitDefEqProofs only [reduceIte,ai,aj,aG,aH,aI,aJ,jy]
def qF(l:List Int)(k:Int):List Int:=if l.getLast?=some (-k)then l.dropLast else l++[k]
def n9(s w:List Int):List Int:=w.foldl qF s
theorem KP(s a b:List Int):n9 s (a++b)=n9 (n9 s a) b:=foldl_append
theorem xZ:∀(w s:List Int),(n9 s w).length<=s.length+w.length
 |[],s=>by simp[n9]
 |k::w,s=>by
  have:=xZ w (qF s k)
  show(n9 (qF s k) w).length<=_
  have h2:(qF s k).length<=s.length+1:=by
   unfold qF
   split
   ·rw[List.length_dropLast];omega
   ·simp
  rw[length_cons];omega
theorem DD(l:List Int):iN l (-1)=l.getLast?:=by
 rw[List.getLast?_eq_getElem?]
 unfold L2.iN L2.qZ
 rw[if_neg (by decide)]
 cases l with
 |nil=>rfl
 |cons x r=>
  rw[if_pos (by simp;omega)]
  show(x::r)[(-1+((x::r).length:Int)).toNat]?=_
  congr 1
  simp;omega
theorem DF(w:List Int)(hw:w.length<=100000):lN [.lst (aO w)]=.ok (aO (n9 [] w)):=by
 unfold lN zf
 simp -implicitDefEqProofs only [mS,mD,mF,cU,au,reduceAdd,reduceSub,reduceEqDiff,reduceIte,ai,aj,aG,aH,aI,aJ]
 obtain⟨s',e,hj⟩:=oQ (S:=List Int×Sl) (b:=mU) (fun i s=>s.1=n9 [] (w.take i))
  (fun s=>[.val (.lst (aO w)),.own (aO s.1),s.2]) (aO w) 0 ([],.no) rfl (by
   rintro j ⟨l,s2⟩ x hs hx
   obtain⟨k,hk,rfl⟩:=Ey hx
   rw[zero_add]at hs⊢
   have GK:l=n9 [] (w.take j):=hs
   have Yc:=xZ (w.take j) []
   rw[<-GK,length_take]at Yc
   simp -implicitDefEqProofs only [length_nil]at Yc
   refine⟨(qF l k,.val (.int k)),?_,by show qF l k=_;rw[xg hk,KP,GK];rfl⟩
   unfold mU qF
   simp -implicitDefEqProofs only [fJ,reduceIte,ai,aj,aG,aH,aI,aJ,cJ]
   cases l with
   |nil=>
    simp -implicitDefEqProofs only [length_nil,reduceIte,ai,aj,aG,aH,aI,aJ,Int.natCast_zero,Int.lt_irrefl,decide_false,List.getLast?_nil]
    rw[zZ (by simp[aO])]
    rfl
   |cons y r=>
    have h0:(0:Int)<((y::r).length:Nat):=by simp
    generalize hyr:y::r=l at*
    simp -implicitDefEqProofs only [h0,decide_true,reduceIte,ai,aj,aG,aH,aI,aJ]
    rw[vQ,DD]
    cases hq:l.getLast? with
    |none=>rw[<-hyr]at hq;simp at hq
    |some z=>
     simp -implicitDefEqProofs only [map_some,reduceIte,ai,aj,aG,aH,aI,aJ]
     by_cases hz:z= -k
     ·have X1:(z== -k)=true:=by rw[beq_iff_eq];exact hz
      subst hz
      simp -implicitDefEqProofs only [beq_self_eq_true,reduceIte,ai,aj,aG,aH,aI,aJ]
      rw[Mv (by rw[cJ];omega)]
      simp -implicitDefEqProofs only [reduceIte,ai,aj,aG,aH,aI,aJ]
      show _=R.ok (Out.nx [_,Sl.own (aO l.dropLast),_])
      unfold aO
      rw[map_dropLast]
     ·have X1:(z== -k)=false:=beq_false_of_ne hz
      have hz2:¬(some z=some (-k)):=fun e=>hz (Option.some.inj e)
      simp -implicitDefEqProofs only [X1,reduceIte,ai,aj,aG,aH,aI,aJ]
      rw[zZ (by rw[cJ];omega),if_neg hz2]
      simp -implicitDefEqProofs only [reduceIte,ai,aj,aG,aH,aI,aJ]
      unfold aO
      rw[map_append]
      rfl)
 obtain⟨l,s2⟩:=s'
 rw[zero_add,cJ,take_length]at hj
 have Dj:l=n9 [] w:=hj
 dsimp only at e
 rw[show([]:List D)=aO []from rfl,e,Dj]
 simp -implicitDefEqProofs only [reduceIte,ai,aj,aG,aH,aI,aJ,jy]
theorem Cf:∀(w s:List Int),∀k∈n9 s w,k∈s\/k∈w
 |[],s,k,h=>.inl h
 |x::w,s,k,h=>by
  rcases Cf w (qF s x) k h with h|h
  ·unfold qF at h
   split at h
   ·exact .inl (mem_of_mem_take (by rw[dropLast_eq_take]at h;exact h))
   ·rcases mem_append.mp h with h|h
    ·exact .inl h
    ·exact .inr (by rw[mem_singleton.mp h];exact mem_cons_self)
  ·exact .inr (mem_cons_of_mem _ h)
abbrev Lx(k:Int):Int:=if k<0 then-k else k
theorem Qj{n:Nat}{k:Int}(h:rS n k):∃a:Nat,Lx k=(a:Int)+1/\a+1<n:=by
 unfold rS at h
 unfold Lx
 split
 ·exact⟨(-k-1).toNat,by omega,by omega⟩
 ·exact⟨(k-1).toNat,by omega,by omega⟩
theorem S2{n:Nat}{p:List Int}(h:∀k∈p,rS n k):Ps n (p.map Lx):=fun k hk=>by
 obtain⟨x,hx,rfl⟩:=mem_map.mp hk
 exact Qj (h x hx)
theorem KQ(a b:Bool):Hm (.bl a) (.bl b)=some (.bl (!(a==b))):=rfl
theorem Nx:Hq []=some []:=rfl
theorem Cg{α:Type}(l:List α)(x y:α):(l++[x]).set l.length y=l++[y]:=by simp
structure Gp(n:Nat)(p:List Int):Prop where
 ne:p≠[]
 x:∀k∈p,rS n k
 sg:(∀k∈p,0<k)\/∀k∈p,k<0
 le:∃z,fW (p.map Lx) (upTo n)=some z
structure S3(n i:Nat)(oB:List (List Int))(o:List Int)(s:Bool):Prop where
 len:oB.length<=i
 lo:o.length=n
 good:∀p∈oB,Gp n p/\p.length<=i
 last:oB=[]\/∃ini cur,oB=ini++[cur]/\(∀k∈cur,s=decide (0<k))/\fW (cur.map Lx) (upTo n)=some o
theorem we{i:Nat}{env:DE}{a v:Int}{l:List Int}(h:0<=a)(h2:a<l.length):Bm i env (.int v) (aO l) (.int a)=.ok (.nx (env.set i (.own (aO (l.set a.toNat v))))):=by
 rw[Bo h (by rw[cJ];exact h2)]
 unfold aO
 rw[map_set]
theorem Ff{l:List Int}{a:Nat}(h:a+1<l.length):(l.set (a+1) (ah l a)).set a (ah l (a+1))=lV l a:=by
 refine lU (by rw[length_set,length_set,jB]) fun j hj=>?_
 rw[length_set,length_set]at hj
 rw[xA (by rw[length_set];exact hj),xA hj,ph _ _ h]
 repeat' split
 all_goals first|rfl|omega|(subst_vars;rfl)
theorem S4{n i:Nat}(hn:n<=7)(hi:i<100){oB:List (List Int)}{o:List Int}{s:Bool}(J:S3 n i oB o s){k:Int}(hk:rS n k)(s1 s5 s6 s7:Sl):
  ∃Xq o' s' t5 t6 t7,oY (.int k) [.val (.int n),s1,.deep (.ls oB),.own (aO o),.val (.bl s),s5,s6,s7]=.ok (.nx [.val (.int n),s1,.deep (.ls Xq),.own (aO o'),.val (.bl s'),t5,t6,t7])/\S3 n (i+1) Xq o' s':=by
 obtain⟨a,ea,ha⟩:=Qj hk
 have lo:=J.lo
 have hlen:=J.len
 have at1:iN (aO o) ((a:Int)+1-1)=some (.int (ah o a)):=by rw[iT (by omega) (by omega),show((a:Int)+1-1).toNat=a by omega]
 have at2:iN (aO o) ((a:Int)+1)=some (.int (ah o (a+1))):=by rw[iT (by omega) (by omega),show((a:Int)+1).toNat=a+1 by omega]
 have ku:iN (aO (upTo n)) ((a:Int)+1-1)=some (.int (ah (upTo n) a)):=by rw[iT (by omega) (by rw[aV];omega),show((a:Int)+1-1).toNat=a by omega]
 have ku2:iN (aO (upTo n)) ((a:Int)+1)=some (.int (ah (upTo n) (a+1))):=by rw[iT (by omega) (by rw[aV];omega),show((a:Int)+1).toNat=a+1 by omega]
 have hgk:Gp n [k]:=⟨by simp,fun x hx=>by rw[mem_singleton.mp hx];exact hk,by
  unfold rS at hk
  by_cases c:0<k
  ·exact .inl fun x hx=>by rw[mem_singleton.mp hx];exact c
  ·exact .inr fun x hx=>by rw[mem_singleton.mp hx];omega,⟨lV (upTo n) a,by
   show fW [Lx k] (upTo n)=_
   rw[ea,jM (n:=n),if_neg (by rw[bR (by omega),bR (by omega)];omega)]
   rfl⟩⟩
 have hkl:fW [Lx k] (upTo n)=some (lV (upTo n) a):=by
  rw[ea,jM (n:=n),if_neg (by rw[bR (by omega),bR (by omega)];omega)]
  rfl
 by_cases hnew:oB=[]\/s≠decide (0<k)\/ah o (a+1)<ah o a
 ·refine⟨oB++[[k]],lV (upTo n) a,decide (0<k),.val (.int k),.val (.int ((a:Int)+1)),.val (.int (ah (upTo n) (a+1))),?_,⟨by simp;omega,by rw[jB,aV],fun p hp=>?_,.inr ⟨oB,[k],rfl,fun x hx=>by rw[mem_singleton.mp hx],hkl⟩⟩⟩
  ·have KR:(if(((oB.length:Nat):Int)==0)=true then R.ok true else if(!(s==decide (0<k)))=true then R.ok true else R.ok (decide (ah o (a+1)<ah o a)):R Bool)=.ok true:=by
    rcases hnew with h|h|h
    ·rw[if_pos (by rw[h];rfl)]
    ·split
     ·rfl
     ·rw[if_pos (by simpa using h)]
    ·rw[decide_eq_true h]
     repeat' split
     all_goals rfl
   unfold oY
   simp -implicitDefEqProofs only [fJ,mS,mD,mF,cU,au,reduceAdd,reduceSub,reduceEqDiff,reduceIte,ai,aj,aG,aH,aI,aJ,KO,KQ,ea,at1,at2,length_map,KR,j7,j8,Nx]
   rw[Fe (by omega)]
   simp -implicitDefEqProofs only [reduceIte,ai,aj,aG,aH,aI,aJ,j7,j8,uF]
   rw[kO n hn]
   simp -implicitDefEqProofs only [reduceIte,ai,aj,aG,aH,aI,aJ,j7,j8,uF]
   rw[Fd (by simp)]
   simp -implicitDefEqProofs only [reduceIte,ai,aj,aG,aH,aI,aJ,ku,ku2]
   rw[we (by omega) (by rw[aV];omega)]
   simp -implicitDefEqProofs only [reduceIte,ai,aj,aG,aH,aI,aJ]
   rw[we (by omega) (by rw[length_set,aV];omega)]
   simp -implicitDefEqProofs only [reduceIte,ai,aj,aG,aH,aI,aJ]
   rw[show((a:Int)+1).toNat=a+1 by omega,show((a:Int)+1-1).toNat=a by omega,Ff (by rw[aV];omega),Cg]
  ·rcases mem_append.mp hp with h|h
   ·exact⟨(J.good p h).1,by have:=(J.good p h).2;omega⟩
   ·rw[mem_singleton.mp h]
    exact⟨hgk,by simp⟩
 ·have h1:oB≠[]:=fun z=>hnew (.inl z)
  have h2:s=decide (0<k):=Classical.byContradiction fun z=>hnew (.inr (.inl z))
  have h3:¬ah o (a+1)<ah o a:=fun z=>hnew (.inr (.inr z))
  obtain⟨ini,cur,rfl,hs,hl⟩:=J.last.resolve_left h1
  obtain⟨gc,gl⟩:=J.good cur (by simp)
  have Xr:fW ((cur++[k]).map Lx) (upTo n)=some (lV o a):=by
   rw[map_append,map_cons,map_nil,zx,hl,ea]
   show fW [(a:Int)+1] o=_
   rw[jM (n:=n),if_neg h3]
   rfl
  refine⟨ini++[cur++[k]],lV o a,s,.val (.int k),.val (.int ((a:Int)+1)),.val (.int (ah o (a+1))),?_,⟨by simp at hlen⊢;omega,by rw[jB,lo],fun p hp=>?_,.inr ⟨ini,cur++[k],rfl,fun x hx=>?_,Xr⟩⟩⟩
  ·have KR:(if((((ini++[cur]).length:Nat):Int)==0)=true then R.ok true else if(!(s==decide (0<k)))=true then R.ok true else R.ok (decide (ah o (a+1)<ah o a)):R Bool)=.ok false:=by
    rw[if_neg (by simp;omega),h2,if_neg (by simp),decide_eq_false h3]
   unfold oY
   simp -implicitDefEqProofs only [fJ,reduceIte,ai,aj,aG,aH,aI,aJ,KO,KQ,ea,at1,at2,length_map,KR,j7,j8,uF]
   rw[Fd (by omega)]
   simp -implicitDefEqProofs only [reduceIte,ai,aj,aG,aH,aI,aJ,at1,at2]
   rw[we (by omega) (by omega)]
   simp -implicitDefEqProofs only [reduceIte,ai,aj,aG,aH,aI,aJ]
   rw[we (by omega) (by rw[length_set];omega)]
   simp -implicitDefEqProofs only [reduceIte,ai,aj,aG,aH,aI,aJ]
   rw[show((a:Int)+1).toNat=a+1 by omega,show((a:Int)+1-1).toNat=a by omega,Ff (by omega),Cg]
  ·rcases mem_append.mp hp with h|h
   ·exact⟨(J.good p (by simp[h])).1,by have:=(J.good p (by simp[h])).2;omega⟩
   ·rw[mem_singleton.mp h]
    refine⟨⟨by simp,fun x hx=>?_,?_,⟨_,Xr⟩⟩,by rw[length_append,length_singleton];omega⟩
    ·rcases mem_append.mp hx with q|q
     ·exact gc.x x q
     ·rw[mem_singleton.mp q];exact hk
    ·have Zm:=hk
     unfold rS at Zm
     by_cases c:0<k
     ·refine .inl fun x hx=>?_
      rcases mem_append.mp hx with q|q
      ·have:=hs x q
       rw[h2,decide_eq_true c]at this
       exact of_decide_eq_true this.symm
      ·rw[mem_singleton.mp q];exact c
     ·refine .inr fun x hx=>?_
      rcases mem_append.mp hx with q|q
      ·have:=hs x q
       rw[h2,decide_eq_false c]at this
       have:=of_decide_eq_false this.symm
       have:=(gc.x x q).1
       omega
      ·rw[mem_singleton.mp q];omega
  ·rcases mem_append.mp hx with q|q
   ·exact hs x q
   ·rw[mem_singleton.mp q];exact h2
theorem S5{n:Nat}(hn:n<=7){w:List Int}(hw:∀k∈w,rS n k)(hl:w.length<=100):∃oB,BJ [.int n,.lst (aO w)]=.ok oB/\oB.length<=w.length/\∀p∈oB,Gp n p/\p.length<=w.length:=by
 unfold BJ PH mT
 simp -implicitDefEqProofs only [mS,mD,mF,cU,au,reduceAdd,reduceSub,reduceEqDiff,reduceIte,ai,aj,aG,aH,aI,aJ]
 rw[kO n hn]
 simp -implicitDefEqProofs only [reduceIte,ai,aj,aG,aH,aI,aJ]
 obtain⟨⟨oB,o,s,t5,t6,t7⟩,e,hj⟩:=oQ (S:=List (List Int)×List Int×Bool×Sl×Sl×Sl) (b:=oY) (fun i q=>S3 n i q.1 q.2.1 q.2.2.1)
  (fun q=>[.val (.int n),.val (.lst (aO w)),.deep (.ls q.1),.own (aO q.2.1),.val (.bl q.2.2.1),q.2.2.2.1,q.2.2.2.2.1,q.2.2.2.2.2]) (aO w) 0 ([],upTo n,false,.no,.no,.no)
  ⟨le_refl _,aV n,(fun p hp=>nomatch hp),.inl rfl⟩ (by
   rintro j ⟨oB,o,s,t5,t6,t7⟩ x hs hx
   obtain⟨k,hk,rfl⟩:=Ey hx
   have Lv:j<w.length:=(List.getElem?_eq_some_iff.mp hk).1
   obtain⟨p1,o1,s1,u5,u6,u7,e,hJ⟩:=S4 hn (show 0+j<100 by omega) hs (hw k (mem_of_getElem? hk)) (.val (.lst (aO w))) t5 t6 t7
   exact⟨(p1,o1,s1,u5,u6,u7),e,hJ⟩)
 dsimp only at e hj
 rw[e]
 rw[zero_add,cJ]at hj
 simp -implicitDefEqProofs only [reduceIte,ai,aj,aG,aH,aI,aJ,j7,j8,Jp]
 exact⟨oB,rfl,hj.len,hj.good⟩
theorem G6(w:List Int)(hw:w.length<=1000):oX [.lst (aO w)]=.ok (aO (w.reverse.map fun k=> -k)):=by
 unfold oX BG
 simp -implicitDefEqProofs only [mS,mD,mF,cU,au,reduceAdd,reduceSub,reduceEqDiff,reduceIte,ai,aj,aG,aH,aI,aJ,Ej,eR]
 rw[qO (fun k=> -k) w.reverse fun k _=>⟨_,fJ _ _ _,rfl,rfl⟩]
 simp -implicitDefEqProofs only [reduceIte,ai,aj,aG,aH,aI,aJ,R.kZ]
 rw[iQ (by rw[length_map,length_reverse];omega)]
 simp -implicitDefEqProofs only [reduceIte,ai,aj,aG,aH,aI,aJ,jy]
def DG(q:Int×List Int):D:=.tup [.int q.1,.lst (aO q.2)]
structure Xs(n:Nat)(q:Int×List Int):Prop where
 h:q.1=0\/q.1= -1
 r:dY n q.2
theorem Ny{n:Nat}(hn:n<=7){p:List Int}(g:Gp n p)(hl:p.length<=1000):∃q,lT [.int n,.lst (aO p)]=.ok (DG q)/\Xs n q:=by
 obtain⟨k0,p',rfl⟩:=List.exists_cons_of_ne_nil g.ne
 obtain⟨z,hz⟩:=g.le
 have hp:=S2 g.x
 have YC:iN (aO (k0::p')) 0=some (.int k0):=by rw[vQ,z0 (by decide)];rfl
 unfold lT zj
 simp -implicitDefEqProofs only [mS,mD,mF,cU,au,reduceAdd,reduceSub,reduceEqDiff,reduceIte,ai,aj,aG,aH,aI,aJ,YC]
 rcases g.sg with hs|hs
 ·have e:(k0::p').map Lx=k0::p':=by
   conv=>rhs;rw[<-map_id (k0::p')]
   refine map_congr_left fun x hx=>?_
   have:=hs x hx
   show(if x<0 then-x else x)=x
   rw[if_neg (by omega)]
  rw[e]at hp hz
  simp -implicitDefEqProofs only [mS,mD,mF,cU,au,reduceAdd,reduceSub,reduceEqDiff,reduceIte,ai,aj,aG,aH,aI,aJ,decide_eq_true (hs k0 (by simp)),zy hn hp hz]
  exact⟨(0,z),rfl,⟨.inl rfl,DB (Fc hp hz)⟩⟩
 ·have e:(k0::p').map Lx=(k0::p').map fun k=> -k:=map_congr_left fun x hx=>by
   have:=hs x hx
   show(if x<0 then-x else x)= -x
   rw[if_pos this]
  rw[e]at hp hz
  have hk0:=hs k0 (by simp)
  have hr:=KI hp hz
  rw[<-map_reverse]at hr
  have XT:Ps n ((k0::p').reverse.map fun k=> -k):=fun x hx=>hp x (by
   rw[map_reverse,mem_reverse]at hx
   exact hx)
  simp -implicitDefEqProofs only [mS,mD,mF,cU,au,reduceAdd,reduceSub,reduceEqDiff,reduceIte,ai,aj,aG,aH,aI,aJ,decide_eq_false (show¬0<k0 by omega),G6 _ hl,zy hn XT hr]
  have iv:=Fc XT hr
  unfold iS qA
  simp -implicitDefEqProofs only [mS,mD,mF,cU,au,reduceAdd,reduceSub,reduceEqDiff,reduceIte,ai,aj,aG,aH,aI,aJ,G5 iv hn]
  exact⟨(-1,_),rfl,⟨.inr rfl,KN (DB iv.symm)⟩⟩
theorem x8{n:Nat}(hn:n<=7):∀(ps:List (List Int)),(∀p∈ps,Gp n p/\p.length<=1000)->∃qs:List (Int×List Int),bh (bN 0) gx cj (eT 1 [.int n]) (ps.map fun ns=>D.lst (ns.map D.int))=.ok (qs.map DG)/\qs.length=ps.length/\∀q∈qs,Xs n q
 |[],_=>⟨[],rfl,rfl,fun q hq=>nomatch hq⟩
 |p::ps,h=>by
  obtain⟨qs,e1,e2,e3⟩:=x8 hn ps fun x hx=>h x (by simp[hx])
  obtain⟨q,e4,e5⟩:=Ny hn (h p (by simp)).1 (h p (by simp)).2
  refine⟨q::qs,?_,by rw[length_cons,length_cons,e2],fun x hx=>?_⟩
  ·rw[map_cons]
   unfold bh
   rw[e1]
   have e6:cj [.val (.lst (aO p)),.val (.int n)]=.ok (DG q):=by
    unfold cj
    simp -implicitDefEqProofs only [mS,mD,mF,cU,au,reduceAdd,reduceSub,reduceEqDiff,reduceIte,ai,aj,aG,aH,aI,aJ,e4]
   rw[fJ,R.aM,show gx _=.ok true from rfl,R.aM,if_pos rfl]
   have e7:cj (List.set (eT 1 [.int n]) 0 (.val (.lst (p.map D.int))))=.ok (DG q):=e6
   rw[e7]
   rfl
  ·rcases mem_cons.mp hx with rfl|hx
   ·exact e5
   ·exact e3 x hx
theorem KS{n:Nat}(hn:n<=7){w:List Int}(hw:∀k∈w,rS n k)(hl:w.length<=40):∃qs:List (Int×List Int),dJ [.int n,.lst (aO w)]=.ok (.lst (qs.map DG))/\qs.length<=40/\∀q∈qs,Xs n q:=by
 have CB:=xZ w []
 simp -implicitDefEqProofs only [length_nil]at CB
 obtain⟨oB,e1,e2,e3⟩:=S5 hn (w:=n9 [] w) (fun k hk=>by
  rcases Cf w [] k hk with h|h
  ·cases h
  ·exact hw k h) (by omega)
 obtain⟨qs,e4,e5,e6⟩:=x8 hn oB fun p hp=>⟨(e3 p hp).1,by have:=(e3 p hp).2;omega⟩
 refine⟨qs,?_,by omega,e6⟩
 unfold dJ nR
 simp -implicitDefEqProofs only [mS,mD,mF,cU,au,reduceAdd,reduceSub,reduceEqDiff,reduceIte,ai,aj,aG,aH,aI,aJ,DF w (by omega),e1,R.kZ,eR,e4]
 rw[iw (by rw[length_map];exact big (by omega))]
 simp -implicitDefEqProofs only [reduceIte,ai,aj,aG,aH,aI,aJ]
theorem Nz{n:Nat}(hn:n<=7)(h:Int){r:List Int}(hr:dY n r):∃r',fR [.int h,.lst (aO r)]=.ok (aO r')/\dY n r':=by
 unfold fR qz
 simp -implicitDefEqProofs only [mS,mD,mF,cU,au,reduceAdd,reduceSub,reduceEqDiff,reduceIte,ai,aj,aG,aH,aI,aJ]
 rw[gQ _ _ (by decide)]
 simp -implicitDefEqProofs only [reduceIte,ai,aj,aG,aH,aI,aJ]
 by_cases c:h%2=0
 ·simp -implicitDefEqProofs only [reduceIte,ai,aj,aG,aH,aI,aJ,show(h%2==0)=true by rw[beq_iff_eq];exact c,jy]
  exact⟨r,rfl,hr⟩
 ·simp -implicitDefEqProofs only [reduceIte,ai,aj,aG,aH,aI,aJ,show(h%2==0)=false by rw[beq_eq_false_iff_ne];exact c,DC hr.len hn,jy]
  exact⟨_,rfl,KN (Nv hr)⟩
theorem NB{n:Nat}(hn:n<=7){qs:List (Int×List Int)}(hq:∀q∈qs,Xs n q)(hl:qs.length<=100):∃rs,bf [.lst (qs.map DG)]=.ok rs/\rs.length=qs.length/\∀r∈rs,dY n r:=by
 unfold bf jg mT
 simp -implicitDefEqProofs only [mS,mD,mF,cU,au,reduceAdd,reduceSub,reduceEqDiff,reduceIte,ai,aj,aG,aH,aI,aJ]
 obtain⟨⟨rs,h,t3⟩,e,hj⟩:=oQ (S:=List (List Int)×Int×Sl) (b:=dw) (fun i q=>q.1.length=i/\∀r∈q.1,dY n r)
  (fun q=>[.val (.lst (qs.map DG)),.deep (.ls q.1),.val (.int q.2.1),q.2.2]) (qs.map DG).reverse 0 ([],0,.no) ⟨rfl,fun r hr=>nomatch hr⟩ (by
   rintro j ⟨rs,h,t3⟩ x ⟨hs1,hs2⟩ hx
   dsimp only at hs1 hs2
   have Lv:j<(qs.map DG).reverse.length:=(List.getElem?_eq_some_iff.mp hx).1
   rw[length_reverse,length_map]at Lv
   have hxm:=mem_of_getElem? hx
   rw[mem_reverse]at hxm
   obtain⟨⟨hh,r⟩,hqm,rfl⟩:=mem_map.mp hxm
   obtain⟨r',e1,e2⟩:=Nz hn h (hq _ hqm).r
   refine⟨(rs++[r'],h+hh,.val (DG (hh,r))),?_,by rw[length_append,hs1];rfl,fun y hy=>?_⟩
   ·unfold dw
    have a1:iN [D.int hh,.lst (aO r)] 1=some (.lst (aO r)):=rfl
    have a0:iN [D.int hh,.lst (aO r)] 0=some (.int hh):=rfl
    simp -implicitDefEqProofs only [fJ,reduceIte,ai,aj,aG,aH,aI,aJ,DG,j7,j8,a1,a0,e1,IZ]
    rw[Fe (by omega)]
    simp -implicitDefEqProofs only [reduceIte,ai,aj,aG,aH,aI,aJ,a0,Gv]
   ·rcases mem_append.mp hy with z|z
    ·exact hs2 y z
    ·rw[mem_singleton.mp z];exact e2)
 dsimp only at e hj
 rw[e]
 rw[zero_add,length_reverse,length_map]at hj
 simp -implicitDefEqProofs only [reduceIte,ai,aj,aG,aH,aI,aJ,j7,j8,Jp]
 exact⟨rs.reverse,rfl,by rw[length_reverse,hj.1],fun r hr=>hj.2 r (by rw[mem_reverse]at hr;exact hr)⟩
theorem KU{n:Nat}:∀(R:List RP)(p:RP),(∀x∈R,Iv n x.1 x.2)->Iv n p.1 p.2->∀x∈Lp R p,Iv n x.1 x.2
 |[],p,_,hp,x,hx=>by rw[mem_singleton.mp hx];exact hp
 |r::R,p,hR,hp,x,hx=>by
  obtain⟨i1,i2⟩:=iA.Kd 50 (hR r (by simp)) hp
  unfold Lp at hx
  split at hx
  ·rcases mem_cons.mp hx with rfl|hx
   ·exact hp
   ·exact hR x hx
  ·rcases mem_cons.mp hx with rfl|hx
   ·exact i2
   ·exact KU R _ (fun y hy=>hR y (by simp[hy])) i1 x hx
theorem ND{n:Nat}{R:List RP}{p:RP}(hR:∀x∈R,Iv n x.1 x.2)(hp:Iv n p.1 p.2):∀x∈mV n R p,Iv n x.1 x.2:=fun x hx=>by
 refine KU R.reverse p (fun y hy=>hR y (by simpa using hy)) hp x ?_
 unfold mV at hx
 split at hx
 ·rw[dropLast_eq_take]at hx
  have:=mem_of_mem_take hx
  unfold Kc at this
  simpa using this
 ·unfold Kc at hx
  simpa using hx
theorem Fi{n:Nat}:∀(rs:List (List Int))(R:List RP),(∀r∈rs,dY n r)->(∀x∈R,Iv n x.1 x.2)->∀x∈rs.foldl (fun R r=>mV n R (r,EO r)) R,Iv n x.1 x.2
 |[],R,_,h=>h
 |r::rs,R,hr,h=>Fi rs _ (fun x hx=>hr x (by simp[hx])) (ND h (Kj (hr r (by simp))))
theorem KW{n:Nat}:∀(qs:List (Int×List Int)),(∀q∈qs,Xs n q)-> -(qs.length:Int)<=(qs.map (·.1)).sum/\(qs.map (·.1)).sum<=0
 |[],_=>by simp
 |q::qs,h=>by
  have ih:=KW qs fun x hx=>h x (by simp[hx])
  have:=(h q (by simp)).h
  rw[map_cons,sum_cons,length_cons]
  omega
theorem KY(qs:List (Int×List Int)):bh (bN 0) jX jY (eT 1 []) (qs.map DG)=.ok (aO (qs.map (·.1))):=by
 rw[pX (fun d=>match d with
  |.tup (x::_)=>x
  |_=>.non) _ fun x hx=>by
   obtain⟨q,hq,rfl⟩:=mem_map.mp hx
   exact⟨_,fJ _ _ _,rfl,rfl⟩]
 unfold aO
 rw[map_map,map_map]
 rfl
structure FmO(n:Nat)(h:Int)(rs:List (List Int)):Prop where
 h: -1000<h/\h<1000
 l:rs.length<=40
 r:∀r∈rs,r.length=n/\∀x∈r,0<=x/\x<n
theorem NF{n:Nat}(h1:1<=n)(hn:n<=7){w:List Int}(hw:∀k∈w,rS n k)(hl:w.length<=40):∃h rs,pB [.int n,.lst (aO w)]=.ok (.tup [.int h,.lst (rs.map fun r=>.lst (aO r))])/\FmO n h rs:=by
 obtain⟨qs,e1,e2,e3⟩:=KS hn hw hl
 obtain⟨rs,e4,e5,e6⟩:=NB hn e3 (by omega)
 have hiv:=Fi rs [] e6 fun x hx=>nomatch hx
 have hcl:=se n rs []
 have hsb:=KW qs e3
 have hcn:yN n (gA n rs)<=(gA n rs).length:=List.Sublist.length_le (List.takeWhile_sublist _)
 rw[length_nil]at hcl
 have SX:(gA n rs).length<=40:=by
  show(rs.foldl (fun R r=>mV n R (r,EO r)) []).length<=40
  omega
 refine⟨yN n (gA n rs)+(qs.map (·.1)).sum,((gA n rs).drop (yN n (gA n rs))).map (·.1),?_,⟨by omega,by rw[length_map,length_drop];omega,fun r hr=>?_⟩⟩
 ·unfold pB Km
  simp -implicitDefEqProofs only [mS,mD,mF,cU,au,reduceAdd,reduceSub,reduceEqDiff,reduceIte,ai,aj,aG,aH,aI,aJ,e1]
  have e7:dN [.int n,.lst (qs.map DG)]=R.ne (R.bind (ER [.val (.int n),.val (.lst (qs.map DG)),.no,.no,.val (uZ n (gA n rs))]) ai):=by
   show R.ne (R.bind (bf [.lst (qs.map DG)]) _)=_
   rw[e4,R.aM]
   exact congrArg R.ne ((if_pos ⟨⟨by omega,by omega⟩,by omega,e6⟩).trans rfl)
  rw[e7]
  unfold ER uZ
  have a0:∀(x y:D),iN [x,y] 0=some x:=fun _ _=>rfl
  have a1:∀(x y:D),iN [x,y] 1=some y:=fun _ _=>rfl
  simp -implicitDefEqProofs only [reduceIte,ai,aj,aG,aH,aI,aJ,a0,a1,eR,KY,R.kZ]
  rw[iQ (by rw[length_map];omega)]
  simp -implicitDefEqProofs only [reduceIte,ai,aj,aG,aH,aI,aJ,Em,IZ,map_some]
  rw[map_map]
  rfl
 ·obtain⟨x,hx,rfl⟩:=mem_map.mp hr
  have iv:=hiv x (List.mem_of_mem_drop hx)
  have ir:=DB iv
  exact⟨ir.len,fun y hy=>ir.mem.mp hy⟩
theorem aQ(c:Str)(k:DE->R Out):aX (.err c) k=.err c:=rfl
def bF(k:Int):Str:=(toString k:String)
def KZ(k:Int):Bool:=decide ((bF k).length<=2)&&decide (tl (bF k)≠[])&&decide (32∉tl (bF k))&&decide (58∉tl (bF k))
 &&(if 1<=k then decide (KTD.datumAt (bF k) bc=some k)&& !Txt.startswith (bF k) "-" else true)
 &&(if k<= -1 then decide (KTD.datumAt (Txt.slice (bF k) (some 1) none) bc=some (-k))&&Txt.startswith (bF k) "-" else true)
 &&decide (tl (bF k)=if k<0 then[45,(48-k).toNat]else[(48+k).toNat])
theorem NG:∀i:Nat,i<19->KZ ((i:Int)-9)=true:=by decide +kernel
theorem Aq{k:Int}(h: -9<=k/\k<=9):KZ k=true:=by
 have:=NG (k+9).toNat (by omega)
 rw[show(((k+9).toNat:Nat):Int)-9=k by omega]at this
 exact this
theorem bq{k:Int}(h: -9<=k/\k<=9):(bF k).length<=2/\tl (bF k)≠[]/\32∉tl (bF k)/\58∉tl (bF k)/\tl (bF k)=if k<0 then[45,(48-k).toNat]else[(48+k).toNat]:=by
 have:=Aq h
 unfold KZ at this
 simp -implicitDefEqProofs only [and_eq_true,decide_eq_true_eq]at this
 exact⟨this.1.1.1.1.1.1,this.1.1.1.1.1.2,this.1.1.1.1.2,this.1.1.1.2,this.2⟩
theorem NH{k:Int}(h:1<=k/\k<=9):KTD.datumAt (bF k) bc=some k/\Txt.startswith (bF k) "-"=false:=by
 have:=Aq (k:=k) (by omega)
 unfold KZ at this
 rw[if_pos h.1]at this
 simp -implicitDefEqProofs only [and_eq_true,decide_eq_true_eq,not_eq_true']at this
 exact this.1.1.2
theorem NI{k:Int}(h: -9<=k/\k<= -1):KTD.datumAt (Txt.slice (bF k) (some 1) none) bc=some (-k)/\Txt.startswith (bF k) "-"=true:=by
 have:=Aq (k:=k) (by omega)
 unfold KZ at this
 rw[if_pos h.2]at this
 simp -implicitDefEqProofs only [and_eq_true,decide_eq_true_eq]at this
 exact this.1.2
theorem sY{i:Int}(h: -1000<i/\i<1000):oR [.int i]=some (.str (bF i)):=by
 have:i.natAbs.log2<1920:=Nat.lt_of_le_of_lt (Nat.log2_le_self _) (by omega)
 exact if_pos this
theorem dh(x:Str):cB (.str x)=.ok x:=rfl
theorem NJ(i:Int):Bs (.int i)=.ok i:=rfl
theorem dF{i j:Str}(h:i.length+j.length<=1000000):dC (.str i) (.str j)=some (.str (i++j)):=if_pos (big h)
theorem Fj{i:Str}{n:Int}(h1: -1000<n)(h2:n<1000)(h3:i.length<=10):Bt (.str i) (.int n)=some (.str (lK i n)):=if_pos ⟨by omega,by omega,by omega,big (by
 have:i.length*n.toNat<=10*1000:=Nat.mul_le_mul h3 (by omega)
 omega)⟩
theorem Ci{i j:Str}(h:i.length<=1000000):z7 i (.str j)=some (.str (Txt.stripChars i j)):=if_pos (big h)
theorem sZ{sep:Str}{ys:List Str}(h:(map (fun y=>Str.length y) ys).sum+ys.length*sep.length<=16777216):rO sep (ys.map D.str)=some (.str (Txt.join sep ys)):=by
 unfold rO
 rw[RO]
 exact if_pos h
theorem K0{i:Str}{c:Nat}(h:i.length<=100000):wX i ⟨#[c]⟩=some ((tU c (tl i)).map fun p=>D.str (ofT p)):=by
 have hl:(Txt.split i ⟨#[c]⟩).length<=1000000:=by
  rw[By,length_map]
  have:=vV c (tl i)
  rw[bz]at this
  omega
 refine(if_pos ⟨rfl,big (by omega),big hl⟩).trans ?_
 rw[By,map_map]
 rfl
theorem Fl{i:Str}{c:Nat}(h:i.length<=1000000):Er i ⟨#[c]⟩=some (.tup [.str (Txt.partition i ⟨#[c]⟩).1,.str (Txt.partition i ⟨#[c]⟩).2.1,.str (Txt.partition i ⟨#[c]⟩).2.2]):=if_pos ⟨rfl,big h⟩
theorem S6{x:Str}(h:x.length<=1000000)(l u:Option Int):MI (.str x) l u=some (.str (Txt.slice x l u)):=if_pos (big h)
def body(ps:List (Nat×Int)):List Nat:=(ps.map fun p=>replicate (p.1+1) 32++tl (bF p.2)).flatten
def Fg(w:List Int):Prop:=∀k∈w,-9<=k/\k<=9
theorem eI(a b:Str):(a++b).length=a.length+b.length:=strLen_append a b
theorem x9{B:Nat}:∀(ys:List Str),(∀y∈ys,y.length<=B)->(map (fun y=>Str.length y) ys).sum<=ys.length*B
 |[],_=>by simp
 |y::ys,h=>by
  have ih:=x9 ys fun z hz=>h z (by simp[hz])
  have:=h y (by simp)
  rw[map_cons,sum_cons,length_cons,succ_mul]
  omega
theorem NK{b:D->DE->R Out}{x:D}{xs:List D}{e:DE}{c:Str}(h:b x e=.err c):fq b (x::xs) e=.err c:=by
 rw[fq,h];rfl
theorem Qk{ms cs:List Str}{n:Str}{b:Bool}(h:n∈ms)(hb:cs.any (ou · n)=b):Pq ms cs (.exc n)=.ok (.bl b):=by
 rw[<-hb];exact if_pos h
def uG(n k:Int):Bool:= !(k==0)&&decide ((if k<0 then-k else k)<n)
theorem Cj(n k:Int):uG n k=true↔rS n k:=by
 unfold uG rS
 simp -implicitDefEqProofs only [and_eq_true,not_eq_true',beq_eq_false_iff_ne,decide_eq_true_eq]
 constructor
 ·rintro⟨h1,h2⟩
  refine⟨h1,?_⟩
  split at h2<;>omega
 ·rintro⟨h1,h2⟩
  refine⟨h1,?_⟩
  split<;>omega
def kP(n:Int)(w:List Int):Bool:=decide (1<=n)&&decide (n<=7)&&w.all (uG n)
theorem G7(n k:Int):fO [.int n,.int k]=.ok (.bl (uG n k)):=by
 unfold fO qw uG
 simp -implicitDefEqProofs only [mS,mD,mF,cU,au,reduceAdd,reduceSub,reduceEqDiff,reduceIte,ai,aj,aG,aH,aI,aJ]
 cases h:(k==0)with
 |false=>simp -implicitDefEqProofs only [reduceIte,ai,aj,aG,aH,aI,aJ,Bool.not_false,Bool.true_and]
 |true=>simp -implicitDefEqProofs only [reduceIte,ai,aj,aG,aH,aI,aJ,Bool.not_true,Bool.false_and]
theorem tj(n:Int)(d:D):∀(w:List Int)(s:Sl),(w.all (uG n)=true->∃s',fq cM (aO w) [.val (.int n),.val d,s]=.ok (.nx [.val (.int n),.val d,s']))/\(w.all (uG n)=false->fq cM (aO w) [.val (.int n),.val d,s]=.err "NoWord")
 |[],s=>⟨fun _=>⟨s,rfl⟩,fun h=>by cases h⟩
 |k::w,s=>by
  have e:fq cM (aO (k::w)) [.val (.int n),.val d,s]=if uG n k=true then fq cM (aO w) [.val (.int n),.val d,.val (.int k)]else .err "NoWord":=by
   show fq cM (D.int k::aO w) _=_
   have e1:cM (.int k) [.val (.int n),.val d,s]=if uG n k=true then .ok (.nx [.val (.int n),.val d,.val (.int k)])else .err "NoWord":=by
    unfold cM
    simp -implicitDefEqProofs only [fJ,mS,mD,mF,cU,au,reduceAdd,reduceSub,reduceEqDiff,reduceIte,ai,aj,aG,aH,aI,aJ,G7]
    cases uG n k with
    |false=>simp -implicitDefEqProofs only [reduceIte,ai,aj,aG,aH,aI,aJ,Bool.not_false]
    |true=>simp -implicitDefEqProofs only [reduceIte,ai,aj,aG,aH,aI,aJ,Bool.not_true]
   cases hk:uG n k with
   |false=>rw[hk]at e1;exact NK e1
   |true=>rw[hk]at e1;exact uE e1
  rw[e]
  have ih:=tj n d w (.val (.int k))
  cases hk:uG n k with
  |false=>
   refine⟨fun h=>?_,fun _=>by simp -implicitDefEqProofs only [reduceIte,ai,aj,aG,aH,aI,aJ]⟩
   rw[all_cons,hk]at h
   cases h
  |true=>
   simp -implicitDefEqProofs only [reduceIte,ai,aj,aG,aH,aI,aJ]
   rw[all_cons,hk,Bool.true_and]
   exact ih
theorem Ck(n:Int)(w:List Int):iz [.int n,.lst (aO w)]=if kP n w=true then .ok (.bl true)else .err "NoWord":=by
 unfold iz zh kP
 by_cases h1:n<1
 ·have En:¬1<=n:=by omega
  simp -implicitDefEqProofs only [mS,mD,mF,cU,au,reduceAdd,reduceSub,reduceEqDiff,reduceIte,ai,aj,aG,aH,aI,aJ,nJ,h1,En,decide_true,decide_false,Bool.false_and,aQ,R.aN]
 ·have En:1<=n:=by omega
  by_cases h7:7<n
  ·have h7':¬n<=7:=by omega
   simp -implicitDefEqProofs only [mS,mD,mF,cU,au,reduceAdd,reduceSub,reduceEqDiff,reduceIte,ai,aj,aG,aH,aI,aJ,nJ,h1,En,h7,h7',decide_true,decide_false,Bool.true_and,Bool.false_and,aQ,R.aN]
  ·have h7':n<=7:=by omega
   have hl:=tj n (.lst (aO w)) w .no
   simp -implicitDefEqProofs only [mS,mD,mF,cU,au,reduceAdd,reduceSub,reduceEqDiff,reduceIte,ai,aj,aG,aH,aI,aJ,nJ,h1,En,h7,h7',decide_true,decide_false,Bool.true_and]
   cases hw:w.all (uG n)with
   |true=>
    obtain⟨s',e⟩:=hl.1 hw
    rw[e]
    simp -implicitDefEqProofs only [mS,mD,mF,cU,au,reduceAdd,reduceSub,reduceEqDiff,reduceIte,ai,aj,aG,aH,aI,aJ]
   |false=>
    rw[hl.2 hw]
    simp -implicitDefEqProofs only [mS,mD,mF,cU,au,reduceAdd,reduceSub,reduceEqDiff,reduceIte,ai,aj,aG,aH,aI,aJ,aQ,R.aN]
theorem qT{b:D->DE->R DE}{ct:DE->R Bool}{fe:DE->R D}{e₀:DE}(g:Int->Str)(w:List Int)(h:∀k∈w,∃e,b (.int k) e₀=.ok e/\ct e=.ok true/\fe e=.ok (.str (g k))):bh b ct fe e₀ (aO w)=.ok ((w.map g).map D.str):=by
 rw[pX (fun d=>match d with
  |.int k=>.str (g k)
  |_=>.non) _ fun x hx=>by
   obtain⟨k,hk,rfl⟩:=mem_map.mp hx
   exact h k hk]
 unfold aO
 rw[map_map,map_map]
 rfl
theorem Xu{n:Int}(h7:n<=7){w:List Int}(hw:∀k∈w,rS n k):Fg w:=fun k hk=>by
 have:=hw k hk
 unfold rS at this
 omega
def CD(s:Str):Int:=(KTD.datumAt s bc).getD 0
def Fo(s:Str):Option Int:=if Txt.startswith s "-"=true then(if CD (Txt.slice s (some 1) none)=0 then none else some (-CD (Txt.slice s (some 1) none)))else if CD s=0 then none else some (CD s)
theorem Fp(s:Str):cg [.str s]=if CD s=0 then .err "BadText" else .ok (.int (CD s)):=by
 unfold cg qy
 have e:(KTD.datumAt s bc).getD 0=CD s:=rfl
 simp -implicitDefEqProofs only [mS,mD,mF,cU,au,reduceAdd,reduceSub,reduceEqDiff,reduceIte,ai,aj,aG,aH,aI,aJ,nJ,rM,gR,aQ,R.aN,dh,NJ,e]
 by_cases h:CD s=0
 ·have hb:(CD s==0)=true:=by rw[beq_iff_eq];exact h
  rw[if_pos h]
  simp -implicitDefEqProofs only [reduceIte,ai,aj,aG,aH,aI,aJ,nJ,rM,gR,aQ,R.aN,hb]
 ·have hb:(CD s==0)=false:=by rw[beq_eq_false_iff_ne];exact h
  rw[if_neg h]
  simp -implicitDefEqProofs only [reduceIte,ai,aj,aG,aH,aI,aJ,nJ,rM,gR,aQ,R.aN,hb]
def T9:Option Int->R D
 |some k=>.ok (.int k)
 |none=>.err "BadText"
theorem S7{s:Str}(hl:s.length<=1000000):b9 [.str s]=T9 (Fo s):=by
 unfold b9 nP Fo
 cases hs:Txt.startswith s "-" with
 |true=>
  simp -implicitDefEqProofs only [mS,mD,mF,cU,au,reduceAdd,reduceSub,reduceEqDiff,reduceIte,ai,aj,aG,aH,aI,aJ,nJ,rM,gR,aQ,R.aN,dh,hs,S6 hl,Fp]
  by_cases h:CD (Txt.slice s (some 1) none)=0
  ·rw[if_pos h,if_pos h]
   simp -implicitDefEqProofs only [mS,mD,mF,cU,au,reduceAdd,reduceSub,reduceEqDiff,reduceIte,ai,aj,aG,aH,aI,aJ,nJ,rM,gR,aQ,R.aN,T9]
  ·rw[if_neg h,if_neg h]
   simp -implicitDefEqProofs only [mS,mD,mF,cU,au,reduceAdd,reduceSub,reduceEqDiff,reduceIte,ai,aj,aG,aH,aI,aJ,nJ,rM,gR,aQ,R.aN,T9]
 |false=>
  simp -implicitDefEqProofs only [mS,mD,mF,cU,au,reduceAdd,reduceSub,reduceEqDiff,reduceIte,ai,aj,aG,aH,aI,aJ,nJ,rM,gR,aQ,R.aN,dh,hs,Fp]
  by_cases h:CD s=0
  ·rw[if_pos h,if_pos h]
   simp -implicitDefEqProofs only [mS,mD,mF,cU,au,reduceAdd,reduceSub,reduceEqDiff,reduceIte,ai,aj,aG,aH,aI,aJ,nJ,rM,gR,aQ,R.aN,T9]
  ·rw[if_neg h,if_neg h]
   simp -implicitDefEqProofs only [mS,mD,mF,cU,au,reduceAdd,reduceSub,reduceEqDiff,reduceIte,ai,aj,aG,aH,aI,aJ,nJ,rM,gR,aQ,R.aN,T9]
def rws:List (List Nat)->Option (List Int)
 |[]=>some []
 |p::ps=>match Fo (ofT p)with
  |none=>none
  |some k=>(rws ps).map (k::·)
theorem ya:∀(ps:List (List Nat))(p:List Nat),p∈ps->Fo (ofT p)=none->rws ps=none
 |[],p,h,_=>nomatch h
 |q::ps,p,h,hp=>by
  unfold rws
  rcases mem_cons.mp h with e|h
  ·rw[<-e,hp]
  ·cases Fo (ofT q)with
   |none=>rfl
   |some k=>
    show(rws ps).map _=none
    rw[ya ps p h hp]
    rfl
theorem NN{k:Int}(h: -9<=k/\k<=9)(h0:k≠0):Fo (bF k)=some k:=by
 unfold Fo
 by_cases hk:1<=k
 ·obtain⟨h1,h2⟩:=NH ⟨hk,h.2⟩
  have e:CD (bF k)=k:=by unfold CD;rw[h1];rfl
  rw[h2,if_neg (by decide),e,if_neg h0]
 ·obtain⟨h1,h2⟩:=NI (k:=k) (by omega)
  have e:CD (Txt.slice (bF k) (some 1) none)= -k:=by unfold CD;rw[h1];rfl
  rw[h2,if_pos rfl,e,if_neg (by omega),Int.neg_neg]
theorem tm:∀(w:List Int),Fg w->(∀k∈w,k≠0)->rws (w.map fun k=>tl (bF k))=some w
 |[],_,_=>rfl
 |k::w,h,h0=>by
  have ih:=tm w (fun x hx=>h x (by simp[hx])) fun x hx=>h0 x (by simp[hx])
  rw[map_cons]
  unfold rws
  rw[Ez,NN (h k (by simp)) (h0 k (by simp))]
  show(rws _).map _=_
  rw[ih]
  rfl
def K1:Option (List Int)->R (List D)
 |some w=>.ok (aO w)
 |none=>.err "BadText"
theorem Cm:∀(ls:List (List Nat)),(∀l∈ls,l.length<=100000)->bh (fun d e=>R.ne (bN 0 d e)) (fun e=>R.ne (dg e)) cO (eT 1 []) (ls.map fun p=>D.str (ofT p))=K1 (rws (ls.filter fun p=> !p.isEmpty))
 |[],_=>rfl
 |p::ls,h=>by
  have ih:=Cm ls fun l hl=>h l (by simp[hl])
  have hp:(ofT p).length<=1000000:=by
   rw[<-bz,nN]
   have:=h p (by simp)
   omega
  rw[map_cons]
  unfold bh
  have eb:R.ne (bN 0 (.str (ofT p)) (eT 1 []))=.ok [.val (.str (ofT p))]:=rfl
  have hke:(!(ofT p==("":Str)))= !p.isEmpty:=by
   rw[JR,nN,Dk]
   cases p<;>rfl
  have et:R.ne (dg [.val (.str (ofT p))])=.ok (!p.isEmpty):=by
   unfold dg
   simp -implicitDefEqProofs only [mS,mD,mF,cU,au,reduceAdd,reduceSub,reduceEqDiff,reduceIte,ai,aj,aG,aH,aI,aJ,hke]
  rw[eb,R.aM,et,R.aM]
  cases hq:(!p.isEmpty)with
  |false=>
   rw[if_neg (by decide),List.filter_cons_of_neg (by rw[hq];decide)]
   exact ih
  |true=>
   rw[if_pos rfl,List.filter_cons_of_pos (p:=fun p:List Nat=> !p.isEmpty) hq]
   have ee:cO [.val (.str (ofT p))]=T9 (Fo (ofT p)):=by
    unfold cO
    simp -implicitDefEqProofs only [reduceIte,ai,aj,aG,aH,aI,aJ,S7 hp]
   rw[ee,ih]
   conv=>rhs;unfold rws
   cases Fo (ofT p)with
   |none=>rfl
   |some k=>
    show R.bind (K1 (rws (ls.filter fun p=> !p.isEmpty))) _=K1 ((rws (ls.filter fun p=> !p.isEmpty)).map (k::·))
    cases rws (ls.filter fun p=> !p.isEmpty)with
    |none=>rfl
    |some w=>rfl
def vh(r:List Nat):Option (List Int):=if r≠[]/\r.head?≠some 32 then none else rws (yH 32 r)
theorem NP(l:List Nat):(yH 32 l).length<=l.length+1:=le_trans (List.length_filter_le _ _) (vV 32 l)
theorem Fq:∀(ps:List (List Nat))(w:List Int),rws ps=some w->w.length=ps.length
 |[],w,h=>by cases h;rfl
 |p::ps,w,h=>by
  unfold rws at h
  cases e:Fo (ofT p)with
  |none=>rw[e]at h;cases h
  |some k=>
   rw[e]at h
   cases e2:rws ps with
   |none=>rw[e2]at h;cases h
   |some u=>
    rw[e2]at h
    cases h
    rw[length_cons,length_cons,Fq ps u e2]
theorem Ft{c:Nat}:∀(l:List Nat),∀p∈tU c l,p.length<=l.length
 |[],p,h=>by
  have:p=[]:=by simpa[tU]using h
  rw[this]
  exact le_refl _
 |x::l,p,h=>by
  have ih:=Ft (c:=c) l
  unfold tU at h
  rw[length_cons]
  split at h
  ·rcases mem_cons.mp h with e|h
   ·rw[e];simp
   ·have:=ih p h;omega
  ·split at h
   ·have:p=[x]:=by simpa using h
    rw[this];simp
   ·rename_i e
    rw[e]at ih
    rcases mem_cons.mp h with e2|h
    ·rw[e2,length_cons]
     have:=ih _ mem_cons_self
     omega
    ·have:=ih p (mem_cons_of_mem _ h)
     omega
theorem yP{r:List Nat}(hl:r.length<=50000):bQ [.str (ofT r)]=K1 (vh r):=by
 unfold bQ lS vh
 have hol:(ofT r).length<=100000:=by rw[<-bz,nN];omega
 have hne:(!(ofT r==("":Str)))=decide (r≠[]):=by
  rw[JR,nN,Dk]
  by_cases h:r=[]
  ·rw[h];rfl
  ·rw[decide_eq_false h,decide_eq_true h];rfl
 have hst:Txt.startswith (ofT r) " "=decide (r.head?=some 32):=by
  rw[blank,GQ,nN,List.head?_eq_getElem?]
 have DY:wX (ofT r) " "=some ((tU 32 r).map fun p=>D.str (ofT p)):=by rw[blank,K0 hol,nN]
 have aix:=vV 32 r
 have hfit:fit ((tU 32 r).map fun p=>D.str (ofT p))=.ok ((tU 32 r).map fun p=>D.str (ofT p)):=iw (big (by rw[length_map];omega))
 have hc:=Cm (tU 32 r) fun l hm=>by have:=Ft r l hm;omega
 have hw:rws ((tU 32 r).filter fun p=> !p.isEmpty)=rws (yH 32 r):=rfl
 rw[hw]at hc
 have UO:=NP r
 have main:R.bind (K1 (rws (yH 32 r))) fit=K1 (rws (yH 32 r)):=by
  cases e:rws (yH 32 r)with
  |none=>rfl
  |some w=>
   have:=Fq _ _ e
   show fit (aO w)=_
   rw[iQ (by omega)]
   rfl
 have fin:R.bind (R.bind (R.bind (K1 (rws (yH 32 r))) fun v11=>R.ok (Out.oH v11)) aj) Ei=K1 (rws (yH 32 r)):=by
  cases e:rws (yH 32 r)with
  |none=>rfl
  |some w=>
   show Ei (aO w)=_
   rw[jy]
   rfl
 simp -implicitDefEqProofs only [mS,mD,mF,cU,au,reduceAdd,reduceSub,reduceEqDiff,reduceIte,ai,aj,aG,aH,aI,aJ,nJ,rM,gR,aQ,R.aN,dh,hne,hst,eR]
 by_cases h1:r=[]
 ·have d1:decide (r≠[])=false:=decide_eq_false (fun z=>z h1)
  have hc2:¬(r≠[]/\r.head?≠some 32):=fun z=>z.1 h1
  rw[if_neg hc2]
  simp -implicitDefEqProofs only [reduceIte,ai,aj,aG,aH,aI,aJ,nJ,rM,gR,aQ,R.aN,d1,dh,DY,hfit,hc,main,fin]
 ·have d1:decide (r≠[])=true:=decide_eq_true h1
  by_cases h2:r.head?=some 32
  ·have d2:decide (r.head?=some 32)=true:=decide_eq_true h2
   have hc2:¬(r≠[]/\r.head?≠some 32):=fun z=>z.2 h2
   rw[if_neg hc2]
   simp -implicitDefEqProofs only [reduceIte,ai,aj,aG,aH,aI,aJ,nJ,rM,gR,aQ,R.aN,d1,d2,Bool.not_true,dh,DY,hfit,hc,main,fin]
  ·have d2:decide (r.head?=some 32)=false:=decide_eq_false h2
   have hc2:r≠[]/\r.head?≠some 32:=⟨h1,h2⟩
   rw[if_pos hc2]
   simp -implicitDefEqProofs only [reduceIte,ai,aj,aG,aH,aI,aJ,nJ,rM,gR,aQ,R.aN,d1,d2,Bool.not_false,K1]
def Cn(n:Int)(r:List Nat):R D:=match vh r with
 |none=>.err "BadText"
 |some w=>if kP n w=true then .ok (.tup [.int n,.lst (aO w)])else .err "NoWord"
theorem uH(c:Nat):∀l:List Nat,(gV c l).length<=l.length
 |[]=>le_refl _
 |x::l=>by
  unfold gV
  split
  ·have:=uH c l
   rw[length_cons]
   omega
  ·exact le_refl _
theorem Fv(c:Nat)(l:List Nat):(Lo c l).length<=l.length:=by
 unfold Lo
 rw[length_reverse]
 refine le_trans (uH c _) ?_
 rw[length_reverse]
 exact uH c l
theorem uI{c x:Nat}:∀{l:List Nat},x∈gV c l->x∈l
 |[],h=>h
 |y::l,h=>by
  unfold gV at h
  split at h
  ·exact mem_cons_of_mem _ (uI h)
  ·exact h
theorem NQ{c x:Nat}{l:List Nat}(h:x∈Lo c l):x∈l:=by
 unfold Lo at h
 exact uI (mem_reverse.mp (uI (mem_reverse.mp h)))
theorem Fw{t:Str}(hl:t.length<=20000)(h:58∉tl t):ar [.str t]=.err "BadText":=by
 have h2:58∉tl (Txt.stripChars t " "):=fun z=>by
  rw[blank,rT]at z
  exact h (NQ z)
 have hsl:(Txt.stripChars t " ").length<=20000:=by
  rw[<-bz,blank,rT]
  have:=Fv 32 (tl t)
  rw[bz]at this
  omega
 have Nq:=GO _ 58 h2
 unfold ar oZ
 simp -implicitDefEqProofs only [mS,mD,mF,cU,au,reduceAdd,reduceSub,reduceEqDiff,reduceIte,ai,aj,aG,aH,aI,aJ,nJ,rM,gR,aQ,R.aN,dh,Ci (show t.length<=1000000 by omega)]
 rw[colon,Fl (by omega),Nq]
 have at1:iN [D.str (Txt.stripChars t " "),D.str Str.empty,D.str Str.empty] 1=some (.str Str.empty):=rfl
 have hem:(Str.empty==("":Str))=true:=by decide +kernel
 simp -implicitDefEqProofs only [reduceIte,ai,aj,aG,aH,aI,aJ,nJ,rM,gR,aQ,R.aN,dh,at1,hem]
theorem NR{t:Str}{p r:List Nat}(hl:t.length<=20000)(hst:Lo 32 (tl t)=p++58::r)(hp:58∉p):ar [.str t]=match KTD.datumAt (ofT p) bc with
  |none=>.err "BadText"
  |some n=>Cn n r:=by
 have Xv:tl (Txt.stripChars t " ")=p++58::r:=by rw[blank,rT,hst]
 have hsl:(Txt.stripChars t " ").length<=20000:=by
  rw[<-bz,blank,rT]
  have:=Fv 32 (tl t)
  rw[bz]at this
  omega
 have hrl:r.length<=50000:=by
  have:=congrArg length Xv
  rw[bz,length_append,length_cons]at this
  omega
 have Nq:=M5 _ 58 Xv hp
 unfold ar oZ
 simp -implicitDefEqProofs only [mS,mD,mF,cU,au,reduceAdd,reduceSub,reduceEqDiff,reduceIte,ai,aj,aG,aH,aI,aJ,nJ,rM,gR,aQ,R.aN,dh,Ci (show t.length<=1000000 by omega)]
 rw[colon,Fl (by omega),Nq]
 have YC:iN [D.str (ofT p),D.str ⟨#[58]⟩,D.str (ofT r)] 0=some (.str (ofT p)):=rfl
 have at1:iN [D.str (ofT p),D.str ⟨#[58]⟩,D.str (ofT r)] 1=some (.str ⟨#[58]⟩):=rfl
 have at2:iN [D.str (ofT p),D.str ⟨#[58]⟩,D.str (ofT r)] 2=some (.str (ofT r)):=rfl
 have Xw:((⟨#[58]⟩:Str)==("":Str))=false:=by decide +kernel
 cases hd:KTD.datumAt (ofT p) bc with
 |none=>simp -implicitDefEqProofs only [reduceIte,ai,aj,aG,aH,aI,aJ,nJ,rM,gR,aQ,R.aN,dh,YC,at1,Xw,hd,Option.isSome_none,Bool.not_false]
 |some n=>
  simp -implicitDefEqProofs only [reduceIte,ai,aj,aG,aH,aI,aJ,nJ,rM,gR,aQ,R.aN,dh,YC,at1,at2,Xw,hd,isSome_some,Bool.not_true,Et,yP hrl]
  unfold Cn
  cases ht:vh r with
  |none=>simp -implicitDefEqProofs only [reduceIte,ai,aj,aG,aH,aI,aJ,nJ,rM,gR,aQ,R.aN,K1]
  |some w=>
   simp -implicitDefEqProofs only [reduceIte,ai,aj,aG,aH,aI,aJ,nJ,rM,gR,aQ,R.aN,K1,Ck]
   by_cases hg:kP n w=true
   ·rw[if_pos hg,if_pos hg]
    simp -implicitDefEqProofs only [reduceIte,ai,aj,aG,aH,aI,aJ,nJ,rM,gR,aQ,R.aN]
   ·rw[if_neg hg,if_neg hg]
    simp -implicitDefEqProofs only [reduceIte,ai,aj,aG,aH,aI,aJ,nJ,rM,gR,aQ,R.aN]
def Rk(r:List Nat):Prop:=r≠[]/\32∉r
theorem K2{n:Int}{w:List Int}(h:¬(1<=n/\n<=7)\/∃k∈w,¬rS n k):kP n w=false:=by
 cases hg:kP n w with
 |false=>rfl
 |true=>
  exfalso
  unfold kP at hg
  rw[and_eq_true,and_eq_true,decide_eq_true_eq,decide_eq_true_eq]at hg
  rcases h with h|⟨k,hk,h⟩
  ·exact h ⟨hg.1.1,hg.1.2⟩
  ·exact h ((Cj n k).mp (all_eq_true.mp hg.2 k hk))
def zA(qs:List (Nat×List Nat)):List Nat:=(qs.map fun p=>replicate (p.1+1) 32++p.2).flatten
theorem g9(p:Nat×List Nat)(qs:List (Nat×List Nat)):zA (p::qs)=replicate (p.1+1) 32++(p.2++zA qs):=by
 unfold zA
 rw[map_cons,flatten_cons,List.append_assoc]
theorem Ar(a b:List (Nat×List Nat)):zA (a++b)=zA a++zA b:=by
 unfold zA
 rw[map_append,flatten_append]
theorem Fx:∀qs:List (Nat×List Nat),(∀q∈qs,Rk q.2)->yH 32 (zA qs)=qs.map (·.2)
 |[],_=>rfl
 |p::qs,h=>by
  obtain⟨f2,f3⟩:=h p (by simp)
  have ih:=Fx qs fun x hx=>h x (by simp[hx])
  rw[g9,EA]
  cases qs with
  |nil=>
   show yH 32 (p.2++[])=_
   rw[append_nil,M7 f3 f2]
   rfl
  |cons q qs=>
   rw[g9]at ih⊢
   rw[replicate_succ,cons_append,PF]at ih
   rw[replicate_succ,cons_append,M8 f3 f2,ih]
   rfl
theorem Co:∀qs:List (Nat×List Nat),(∀q∈qs,Rk q.2)->qs≠[]->∃q y,zA qs=q++[y]/\y≠32
 |[],_,h=>(h rfl).elim
 |[p],h,_=>by
  obtain⟨f2,f3⟩:=h p (by simp)
  rw[g9]
  show∃q y,_++(p.2++[])=q++[y]/\y≠32
  rw[append_nil]
  exact⟨replicate (p.1+1) 32++p.2.dropLast,p.2.getLast f2,by rw[List.append_assoc,List.dropLast_concat_getLast f2],fun z=>f3 (by rw[<-z];exact List.getLast_mem f2)⟩
 |p::q::qs,h,_=>by
  obtain⟨r,y,e,hy⟩:=Co (q::qs) (fun x hx=>h x (mem_cons_of_mem _ hx)) (by simp)
  refine⟨replicate (p.1+1) 32++(p.2++r),y,?_,hy⟩
  rw[g9,e]
  simp
theorem K3{qs:List (Nat×List Nat)}(h:∀q∈qs,Rk q.2):vh (zA qs)=rws (qs.map (·.2)):=by
 unfold vh
 have hc:¬(zA qs≠[]/\(zA qs).head?≠some 32):=fun z=>by
  cases qs with
  |nil=>exact z.1 rfl
  |cons r rs=>exact z.2 (by rw[g9];rfl)
 rw[if_neg hc,Fx qs h]
def adQ(n:Int):Bool:=decide (KTD.datumAt (bF n) bc=some n)
theorem NS:∀i:Nat,i<10->adQ (i:Int)=true:=by decide +kernel
theorem G8{n:Int}(h0:0<=n)(h9:n<=9):KTD.datumAt (ofT (tl (bF n))) bc=some n:=by
 have:=NS n.toNat (by omega)
 rw[show((n.toNat:Nat):Int)=n by omega]at this
 rw[Ez]
 exact of_decide_eq_true this
theorem Fy{t:Str}{a e:Nat}{n:Int}{r:List Nat}(h0:0<=n)(h9:n<=9)(hl:t.length<=20000)(ht:tl t=replicate a 32++((tl (bF n)++58::r)++replicate e 32))(hr:r=[]\/∃q y,r=q++[y]/\y≠32):ar [.str t]=Cn n r:=by
 obtain⟨_,f2,f3,f4,_⟩:=bq (k:=n) (by omega)
 obtain⟨x,r1,e1⟩:=List.exists_cons_of_ne_nil f2
 have hx:x≠32:=fun z=>f3 (by rw[e1,z];exact mem_cons_self)
 have Xx:∃q y,tl (bF n)++58::r=q++[y]/\y≠32:=by
  rcases hr with hr|⟨q,y,hr,hy⟩
  ·rw[hr];exact⟨tl (bF n),58,rfl,by decide⟩
  ·rw[hr];exact⟨tl (bF n)++58::q,y,by simp,hy⟩
 obtain⟨q,y,e2,hy⟩:=Xx
 have hs:Lo 32 (tl t)=tl (bF n)++58::r:=by
  rw[ht]
  exact M6 32 a e _ (by rw[e1];rfl) e2 hx hy
 rw[NR hl hs f4,G8 h0 h9]
theorem Au{t:Str}{a e:Nat}{n:Int}{qs:List (Nat×List Nat)}(h0:0<=n)(h9:n<=9)(hl:t.length<=20000)(hq:∀q∈qs,Rk q.2)(ht:tl t=replicate a 32++((tl (bF n)++58::zA qs)++replicate e 32)):ar [.str t]=match rws (qs.map (·.2))with
  |none=>.err "BadText"
  |some w=>if kP n w=true then .ok (.tup [.int n,.lst (aO w)])else .err "NoWord":=by
 rw[Fy h0 h9 hl ht (by
  by_cases z:qs=[]
  ·rw[z];exact .inl rfl
  ·exact .inr (Co qs hq z))]
 unfold Cn
 rw[K3 hq]
 all_goals (cases rws (qs.map (·.2))<;>rfl)
def wq(b:Nat)(w:List Int):List (Nat×List Nat):=w.map fun k=>(b,tl (bF k))
theorem Fz{b:Nat}{w:List Int}(h:Fg w):∀q∈wq b w,Rk q.2:=fun q hq=>by
 obtain⟨k,hk,rfl⟩:=mem_map.mp hq
 obtain⟨_,f2,f3,_⟩:=bq (h k hk)
 exact⟨f2,f3⟩
theorem K4{b:Nat}(hb:b<=3):∀{w:List Int},Fg w->(zA (wq b w)).length<=6*w.length
 |[],_=>le_refl _
 |k::w,h=>by
  have ih:=K4 hb (w:=w) fun x hx=>h x (by simp[hx])
  obtain⟨f1,_⟩:=bq (h k (by simp))
  show(zA ((b,tl (bF k))::wq b w)).length<=_
  rw[g9,length_append,length_append,length_replicate,length_cons,bz]
  dsimp only
  omega
theorem DH(b:Nat)(w:List Int):(wq b w).map (·.2)=w.map fun k=>tl (bF k):=by
 unfold wq
 rw[map_map]
 rfl
structure Cp(n:Int)(w:List Int)(a b:Nat)(t:Str):Prop where
 n0:1<=n
 n7:n<=7
 x:∀k∈w,rS n k
 l:w.length<=100
 a9:a<=9
 b3:b<=3
 t:tl t=replicate a 32++(tl (bF n)++58::zA (wq b w))
section
variable{n:Int}{w:List Int}{a b:Nat}{t:Str}
theorem Cp.f (h:Cp n w a b t):Fg w:=Xu h.n7 h.x
theorem Cp.len (h:Cp n w a b t):t.length<=1000:=by
 have h1:=K4 h.b3 h.f
 have h2:=h.l
 have h3:=h.a9
 have h4:=h.n7
 have h5:=h.n0
 obtain⟨f1,_⟩:=bq (k:=n) (by omega)
 rw[<-bz,h.t,length_append,length_append,length_cons,length_replicate,bz]
 omega
theorem Cp.good (h:Cp n w a b t)(e:Nat){u:Str}(hu:tl u=tl t++replicate e 32)(hl:u.length<=20000):ar [.str u]=.ok (.tup [.int n,.lst (aO w)]):=by
 have h4:=h.n7
 have h5:=h.n0
 rw[Au (a:=a) (e:=e) (qs:=wq b w) (n:=n) (by omega) (by omega) hl (Fz h.f) (by rw[hu,h.t];simp),DH,tm w h.f fun k hk=>(h.x k hk).1]
 have hg:kP n w=true:=by
  unfold kP
  rw[and_eq_true,and_eq_true,decide_eq_true_eq,decide_eq_true_eq]
  exact⟨⟨h5,h4⟩,all_eq_true.mpr fun k hk=>(Cj n k).mpr (h.x k hk)⟩
 show(if kP n w=true then _ else _)=_
 rw[if_pos hg]
theorem Cp.more (h:Cp n w a b t){u:Str}{p:List Nat}(hp:Rk p)(hu:tl u=tl t++32::p)(hl:u.length<=20000):ar [.str u]=match rws ((w.map fun k=>tl (bF k))++[p])with
  |none=>.err "BadText"
  |some w=>if kP n w=true then .ok (.tup [.int n,.lst (aO w)])else .err "NoWord":=by
 have h4:=h.n7
 have h5:=h.n0
 rw[Au (a:=a) (e:=0) (qs:=wq b w++[(0,p)]) (n:=n) (by omega) (by omega) hl (fun q hq=>by
  rcases mem_append.mp hq with z|z
  ·exact Fz h.f q z
  ·rw[mem_singleton.mp z];exact hp) (by
  rw[hu,h.t,Ar,g9]
  show _=replicate a 32++((tl (bF n)++58::(zA (wq b w)++(32::(p++[]))))++[])
  simp),map_append,DH]
 rfl
theorem Xy:Fo (ofT (tl (bF 0)))=none:=by decide +kernel
theorem NT:∀i:Nat,i<19->Fo (ofT (tl (bF ((i:Int)-9))++[10]))=none/\Fo (ofT (tl (bF ((i:Int)-9))++[44]))=none:=by decide +kernel
theorem Cp.zero (h:Cp n w a b t){u:Str}(hu:tl u=tl t++32::tl (bF 0))(hl:u.length<=20000):ar [.str u]=.err "BadText":=by
 obtain⟨_,f2,f3,_⟩:=bq (k:=0) (by omega)
 rw[h.more ⟨f2,f3⟩ hu hl,ya _ (tl (bF 0)) (by simp) Xy]
theorem Cp.end_ (h:Cp n w a b t){u:Str}{c:Nat}(hc:c=10\/c=44)(hu:tl u=tl t++[c])(hl:u.length<=20000):ar [.str u]=.err "BadText":=by
 have h4:=h.n7
 have h5:=h.n0
 have S8:c≠32:=by omega
 by_cases hw:w=[]
 ·subst hw
  rw[Fy (a:=a) (e:=0) (n:=n) (r:=[c]) (by omega) (by omega) hl (by
   rw[hu,h.t]
   show replicate a 32++(tl (bF n)++58::[])++[c]=_
   simp) (.inr ⟨[],c,rfl,S8⟩)]
  have:vh [c]=none:=by
   unfold vh
   rw[if_pos ⟨by simp,by simpa using S8⟩]
  unfold Cn
  rw[this]
 ·have hk:=List.getLast_mem hw
  have DY:=List.dropLast_concat_getLast hw
  generalize w.getLast hw=k at hk DY
  have hk9:=h.f k hk
  obtain⟨_,f2,f3,_⟩:=bq hk9
  have hrk:Rk (tl (bF k)++[c]):=⟨by simp,fun z=>by
   rcases mem_append.mp z with z|z
   ·exact f3 z
   ·exact S8 (mem_singleton.mp z).symm⟩
  have hrc:Fo (ofT (tl (bF k)++[c]))=none:=by
   have:=NT (k+9).toNat (by omega)
   rw[show(((k+9).toNat:Nat):Int)-9=k by omega]at this
   rcases hc with rfl|rfl
   ·exact this.1
   ·exact this.2
  have hwq:wq b w=wq b w.dropLast++[(b,tl (bF k))]:=by
   conv=>lhs;rw[<-DY]
   unfold wq
   rw[map_append]
   rfl
  rw[Au (a:=a) (e:=0) (qs:=wq b w.dropLast++[(b,tl (bF k)++[c])]) (n:=n) (by omega) (by omega) hl (fun q hq=>by
   rcases mem_append.mp hq with z|z
   ·exact Fz (fun x hx=>h.f x (by rw[dropLast_eq_take]at hx;exact mem_of_mem_take hx)) q z
   ·rw[mem_singleton.mp z];exact hrk) (by
   rw[hu,h.t,hwq,Ar,Ar,g9,g9]
   simp[zA]),ya _ (tl (bF k)++[c]) (by simp) hrc]
theorem Cp.none_ (h:Cp n w a b t){u:Str}{m:Int}(hm:m=n\/m= -n)(hu:tl u=tl t++32::tl (bF m))(hl:u.length<=20000):ar [.str u]=.err "NoWord":=by
 have h4:=h.n7
 have h5:=h.n0
 obtain⟨_,f2,f3,_⟩:=bq (k:=m) (by omega)
 have e:(w.map fun k=>tl (bF k))++[tl (bF m)]=(w++[m]).map fun k=>tl (bF k):=by rw[map_append];rfl
 rw[h.more ⟨f2,f3⟩ hu hl,e,tm (w++[m]) (fun x hx=>by
  rcases mem_append.mp hx with z|z
  ·exact h.f x z
  ·rw[mem_singleton.mp z];omega) fun x hx=>by
  rcases mem_append.mp hx with z|z
  ·exact(h.x x z).1
  ·rw[mem_singleton.mp z];omega]
 show(if kP n (w++[m])=true then _ else _)=_
 rw[K2 (.inr ⟨m,by simp,fun z=>by unfold rS at z;omega⟩)]
 rfl
end
theorem Av{t:Str}{n:Int}{w:List Int}(h0:0<=n)(h9:n<=9)(hw:Fg w)(hz:∀k∈w,k≠0)(ht:tl t=tl (bF n)++58::zA (wq 0 w))(hl:t.length<=20000):ar [.str t]=if kP n w=true then .ok (.tup [.int n,.lst (aO w)])else .err "NoWord":=by
 rw[Au (a:=0) (e:=0) (qs:=wq 0 w) (n:=n) h0 h9 hl (Fz hw) (by rw[ht];simp),DH,tm w hw hz]
theorem adR:ar [.str "8:"]=.err "NoWord":=(Av (n:=8) (w:=[]) (by decide) (by decide) (fun k hk=>nomatch hk) (fun k hk=>nomatch hk) (by decide +kernel) (by decide +kernel)).trans (if_neg (by decide +kernel))
theorem adS:ar [.str "0:"]=.err "NoWord":=(Av (n:=0) (w:=[]) (by decide) (by decide) (fun k hk=>nomatch hk) (fun k hk=>nomatch hk) (by decide +kernel) (by decide +kernel)).trans (if_neg (by decide +kernel))
theorem Xz:ar [.str "9: 8"]=.err "NoWord":=(Av (n:=9) (w:=[8]) (by decide) (by decide) (fun k hk=>by rw[mem_singleton.mp hk];omega) (fun k hk=>by rw[mem_singleton.mp hk];omega) (by decide +kernel) (by decide +kernel)).trans (if_neg (by decide +kernel))
theorem XA:ar [.str "2: 1"]=.ok (.tup [.int 2,.lst (aO [1])]):=(Av (n:=2) (w:=[1]) (by decide) (by decide) (fun k hk=>by rw[mem_singleton.mp hk];omega) (fun k hk=>by rw[mem_singleton.mp hk];omega) (by decide +kernel) (by decide +kernel)).trans (if_pos (by decide +kernel))
theorem wg{h:Int}(h1: -1000<h/\h<1000):(bF h).length<=1002:=by
 have:=len_str_of_int h
 have e:(bF h).length=(Str.ofString (toString h)).length:=rfl
 omega
theorem FA{i:Int}(h: -1000<i/\i<1000):Eu [.int i]=some (.str (bF i)):=by
 have:i.natAbs.log2<1920:=Nat.lt_of_le_of_lt (Nat.log2_le_self _) (by omega)
 exact if_pos this
theorem wj(c:Nat):∀(p:List Nat)(ps:List (List Nat)),jn c (p::ps)=p++(ps.map fun q=>c::q).flatten
 |p,[]=>by simp[jn]
 |p,q::ps=>by
  show p++c::jn c (q::ps)=_
  rw[wj c q ps]
  simp
theorem NU{x:Str}{k:Int}(hx:x.length<=10)(hk: -1000<k/\k<1000):gz [.lst [.str x,.int k]]=.ok (.str (Txt.join " " [x,bF k]++"\n")):=by
 have hf:=wg hk
 have hc:bh (bN 0) fy cL (eT 1 []) [.str x,.int k]=.ok ([x,bF k].map D.str):=by
  unfold bh
  rw[fJ,R.aM,show fy _=.ok true from rfl,R.aM,if_pos rfl]
  unfold bh
  rw[fJ,R.aM,show fy _=.ok true from rfl,R.aM,if_pos rfl]
  have e1:cL ((eT 1 []).set 0 (.val (.str x)))=.ok (.str x):=rfl
  have e2:cL ((eT 1 []).set 0 (.val (.int k)))=.ok (.str (bF k)):=by
   unfold cL eT
   simp -implicitDefEqProofs only [mS,mD,mF,cU,au,reduceAdd,reduceSub,reduceEqDiff,reduceIte,ai,aj,aG,aH,aI,aJ,FA hk]
  rw[e1,e2]
  rfl
 unfold gz ur
 simp -implicitDefEqProofs only [mS,mD,mF,cU,au,reduceAdd,reduceSub,reduceEqDiff,reduceIte,ai,aj,aG,aH,aI,aJ,dh,eR,hc,R.kZ]
 rw[show rO " " [D.str x,D.str (bF k)]=_ from sZ (sep:=" ") (ys:=[x,bF k]) (by simp -implicitDefEqProofs only [map_cons,map_nil,sum_cons,List.sum_nil,length_cons,length_nil,show Str.length " "=1 from rfl];omega)]
 have hl:(Txt.join " " [x,bF k]).length<=2000:=by
  rw[<-bz,blank,xp,map_cons,wj]
  simp -implicitDefEqProofs only [map_cons,map_nil,flatten_cons,flatten_nil,append_nil,length_append,length_cons,bz]
  omega
 simp -implicitDefEqProofs only [mS,mD,mF,cU,au,reduceAdd,reduceSub,reduceEqDiff,reduceIte,ai,aj,aG,aH,aI,aJ]
 rw[dF (by rw[show Str.length "\n"=1 from rfl];omega)]
 simp -implicitDefEqProofs only [mS,mD,mF,cU,au,reduceAdd,reduceSub,reduceEqDiff,reduceIte,ai,aj,aG,aH,aI,aJ]
theorem yb:∀{r:List Int},Fg r->(r.map fun x=>32::tl (bF x)).flatten.length<=3*r.length
 |[],_=>le_refl _
 |k::r,h=>by
  have ih:=yb (r:=r) fun x hx=>h x (by simp[hx])
  obtain⟨f1,_⟩:=bq (h k (by simp))
  rw[map_cons,flatten_cons,length_append,length_cons,length_cons,bz]
  omega
def Cq(r:List Int):List Nat:=tl ("row":Str)++((r.map fun x=>32::tl (bF x)).flatten++[10])
def yc(r:List Int):Str:=Txt.join " " (("row":Str)::r.map bF)++"\n"
theorem Aw(r:List Int):tl (yc r)=Cq r:=by
 unfold yc Cq
 rw[bV,blank,xp,map_cons,wj,map_map,map_map,List.append_assoc]
 rfl
theorem yd{r:List Int}(h:Fg r)(hl:r.length<=10):(yc r).length<=34:=by
 have:=yb h
 rw[<-bz,Aw]
 unfold Cq
 rw[length_append,length_append,bz,length_singleton,show Str.length "row"=3 from rfl]
 omega
theorem DI{r:List Int}(h:Fg r)(hl:r.length<=10):gz [.lst (.str "row"::aO r)]=.ok (.str (yc r)):=by
 have hc:bh (bN 0) fy cL (eT 1 []) (.str "row"::aO r)=.ok ((("row":Str)::r.map bF).map D.str):=by
  unfold bh
  rw[fJ,R.aM,show fy _=.ok true from rfl,R.aM,if_pos rfl]
  have e1:cL ((eT 1 []).set 0 (.val (.str "row")))=.ok (.str "row"):=rfl
  rw[e1,qT bF r fun k hk=>⟨_,fJ _ _ _,rfl,by
   have:=h k hk
   unfold cL eT
   simp -implicitDefEqProofs only [mS,mD,mF,cU,au,reduceAdd,reduceSub,reduceEqDiff,reduceIte,ai,aj,aG,aH,aI,aJ,FA (show-1000<k/\k<1000 by omega)]⟩]
  rfl
 have hs:=x9 (B:=10) (("row":Str)::r.map bF) fun y hy=>by
  rcases mem_cons.mp hy with rfl|hy
  ·decide +kernel
  ·obtain⟨k,hk,rfl⟩:=mem_map.mp hy
   have:=(bq (h k hk)).1
   omega
 have hn:(("row":Str)::r.map bF).length<=11:=by rw[length_cons,length_map];omega
 have hj:(Txt.join " " (("row":Str)::r.map bF)).length<=33:=by
  have:=yd h hl
  unfold yc at this
  rw[eI,show Str.length "\n"=1 from rfl]at this
  omega
 unfold gz ur yc
 generalize (("row":Str)::r.map bF)=ys at hc hs hn hj⊢
 simp -implicitDefEqProofs only [mS,mD,mF,cU,au,reduceAdd,reduceSub,reduceEqDiff,reduceIte,ai,aj,aG,aH,aI,aJ,dh,eR,hc,R.kZ]
 rw[iw (by rw[length_map];exact big (by omega))]
 simp -implicitDefEqProofs only [mS,mD,mF,cU,au,reduceAdd,reduceSub,reduceEqDiff,reduceIte,ai,aj,aG,aH,aI,aJ]
 rw[sZ (by rw[show Str.length " "=1 from rfl];omega)]
 simp -implicitDefEqProofs only [mS,mD,mF,cU,au,reduceAdd,reduceSub,reduceEqDiff,reduceIte,ai,aj,aG,aH,aI,aJ]
 rw[dF (by rw[show Str.length "\n"=1 from rfl];omega)]
 simp -implicitDefEqProofs only [mS,mD,mF,cU,au,reduceAdd,reduceSub,reduceEqDiff,reduceIte,ai,aj,aG,aH,aI,aJ]
def K5(h:Int):Str:=Txt.join " " ["halves",bF h]++"\n"
def Cr(h:Int)(rs:List (List Int)):List Nat:=tl ("halves ":Str)++(tl (bF h)++(10::(rs.map Cq).flatten))
def pO(h:Int)(rs:List (List Int)):Str:=ofT (Cr h rs)
theorem FD(h:Int):tl (K5 h)=tl ("halves ":Str)++(tl (bF h)++[10]):=by
 unfold K5
 rw[bV,blank,xp,map_cons,wj,map_cons,map_nil]
 show tl ("halves":Str)++(32::tl (bF h)++[])++[10]=_
 rw[show tl ("halves ":Str)=tl ("halves":Str)++[32]by decide +kernel]
 simp
structure FmT(h:Int)(rs:List (List Int)):Prop where
 h: -1000<h/\h<1000
 l:rs.length<=40
 r:∀r∈rs,Fg r/\r.length<=10
theorem Cs:∀{rs:List (List Int)},(∀r∈rs,Fg r/\r.length<=10)->((rs.map Cq).flatten).length<=34*rs.length
 |[],_=>le_refl _
 |r::rs,h=>by
  have ih:=Cs (rs:=rs) fun x hx=>h x (by simp[hx])
  have h1:=yd (h r (by simp)).1 (h r (by simp)).2
  rw[<-bz,Aw]at h1
  rw[map_cons,flatten_cons,length_append,length_cons]
  omega
theorem K6{h:Int}{rs:List (List Int)}(g:FmT h rs):(pO h rs).length<=3000:=by
 have h1:=Cs g.r
 have h2:=g.l
 have h3:=wg g.h
 rw[<-bz]
 unfold pO
 rw[nN]
 unfold Cr
 rw[length_append,length_append,length_cons,bz,bz,show Str.length "halves "=7 from rfl]
 omega
theorem zB{t:Str}{n:Int}{w:List Int}{h:Int}{rs:List (List Int)}(g:FmT h rs)(hr:ar [.str t]=.ok (.tup [.int n,.lst (aO w)]))(hf:pB [.int n,.lst (aO w)]=.ok (.tup [.int h,.lst (rs.map fun r=>.lst (aO r))])):dQ [.str t]=.ok (.str (pO h rs)):=by
 have a0:∀(x y:D),iN [x,y] 0=some x:=fun _ _=>rfl
 have a1:∀(x y:D),iN [x,y] 1=some y:=fun _ _=>rfl
 have hl:=NU (x:="halves") (by decide +kernel) g.h
 unfold dQ xD
 simp -implicitDefEqProofs only [mS,mD,mF,cU,au,reduceAdd,reduceSub,reduceEqDiff,reduceIte,ai,aj,aG,aH,aI,aJ,nJ,rM,gR,hr,a0,a1,hf,hl]
 obtain⟨s',e,hj⟩:=oQ (S:=List Str×Sl) (b:=kI) (fun i q=>q.1=K5 h::(rs.take i).map yc)
  (fun q=>[.val (.str t),.val (.tup [.int n,.lst (aO w)]),.val (.tup [.int h,.lst (rs.map fun r=>.lst (aO r))]),.own (q.1.map D.str),q.2]) (rs.map fun r=>D.lst (aO r)) 0 ([K5 h],.no) rfl (by
   rintro j ⟨ls,s4⟩ x hs hx
   rw[zero_add]at hs⊢
   have GK:ls=K5 h::(rs.take j).map yc:=hs
   rw[getElem?_map]at hx
   cases Ly:rs[j]? with
   |none=>rw[Ly]at hx;cases hx
   |some r=>
    rw[Ly]at hx
    have Hr:x=.lst (aO r):=(Option.some.inj hx).symm
    subst Hr
    obtain⟨gf,gl⟩:=g.r r (mem_of_getElem? Ly)
    have Lv:j<rs.length:=(List.getElem?_eq_some_iff.mp Ly).1
    have aiE:=g.l
    refine⟨(ls++[yc r],.val (.lst (aO r))),?_,by show ls++[yc r]=_;rw[GK,xg Ly,map_append];rfl⟩
    unfold kI
    simp -implicitDefEqProofs only [fJ,reduceIte,ai,aj,aG,aH,aI,aJ]
    rw[iw (by rw[length_cons,cJ];exact big (by omega))]
    simp -implicitDefEqProofs only [reduceIte,ai,aj,aG,aH,aI,aJ,DI gf gl]
    rw[zZ (by rw[GK];simp;omega)]
    simp -implicitDefEqProofs only [reduceIte,ai,aj,aG,aH,aI,aJ,map_append])
 obtain⟨ls,s4⟩:=s'
 rw[zero_add,length_map,take_length]at hj
 dsimp only at e hj
 have e':fq kI (rs.map fun r=>D.lst (aO r)) [.val (.str t),.val (.tup [.int n,.lst (aO w)]),.val (.tup [.int h,.lst (rs.map fun r=>.lst (aO r))]),.own [.str (Txt.join " " ["halves",bF h]++"\n")],.no]=_:=e
 rw[e']
 have hjt:Txt.join "" ls=pO h rs:=by
  refine xh ?_
  unfold pO
  rw[nN,xo,hj,map_cons,flatten_cons,FD,map_map]
  unfold Cr
  rw[show(rs.map (tl∘yc))=rs.map Cq from map_congr_left fun r _=>Aw r]
  simp
 have hsz:(map (fun y=>Str.length y) ls).sum+ls.length*Str.length ""<=16777216:=by
  have h1:=x9 (B:=2000) ls fun y hy=>by
   rw[hj]at hy
   rcases mem_cons.mp hy with rfl|hy
   ·have:=wg g.h
    rw[<-bz,FD,length_append,length_append,bz,bz,show Str.length "halves "=7 from rfl,length_singleton]
    omega
   ·obtain⟨r,hr,rfl⟩:=mem_map.mp hy
    have:=yd (g.r r hr).1 (g.r r hr).2
    omega
  have h2:ls.length<=41:=by rw[hj,length_cons,length_map];have:=g.l;omega
  rw[show Str.length ""=0 from rfl]
  omega
 simp -implicitDefEqProofs only [reduceIte,ai,aj,aG,aH,aI,aJ,dh,sZ hsz,hjt]
theorem DJ{t:Str}{c:Str}(h:ar [.str t]=.err c):dQ [.str t]=.err c:=by
 unfold dQ xD
 simp -implicitDefEqProofs only [mS,mD,mF,cU,au,reduceAdd,reduceSub,reduceEqDiff,reduceIte,ai,aj,aG,aH,aI,aJ,nJ,rM,gR,h,R.aN,aQ]
theorem ye{t u:Str}{c:Str}(h:ar [.str t]=.err c):bK [.str t,.str u]=.err c:=by
 unfold bK qN
 simp -implicitDefEqProofs only [mS,mD,mF,cU,au,reduceAdd,reduceSub,reduceEqDiff,reduceIte,ai,aj,aG,aH,aI,aJ,nJ,rM,gR,h,R.aN,aQ]
theorem DK{t u:Str}{c:Str}{d:D}(h0:ar [.str t]=.ok d)(h:ar [.str u]=.err c):bK [.str t,.str u]=.err c:=by
 unfold bK qN
 simp -implicitDefEqProofs only [mS,mD,mF,cU,au,reduceAdd,reduceSub,reduceEqDiff,reduceIte,ai,aj,aG,aH,aI,aJ,nJ,rM,gR,h0,h,R.aN,aQ]
theorem yf{t c:Str}(h:ar [.str t]=.err c)(hm:c∈(["BadText","NoWord"]:List Str)){i:Int}(hi:i=0\/i=1\/i=2):dz [.str t,.int i]=.ok (.exc c):=by
 unfold dz pC
 have e1:dZ [.val (.str t),.val (.int i),.val .non,.no]=.err c:=by
  unfold dZ
  rcases hi with rfl|rfl|rfl
  ·simp -implicitDefEqProofs only [mS,mD,mF,cU,au,reduceAdd,reduceSub,reduceEqDiff,reduceIte,ai,aj,aG,aH,aI,aJ,show((0:Int)==0)=true from rfl,DJ h,R.aN]
  ·simp -implicitDefEqProofs only [mS,mD,mF,cU,au,reduceAdd,reduceSub,reduceEqDiff,reduceIte,ai,aj,aG,aH,aI,aJ,show((1:Int)==0)=false from rfl,show((1:Int)==1)=true from rfl,ye h,R.aN]
  ·simp -implicitDefEqProofs only [mS,mD,mF,cU,au,reduceAdd,reduceSub,reduceEqDiff,reduceIte,ai,aj,aG,aH,aI,aJ,show((2:Int)==0)=false from rfl,show((2:Int)==1)=false from rfl,DK XA h,R.aN]
 have e:tryD 3 ["BadText","NoWord"] dZ kJ [.val (.str t),.val (.int i),.val .non,.no]=.ok (.nx [.val (.str t),.val (.int i),.val (.exc c),.no]):=by
  unfold tryD
  rw[e1]
  show(if c∈(["BadText","NoWord"]:List Str)then _ else _)=_
  rw[if_pos hm]
  rfl
 simp -implicitDefEqProofs only [mS,mD,mF,cU,au,reduceAdd,reduceSub,reduceEqDiff,reduceIte,ai,aj,aG,aH,aI,aJ,e]
theorem Cu{t u c:Str}(h:ar [.str t]=.err c){o:Str}(hc:(c="BadText"/\o="text")\/(c="NoWord"/\o="word")):fz [.str t,.str u]=.ok (.str o):=by
 unfold fz rX
 have e1:f9 [.val (.str t),.val (.str u),.val (.str "")]=.err c:=by
  unfold f9
  simp -implicitDefEqProofs only [mS,mD,mF,cU,au,reduceAdd,reduceSub,reduceEqDiff,reduceIte,ai,aj,aG,aH,aI,aJ,ye h,R.aN]
 have e:Dc ["BadText","NoWord"] "BadText" "NoWord" f9 nS nU [.val (.str t),.val (.str u),.val (.str "")]=.ok (.nx [.val (.str t),.val (.str u),.val (.str o)]):=by
  unfold Dc
  rw[e1]
  rcases hc with⟨rfl,rfl⟩|⟨rfl,rfl⟩
  ·show(if("BadText":Str)∈(["BadText","NoWord"]:List Str)then _ else _)=_
   rw[if_pos mem_cons_self,if_pos (by decide +kernel)]
   rfl
  ·show(if("NoWord":Str)∈(["BadText","NoWord"]:List Str)then _ else _)=_
   rw[if_pos (mem_cons_of_mem _ mem_cons_self),if_neg (by decide +kernel),if_pos (by decide +kernel)]
   rfl
 simp -implicitDefEqProofs only [mS,mD,mF,cU,au,reduceAdd,reduceSub,reduceEqDiff,reduceIte,ai,aj,aG,aH,aI,aJ,e]
theorem FE{i:Int}(h0:0<=i)(h:i<10):(lK " " i).length<=10:=by rw[<-bz,blank,Ac,length_replicate];omega
def NV(sd n:Int)(w:List Int):Str:=lK " " (sd%3)++bF n++":"++Txt.join "" (w.map fun k=>lK " " (1+sd/3%2)++bF k)
theorem NW{sd n:Int}{w:List Int}(h1:1<=n)(h7:n<=7)(hx:∀k∈w,rS n k)(hl:w.length<=100):Cp n w (sd%3).toNat (sd/3%2).toNat (NV sd n w):=by
 refine⟨h1,h7,hx,hl,by omega,by omega,?_⟩
 unfold NV zA wq
 rw[bV,bV,bV,xo,blank,Ac,map_map,map_map]
 have e:∀k:Int,(tl∘fun k=>lK ⟨#[32]⟩ (1+sd/3%2)++bF k) k=((fun p:Nat×List Nat=>replicate (p.1+1) 32++p.2)∘fun k=>((sd/3%2).toNat,tl (bF k))) k:=fun k=>by
  show tl (lK ⟨#[32]⟩ (1+sd/3%2)++bF k)=replicate ((sd/3%2).toNat+1) 32++tl (bF k)
  rw[bV,Ac,show(1+sd/3%2).toNat=(sd/3%2).toNat+1 by omega]
 rw[map_congr_left fun k _=>e k]
 show _++_++[58]++_=_
 simp
theorem S9{x:Str}:mJ (CZ (.str x)) "str"=true:=rfl
theorem ni{t u:Str}(h:t.length<=1000)(hu:u.length<=10):dC (.str t) (.str u)=some (.str (t++u))/\(t++u).length<=1010:=⟨dF (by omega),by rw[eI];omega⟩
theorem NX{sd n:Int}{w:List Int}{a b:Nat}{t:Str}(h:Cp n w a b t):∃u,iN [D.str (t++" 0"),.str (t++","),.str (bF n++" 1"),.str "",.str (t++"\n")] (sd/16%5)=some (.str u)/\ar [.str u]=.err "BadText":=by
 have hl:=h.len
 have h4:=h.n7
 have h5:=h.n0
 have l1:∀u:Str,u.length<=10->(t++u).length<=20000:=fun u hu=>by rw[eI];omega
 rcases(show sd/16%5=0\/sd/16%5=1\/sd/16%5=2\/sd/16%5=3\/sd/16%5=4 by omega)with v|v|v|v|v
 ·exact⟨_,by rw[v];rfl,h.zero (by rw[bV];congr 1) (l1 _ (by decide +kernel))⟩
 ·exact⟨_,by rw[v];rfl,h.end_ (.inr rfl) (by rw[bV];congr 1) (l1 _ (by decide +kernel))⟩
 ·refine⟨_,by rw[v];rfl,Fw ?_ ?_⟩
  ·have:=(bq (k:=n) (by omega)).1
   rw[eI,show Str.length " 1"=2 from rfl]
   omega
  ·obtain⟨_,_,_,f4,_⟩:=bq (k:=n) (by omega)
   rw[bV]
   intro z
   rcases mem_append.mp z with z|z
   ·exact f4 z
   ·exact absurd z (by decide +kernel)
 ·exact⟨_,by rw[v];rfl,Fw (by decide +kernel) (by decide +kernel)⟩
 ·exact⟨_,by rw[v];rfl,h.end_ (.inl rfl) (by rw[bV];congr 1) (l1 _ (by decide +kernel))⟩
theorem NY{n:Int}(h1:1<=n)(h7:n<=7):tl (bF (-n))=45::tl (bF n):=by
 obtain⟨_,_,_,_,e1⟩:=bq (k:=n) (by omega)
 obtain⟨_,_,_,_,e2⟩:=bq (k:= -n) (by omega)
 rw[e1,e2,if_pos (by omega),if_neg (by omega),show 48- -n=48+n by omega]
theorem K7{sd n:Int}{w:List Int}{a b:Nat}{t:Str}(h:Cp n w a b t):∃u,iN [D.str (t++" "++bF n),.str (t++" -"++bF n),.str "8:",.str "0:",.str "9: 8"] (sd/80%5)=some (.str u)/\ar [.str u]=.err "NoWord":=by
 have hl:=h.len
 have h4:=h.n7
 have h5:=h.n0
 have fn:=(bq (k:=n) (by omega)).1
 have l1:∀u:Str,u.length<=10->(t++u++bF n).length<=20000:=fun u hu=>by rw[eI,eI];omega
 rcases(show sd/80%5=0\/sd/80%5=1\/sd/80%5=2\/sd/80%5=3\/sd/80%5=4 by omega)with v|v|v|v|v
 ·exact⟨_,by rw[v];rfl,h.none_ (.inl rfl) (by rw[bV,bV,List.append_assoc];rfl) (l1 _ (by decide +kernel))⟩
 ·exact⟨_,by rw[v];rfl,h.none_ (m:= -n) (.inr rfl) (by rw[bV,bV,List.append_assoc,NY h5 h4];rfl) (l1 _ (by decide +kernel))⟩
 ·exact⟨_,by rw[v];rfl,adR⟩
 ·exact⟨_,by rw[v];rfl,adS⟩
 ·exact⟨_,by rw[v];rfl,Xz⟩
theorem K8{h:Int}{rs:List (List Int)}{j:Nat}{r:List Int}(hr:rs[j]?=some r):Cr h (rs.take (j+1))=Cr h (rs.take j)++Cq r:=by
 unfold Cr
 rw[xg hr,map_append,flatten_append]
 simp
theorem XC(ns:List Int)(hl:ns.length<=63):xH [.lst (aO ns)]=.ok (.bl true):=by
 unfold xH PR
 obtain⟨c,hc⟩:=Wz ns
 simp -implicitDefEqProofs only [mS,mD,mF,cU,au,reduceAdd,reduceSub,reduceEqDiff,reduceIte,ai,aj,aG,aH,aI,aJ]
 rw[show[D.int 0]=aO [0]from rfl,vR,iQ (by rw[length_append,length_singleton];omega)]
 simp -implicitDefEqProofs only [reduceIte,ai,aj,aG,aH,aI,aJ]
 rw[vQ,z0 (by decide),show(0:Int).toNat=0 from rfl,hc]
 simp -implicitDefEqProofs only [reduceIte,ai,aj,aG,aH,aI,aJ,map_some,IV]
 rw[gQ _ _ (by decide)]
 simp -implicitDefEqProofs only [reduceIte,ai,aj,aG,aH,aI,aJ,Dh]
 generalize hsd:c%1000000000=sd
 obtain⟨n1,n7⟩:=Bx sd
 generalize lM sd=n at n1 n7
 rw[zW,C6 _ _ (by decide),JM _ _ _ (by rw[length_take];omega) (by omega) (by decide)]
 simp -implicitDefEqProofs only [reduceIte,ai,aj,aG,aH,aI,aJ]
 generalize hw:um (ns.take (16:Int).toNat) n 16=w
 have hx:∀k∈w,rS n k:=hw▸JL
 have UO:w.length<=16:=by
  have:=Di (ns.take (16:Int).toNat) n 16
  rw[hw]at this
  exact this
 have hT:=NW (sd:=sd) n1 n7 hx (by omega)
 have CB:=hT.len
 have hf:=hT.f
 have fn:=(bq (k:=n) (by omega)).1
 have r1:=emod_nonneg sd (show(3:Int)≠0 by decide)
 have r2:=emod_lt_of_pos sd (show(0:Int)<3 by decide)
 have r3:=emod_nonneg (sd/3) (show(2:Int)≠0 by decide)
 have r4:=emod_lt_of_pos (sd/3) (show(0:Int)<2 by decide)
 have q1:=FE r1 (by omega)
 have q2:=FE (i:=1+sd/3%2) (by omega) (by omega)
 have YD:bh (bN 0) B0 xE (eT 1 [.int sd]) (aO w)=.ok ((w.map fun k=>lK " " (1+sd/3%2)++bF k).map D.str):=qT (fun k=>lK " " (1+sd/3%2)++bF k) w fun k hk=>⟨_,fJ _ _ _,rfl,by
  have k9:=hf k hk
  have fk:=(bq k9).1
  unfold xE eT
  simp -implicitDefEqProofs only [reduceIte,ai,aj,aG,aH,aI,aJ]
  rw[oO _ _ (by decide)]
  simp -implicitDefEqProofs only [reduceIte,ai,aj,aG,aH,aI,aJ]
  rw[gQ _ _ (by decide)]
  simp -implicitDefEqProofs only [reduceIte,ai,aj,aG,aH,aI,aJ]
  rw[Fj (by omega) (by omega) (by decide +kernel)]
  simp -implicitDefEqProofs only [reduceIte,ai,aj,aG,aH,aI,aJ,sY (show-1000<k/\k<1000 by omega)]
  rw[dF (by omega)]
  simp -implicitDefEqProofs only [reduceIte,ai,aj,aG,aH,aI,aJ]⟩
 have hsz:=x9 (B:=20) (w.map fun k=>lK " " (1+sd/3%2)++bF k) fun y hy=>by
  obtain⟨k,hk,rfl⟩:=mem_map.mp hy
  have fk:=(bq (hf k hk)).1
  rw[eI]
  omega
 rw[length_map]at hsz
 rw[gQ _ _ (by decide)]
 simp -implicitDefEqProofs only [reduceIte,ai,aj,aG,aH,aI,aJ]
 rw[Fj (by omega) (by omega) (by decide +kernel)]
 simp -implicitDefEqProofs only [reduceIte,ai,aj,aG,aH,aI,aJ,sY (show-1000<n/\n<1000 by omega)]
 rw[dF (by omega)]
 simp -implicitDefEqProofs only [reduceIte,ai,aj,aG,aH,aI,aJ]
 rw[dF (by rw[eI,show Str.length ":"=1 from rfl];omega)]
 simp -implicitDefEqProofs only [reduceIte,ai,aj,aG,aH,aI,aJ,dh,eR,YD,R.kZ]
 rw[iw (by rw[length_map,length_map];exact big (by omega))]
 simp -implicitDefEqProofs only [reduceIte,ai,aj,aG,aH,aI,aJ]
 rw[sZ (by rw[length_map,show Str.length ""=0 from rfl];omega)]
 simp -implicitDefEqProofs only [reduceIte,ai,aj,aG,aH,aI,aJ]
 have adU:(lK " " (sd%3)++bF n++":"++Txt.join "" (w.map fun k=>lK " " (1+sd/3%2)++bF k)).length<=1000:=CB
 rw[dF (by rw[<-eI];omega)]
 simp -implicitDefEqProofs only [reduceIte,ai,aj,aG,aH,aI,aJ]
 rw[show lK " " (sd%3)++bF n++":"++Txt.join "" (w.map fun k=>lK " " (1+sd/3%2)++bF k)=NV sd n w from rfl]
 generalize NV sd n w=t at hT CB
 clear adU YD hsz
 obtain⟨m,rfl⟩:∃m:Nat,n=m:=⟨n.toNat,by omega⟩
 obtain⟨h,rs,hfm,fo⟩:=NF (n:=m) (by omega) (by omega) hx (by omega)
 have g:FmT h rs:=⟨fo.h,fo.l,fun r hr=>⟨fun x hx=>by have:=(fo.r r hr).2 x hx;omega,by have:=(fo.r r hr).1;omega⟩⟩
 simp -implicitDefEqProofs only [reduceIte,ai,aj,aG,aH,aI,aJ,hfm,Z2,sY g.h]
 have hfl:=wg g.h
 rw[dF (by rw[show Str.length "halves "=7 from rfl];omega)]
 simp -implicitDefEqProofs only [reduceIte,ai,aj,aG,aH,aI,aJ]
 rw[dF (by rw[eI,show Str.length "halves "=7 from rfl,show Str.length "\n"=1 from rfl];omega)]
 simp -implicitDefEqProofs only [reduceIte,ai,aj,aG,aH,aI,aJ]
 obtain⟨⟨due,s8⟩,e,hj⟩:=oQ (S:=Str×Sl) (b:=xG) (fun i q=>tl q.1=Cr h (rs.take i))
  (fun q=>[.val (.lst (aO ns)),.val (.int sd),.val (.int m),.val (.lst (aO w)),.val (.str t),.val (.int h),.val (.lst (rs.map fun r=>.lst (aO r))),.val (.str q.1),q.2,.no,.no,.no,.no]) (rs.map fun r=>D.lst (aO r)) 0 ("halves "++bF h++"\n",.no) (by
   show tl ("halves "++bF h++"\n")=_
   rw[bV,bV,List.append_assoc]
   rfl) (by
   rintro j ⟨d,s8⟩ x hs hxx
   rw[zero_add]at hs⊢
   have GK:tl d=Cr h (rs.take j):=hs
   rw[getElem?_map]at hxx
   cases Ly:rs[j]? with
   |none=>rw[Ly]at hxx;cases hxx
   |some r=>
    rw[Ly]at hxx
    have Hr:x=.lst (aO r):=(Option.some.inj hxx).symm
    subst Hr
    obtain⟨gf,gl⟩:=g.r r (mem_of_getElem? Ly)
    have Ba:d.length<=3000:=by
     have:=K6 (h:=h) (rs:=rs.take j) ⟨g.h,by rw[length_take];have:=g.l;omega,fun r hr=>g.r r (mem_of_mem_take hr)⟩
     unfold pO at this
     rw[<-bz,nN,<-GK,bz]at this
     exact this
    have YD:bh (bN 0) B1 xF (eT 1 []) (aO r)=.ok ((r.map fun k=>(" ":Str)++bF k).map D.str):=qT (fun k=>(" ":Str)++bF k) r fun k hk=>⟨_,fJ _ _ _,rfl,by
     have k9:=gf k hk
     have fk:=(bq k9).1
     unfold xF eT
     simp -implicitDefEqProofs only [reduceIte,ai,aj,aG,aH,aI,aJ,sY (show-1000<k/\k<1000 by omega)]
     rw[dF (by rw[show Str.length " "=1 from rfl];omega)]
     simp -implicitDefEqProofs only [reduceIte,ai,aj,aG,aH,aI,aJ]⟩
    have hsz:=x9 (B:=20) (r.map fun k=>(" ":Str)++bF k) fun y hy=>by
     obtain⟨k,hk,rfl⟩:=mem_map.mp hy
     have fk:=(bq (gf k hk)).1
     rw[eI,show Str.length " "=1 from rfl]
     omega
    rw[length_map]at hsz
    have Lv:tl (Txt.join "" (r.map fun k=>(" ":Str)++bF k))=(r.map fun x=>32::tl (bF x)).flatten:=by
     rw[xo,map_map]
     congr 1
     exact map_congr_left fun k _=>by
      show tl (" "++bF k)=_
      rw[bV]
      rfl
    have hjn:(Txt.join "" (r.map fun k=>(" ":Str)++bF k)).length<=30:=by
     have:=yb gf
     rw[<-bz,Lv]
     omega
    refine⟨(d++"row"++Txt.join "" (r.map fun k=>(" ":Str)++bF k)++"\n",.val (.lst (aO r))),?_,?_⟩
    ·unfold xG
     simp -implicitDefEqProofs only [fJ,reduceIte,ai,aj,aG,aH,aI,aJ]
     rw[dF (by rw[show Str.length "row"=3 from rfl];omega)]
     simp -implicitDefEqProofs only [reduceIte,ai,aj,aG,aH,aI,aJ,dh,eR,YD,R.kZ]
     rw[iw (by rw[length_map,length_map];exact big (by omega))]
     simp -implicitDefEqProofs only [reduceIte,ai,aj,aG,aH,aI,aJ]
     rw[sZ (by rw[length_map,show Str.length ""=0 from rfl];omega)]
     simp -implicitDefEqProofs only [reduceIte,ai,aj,aG,aH,aI,aJ]
     rw[dF (by rw[eI,show Str.length "row"=3 from rfl];omega)]
     simp -implicitDefEqProofs only [reduceIte,ai,aj,aG,aH,aI,aJ]
     rw[dF (by rw[eI,eI,show Str.length "row"=3 from rfl,show Str.length "\n"=1 from rfl];omega)]
     simp -implicitDefEqProofs only [reduceIte,ai,aj,aG,aH,aI,aJ]
    ·show tl (d++"row"++Txt.join "" (r.map fun k=>(" ":Str)++bF k)++"\n")=_
     rw[K8 Ly,bV,bV,bV,Lv,GK]
     unfold Cq
     rw[List.append_assoc,List.append_assoc]
     rfl)
 rw[zero_add,length_map,take_length]at hj
 dsimp only at e hj
 rw[e]
 have adV:due=pO h rs:=Sd hj
 subst adV
 have hc1:lW [.str t]=.ok (.str (pO h rs)):=by
  show R.ne (dQ [.str t])=_
  rw[zB g (hT.good 0 (by simp) (by omega)) hfm]
  rfl
 obtain⟨hb1,hb2⟩:=ni (t:=t) (u:="  ") CB (by decide +kernel)
 have hc2:lW [.str (t++"  ")]=.ok (.str (pO h rs)):=by
  show R.ne (dQ [.str (t++"  ")])=_
  rw[zB g (hT.good 2 (by rw[bV];rfl) (by omega)) hfm]
  rfl
 simp -implicitDefEqProofs only [reduceIte,ai,aj,aG,aH,aI,aJ,hc1,beq_self_eq_true,Bool.not_true,hb1,hc2,S9]
 obtain⟨ub,hat,hub⟩:=NX (sd:=sd) hT
 obtain⟨un,han,hun⟩:=K7 (sd:=sd) hT
 obtain⟨b1,_⟩:=ni (t:=t) (u:=" 0") CB (by decide +kernel)
 obtain⟨b2,_⟩:=ni (t:=t) (u:=",") CB (by decide +kernel)
 obtain⟨b3,_⟩:=ni (t:=bF m) (u:=" 1") (by omega) (by decide +kernel)
 obtain⟨b4,_⟩:=ni (t:=t) (u:="\n") CB (by decide +kernel)
 obtain⟨b5,l5⟩:=ni (t:=t) (u:=" ") CB (by decide +kernel)
 obtain⟨b6,l6⟩:=ni (t:=t) (u:=" -") CB (by decide +kernel)
 have b7:dC (.str (t++" ")) (.str (bF m))=some (.str (t++" "++bF m)):=dF (by omega)
 have b8:dC (.str (t++" -")) (.str (bF m))=some (.str (t++" -"++bF m)):=dF (by omega)
 have ks:oR [.int m]=some (.str (bF m)):=sY (by omega)
 have dv1:ud (.int sd) (.int 16)=some (.int (sd/16)):=oO _ _ (by decide)
 have dv2:ud (.int sd) (.int 80)=some (.int (sd/80)):=oO _ _ (by decide)
 have md1:mH (.int (sd/16)) (.int 5)=some (.int (sd/16%5)):=gQ _ _ (by decide)
 have md2:mH (.int (sd/80)) (.int 5)=some (.int (sd/80%5)):=gQ _ _ (by decide)
 have f5:∀a b c d e:D,fit [a,b,c,d,e]=.ok [a,b,c,d,e]:=fun _ _ _ _ _=>iw (big (show 5<=1000000 by decide))
 have hstep:∀(i:Int),(i=0\/i=1\/i=2)->∀(s8 Gq Vu CA:Sl),si (.int i) [.val (.lst (aO ns)),.val (.int sd),.val (.int m),.val (.lst (aO w)),.val (.str t),.val (.int h),.val (.lst (rs.map fun r=>.lst (aO r))),.val (.str (pO h rs)),s8,.val (.str (pO h rs)),Gq,Vu,CA]=.ok (.nx [.val (.lst (aO ns)),.val (.int sd),.val (.int m),.val (.lst (aO w)),.val (.str t),.val (.int h),.val (.lst (rs.map fun r=>.lst (aO r))),.val (.str (pO h rs)),s8,.val (.str (pO h rs)),.val (.int i),.val (.str ub),.val (.str un)]):=fun i hi s8 Gq Vu CA=>by
  unfold si
  simp -implicitDefEqProofs only [fJ,reduceIte,ai,aj,aG,aH,aI,aJ,b1,b2,b3,b4,b5,b6,b7,b8,ks,dv1,dv2,md1,md2,f5,hat,han]
  rw[yf hub mem_cons_self hi,yf hun (mem_cons_of_mem _ mem_cons_self) hi]
  simp -implicitDefEqProofs only [reduceIte,ai,aj,aG,aH,aI,aJ]
  rw[Qk (b:=true) mem_cons_self (by decide +kernel),Qk (b:=true) (mem_cons_of_mem _ mem_cons_self) (by decide +kernel)]
  simp -implicitDefEqProofs only [reduceIte,ai,aj,aG,aH,aI,aJ,Bool.not_true]
 have XD:fq si [.int 0,.int 1,.int 2] [.val (.lst (aO ns)),.val (.int sd),.val (.int m),.val (.lst (aO w)),.val (.str t),.val (.int h),.val (.lst (rs.map fun r=>.lst (aO r))),.val (.str (pO h rs)),s8,.val (.str (pO h rs)),.no,.no,.no]=.ok (.nx [.val (.lst (aO ns)),.val (.int sd),.val (.int m),.val (.lst (aO w)),.val (.str t),.val (.int h),.val (.lst (rs.map fun r=>.lst (aO r))),.val (.str (pO h rs)),s8,.val (.str (pO h rs)),.val (.int 2),.val (.str ub),.val (.str un)]):=by
  rw[uE (hstep 0 (.inl rfl) _ _ _ _),uE (hstep 1 (.inr (.inl rfl)) _ _ _ _),uE (hstep 2 (.inr (.inr rfl)) _ _ _ _)]
  rfl
 have adW:Ir [.int 3]=.ok [.int 0,.int 1,.int 2]:=(Rw 3 (by decide)).trans rfl
 simp -implicitDefEqProofs only [reduceIte,ai,aj,aG,aH,aI,aJ,adW,XD,Cu hub (.inl ⟨rfl,rfl⟩),Cu hun (.inr ⟨rfl,rfl⟩),beq_self_eq_true]
theorem Tc{K:PySem.W.Frag}{H:Hp}{a:Addr}(ns:List Int)(hl:ns.length<=63)(hS:cV K H a (ns.map V.int)):Ea K Ho xH [.ref a] H (fun v _=>v=.bl true) fun _ _ _=>False:=WA (XC ns hl) hS
theorem NZ(s0:Sl)(b k:Int)(hk:1<=k/\k<=7)(s2:Sl):jA (.int k) [s0,.val (.int b),s2]=.ok (.nx [s0,.val (.int (Builtin.bitOr b (1*2^(k-1).toNat))),.val (.int k)]):=by
 unfold jA
 simp -implicitDefEqProofs only [fJ,mS,mD,mF,cU,au,reduceAdd,reduceSub,reduceEqDiff,reduceIte,ai,aj,aG,aH,aI,aJ]
 rw[show MP (.int 1) (.int (k-1))=some (.int (1*2^(k-1).toNat))from if_pos (by
  unfold FW
  exact⟨by omega,by omega,by decide⟩)]
 simp -implicitDefEqProofs only [reduceIte,ai,aj,aG,aH,aI,aJ,Gv]
theorem zC(s0:Sl):∀(ks:List Int)(b:Int)(s2:Sl),(∀k∈ks,1<=k/\k<=7)->∃s2',fq jA (aO ks) [s0,.val (.int b),s2]=.ok (.nx [s0,.val (.int (ks.foldl (fun b k=>Builtin.bitOr b (1*2^(k-1).toNat)) b)),s2'])
 |[],b,s2,_=>⟨s2,rfl⟩
 |k::ks,b,s2,h=>by
  rw[<-wQ,uE (NZ s0 b k (h k (by simp)) s2)]
  exact zC s0 ks _ _ fun x hx=>h x (by simp[hx])
theorem N2:∀ks:List Int,(∀k∈ks,1<=k/\k<=7)->lQ [.lst (aO ks)]=.ok (.int (Ds ks)):=fun ks h=>by
 unfold lQ zg
 simp -implicitDefEqProofs only [mS,mD,mF,cU,au,reduceAdd,reduceSub,reduceEqDiff,reduceIte,ai,aj,aG,aH,aI,aJ]
 obtain⟨s2,e⟩:=zC (.val (.lst (aO ks))) ks 0 .no h
 rw[e]
 simp -implicitDefEqProofs only [reduceIte,ai,aj,aG,aH,aI,aJ]
 rfl
theorem N3(n:Nat):Iv n (upTo n).reverse (upTo n).reverse:=by
 have c:∀p,p<n->ah (upTo n).reverse p=((n-1-p:Nat):Int):=fun p hp=>by
  rw[Cb (by rw[aV];exact hp),aV,bR (by omega)]
 have h:∀p,p<n->0<=ah (upTo n).reverse p/\ah (upTo n).reverse p<n/\ah (upTo n).reverse (ah (upTo n).reverse p).toNat=p:=fun p hp=>by
  rw[c p hp,toNat_natCast,c _ (by omega)]
  refine⟨by omega,by omega,?_⟩
  omega
 exact⟨by rw[length_reverse,aV],by rw[length_reverse,aV],h,h⟩
theorem N4(n:Nat)(hn:1<=n/\n<=7):xr [.int n]=.ok (aO (upTo n).reverse):=by
 unfold xr JS
 simp -implicitDefEqProofs only [mS,mD,mF,cU,au,reduceAdd,reduceSub,reduceEqDiff,reduceIte,ai,aj,aG,aH,aI,aJ]
 have er:Jo [.int ((n:Int)-1),.int (-1),.int (-1)]=.ok (Jm ((n:Int)-1) (-1) (Builtin.Range.rangeSize ((n:Int)-1) (-1) (-1)).toNat):=if_pos (by unfold RC;omega)
 rw[er]
 have e2:Jm ((n:Int)-1) (-1) (Builtin.Range.rangeSize ((n:Int)-1) (-1) (-1)).toNat=aO (upTo n).reverse:=by
  have hc:n=1\/n=2\/n=3\/n=4\/n=5\/n=6\/n=7:=by omega
  rcases hc with rfl|rfl|rfl|rfl|rfl|rfl|rfl<;>rfl
 rw[e2]
 simp -implicitDefEqProofs only [reduceIte,ai,aj,aG,aH,aI,aJ,jy]
end DL
namespace DL.pD
open PySem PySem.Spec PyProof.Rows L2 DL
section
variable{P:Program}{w:World}{K:PySem.W.Frag}{mg:Str->Option Value}{base:Heap}(t:Tb K mg)
theorem yg:Ok P w K mg base 1 t.iX t.iY ["n","k"] fO:=by
 have h:=O1 (P:=P) (w:=w) (base:=base) (k:=0) vC t.lj fun cdv A outer s H E hr=>
  (bg (iq (U5 (PE.aD (Ge (qK (aY.u6 hr)) mO (nB 1) (PE.aD cI) (aR _))) (U4 (Ge wt wF (PE.aD (qq wu zQ t.EZ C0 (aB (nB 1) bu))) (nB 0) (aR _))))))
 exact h
theorem G9:mQ P w K mg base 1 t.sF t.sG ["word"] oX:=by
 have h:=rK (P:=P) (w:=w) (base:=base) (k:=0) Du t.xQ fun cdv A outer s H E hr=>
  (bg (lH (kC (IQ (N:=["k"]) (nt:=1) (caps:=[]) (aa ux) ["word"] (by decide +kernel)) rfl (zR (iV t.nc (nD 0))) (Kp.ok (yE (nt:=1) 0)) (fun _ _ _ _ _=>(vx 0 (by show Nodup (["k"]:List Str);decide +kernel))) (fun _ _ _ _ _=>Oq) (fun _ _ _ _ _=>(Le jP iP (nB 0))))))
 exact h
theorem DM:mQ P w K mg base 1 t.p7 t.p8 ["word"] lN:=by
 have h:=rK (P:=P) (w:=w) (base:=base) (k:=0) pG t.uz fun cdv A outer s H E hr=>
  (aK (wG 1 (oK bJ) pG.nd)
  (aK (wH PassesOwn.never rfl (iL (nD 0)) (vx 2 pG.nd) (bg (AG (D8 (cX nC kU (PE.aD (qq lF pV t.ve kX (aB (nB 1) bu))) (PE.aD cI) (aR _)) (D7 (cX (jl (aY.u6 hr)) fZ (PE.aD (Cz (nL 1) (PE.aD (Le jP iP (PE.aD cI))))) (PE.aD (Le jP iP (nB 2))) (aR _)))).pt (bg (VH 1)) (bg (OT 1 (nD 2))))))
  (bg (Io 1))))
 exact h
theorem Cv:mQ P w K mg base 1 t.iD t.iF ["n"] cW:=by
 have h:=rK (P:=P) (w:=w) (base:=base) (k:=0) Ah t.e9 fun cdv A outer s H E hr=>
  (bg (lH (Ru rfl t.uB t.sP (aB (nB 0) bu))))
 exact h
theorem N5:mQ P w K mg base 1 t.Ak t.Al ["n"] xr:=by
 have h:=rK (P:=P) (w:=w) (base:=base) (k:=0) Ko t.xR fun cdv A outer s H E hr=>
  (bg (lH (ME rfl t.uB t.sP (aB (PE.aD (aW dq cZ (nB 0) (PE.aD cI))) (aB (PE.aD (Le jP iP (PE.aD cI))) (aB (PE.aD (Le jP iP (PE.aD cI))) bu))))))
 exact h
theorem Ay:mQ P w K mg base 1 t.gC t.gD ["row"] bY:=by
 have h:=rK (P:=P) (w:=w) (base:=base) (k:=0) iU t.gE fun cdv A outer s H E hr=>
  (aK (wG 1 (ZV (oK (az cI bJ)) (PE.aD (qq lF pV t.ve kX (aB (nB 0) bu)))) iU.nd)
  (aK (wH PassesOwn.never rfl (iE t.pM (nD 0)) (Z1 2 rfl (pY (vx 2 iU.nd) (pY (vx 3 iU.nd) C4))) (bg (zX 1 (nB 3) (nD 2))))
  (bg (Io 1))))
 exact h
theorem K9:mQ P w K mg base 1 t.sH t.sI ["row"] p4:=by
 have h:=rK (P:=P) (w:=w) (base:=base) (k:=0) G2 t.p9 fun cdv A outer s H E hr=>
  (bg (lH (kC (IQ (N:=["k","row"]) (nt:=1) (caps:=[0]) (aa xM) ["row"] (by decide +kernel)) rfl (zR (iR2 t.sP (aB (PE.aD cI) (aB (PE.aD (qq lF pV t.ve kX (aB (nB 0) bu))) bu)))) (Kp.ok (yE (nt:=1) 0)) (fun _ _ _ _ _=>(vx 0 (by show Nodup (["k","row"]:List Str);decide +kernel))) (fun _ _ _ _ _=>(ts1 (cX nC kU (PE.aD (Cz (nL 1) (PE.aD (aW dq cZ (nB 0) (PE.aD cI))))) (PE.aD (Cz (nL 1) (nB 0))) (aR _)))) (fun _ _ _ _ _=>(nD 0)))))
 exact h
theorem mq:mQ P w K mg base 1 t.bj t.bp ["row","k"] aP:=by
 have h:=rK (P:=P) (w:=w) (base:=base) (k:=0) lh t.aT fun cdv A outer s H E hr=>
  (bg (lH (Ik (PE.rC (Ik (PE.rC (zO (nL 0) U8 (Il (PE.aD (aW dq cZ (nB 1) (PE.aD cI)))))) (PE.rC (oK (az (Cz (nL 0) (nB 1)) (az (Cz (nL 0) (PE.aD (aW dq cZ (nB 1) (PE.aD cI)))) bJ)))))) (PE.rC (zO (nL 0) (Il (PE.aD (aW jO eU (nB 1) (PE.aD cI)))) U8)))))
 exact h
theorem yh:mQ P w K mg base 1 t.iZ t.i6 ["row"] fQ:=by
 have h:=rK (P:=P) (w:=w) (base:=base) (k:=0) vD t.lq fun cdv A outer s H E hr=>
  (bg (lH (kC (IQ (N:=["string","row"]) (nt:=1) (caps:=[0]) (aa jZ) ["row"] (by decide +kernel)) rfl (zR (iV t.nc (nD 0))) (Kp.ok (yE (nt:=1) 0)) (fun _ _ _ _ _=>(vx 0 (by show Nodup (["string","row"]:List Str);decide +kernel))) (fun _ _ _ _ _=>Oq) (fun _ _ _ _ _=>(aW dq cZ (PE.aD (aW dq cZ (PE.aD (qq lF pV t.ve kX (aB (nB 1) bu))) (PE.aD cI))) (nB 0))))))
 exact h
theorem DN:Ok P w K mg base 1 t.qb t.qc ["crossings"] lQ:=by
 have h:=O1 (P:=P) (w:=w) (base:=base) (k:=0) kK t.gF fun cdv A outer s H E hr=>
  (aK (fu 1 cI kK.nd)
  (aK (wH PassesOwn.never rfl (iL (nD 0)) (vx 2 kK.nd) (bg (OU 1 V9 (PE.aD (aW QN MQ (PE.aD cI) (PE.aD (aW dq cZ (nB 2) (PE.aD cI))))) kK.nd)))
  (bg (iq (nD 1)))))
 exact h
theorem vH:tR P w K mg base 1 t.fU t.fV ["piece"] cg:=by
 have h:=Jh (P:=P) (w:=w) (base:=base) (k:=0) nW t.jc fun cdv A outer s H E hr=>
  (aK (fu 1 (MK t.ng t.iJ (nB 0) (PE.aD cI)) nW.nd)
  (aK (AG (cX (jl (aY.u6 hr)) fZ (nB 1) (PE.aD cI) (aR _)) (bg (wR t.nh hr.hd)) oN)
  (bg (iq (nD 1)))))
 exact h
theorem DP:Ok P w K mg base 1 t.qg t.qh ["parts"] gz:=by
 have h:=O1 (P:=P) (w:=w) (base:=base) (k:=0) B4 t.qi fun cdv A outer s H E hr=>
  (bg (iq (aW aS bw (PE.aD (Eo (PE.aD cS) (PE.rC (kC (IQ (N:=["part"]) (nt:=1) (caps:=[]) (aa qQ) ["parts"] (by decide +kernel)) rfl (zR (iL (nD 0))) (Kp.ok (yE (nt:=1) 0)) (fun _ _ _ _ _=>(vx 0 (by show Nodup (["part"]:List Str);decide +kernel))) (fun _ _ _ _ _=>Oq) (fun _ _ _ _ _=>(oM z9 JC t.qE mK (aB (nB 0) bu))))))) (PE.aD cS))))
 exact h
theorem Cw:Ok P w K mg base 1 t.mZ t.m7 ["_law_cell","_law_k","_law_factor"] jU:=by
 have h:=O1 (P:=P) (w:=w) (base:=base) (k:=0) Ai t.qR fun cdv A outer s H E hr=>
  (bg (iq (aW ko kr (PE.aD (aW gM dX (PE.aD (aW CK zN (PE.aD (aW jO eU (PE.aD (aW jO eU (PE.aD (aW CK zN (PE.aD (aW gM dX (nB 0) (PE.aD cI))) (PE.aD cI))) (PE.aD (aW CK zN (nB 1) (nB 1))))) (PE.aD cI))) (nB 2))) (PE.aD cI))) (PE.aD cI))))
 exact h
theorem vI:Ok P w K mg base 1 t.g4 t.g5 ["_law_seed","_law_least","_law_most"] eY:=by
 have h:=O1 (P:=P) (w:=w) (base:=base) (k:=0) lZ t.j6 fun cdv A outer s H E hr=>
  (aK (AG (D8 (cX (jl (aY.u6 hr)) fZ (nB 1) (PE.aD cI) (aR _)) (D7 (cX (jl (aY.u6 hr)) fZ (PE.aD (aW gM dX (nB 0) (PE.aD cI))) (PE.aD cI) (aR _)))).pt (bg (iq cI)) oN)
  (aK (fu 1 (qq (FY rfl) Im t.PV Rn (aB (PE.aD cI) (aB (nB 1) bu))) lZ.nd)
  (bg (iq (aW jO eU (nB 1) (PE.aD (aW gM dX (PE.aD (aW ko kr (nB 0) (PE.aD cI))) (PE.aD (aW jO eU (PE.aD (aW dq cZ (nB 2) (nB 1))) (PE.aD cI))))))))))
 exact h
theorem uJ:Ok P w K mg base 1 t.gn t.gp ["_law_number","_law_n"] dH:=by
 have h:=O1 (P:=P) (w:=w) (base:=base) (k:=0) kL t.jr fun cdv A outer s H E hr=>
  (aK (fu 2 (aW jO eU (PE.aD cI) (PE.aD (aW gM dX (nB 0) (PE.aD (aW dq cZ (nB 1) (PE.aD cI)))))) kL.nd)
  (aK (AG (cX (jl (aY.u6 hr)) fZ (PE.aD (aW gM dX (PE.aD (aW ko kr (nB 0) (PE.aD cI))) (PE.aD cI))) (PE.aD cI) (aR _)) (bg (iq (Le jP iP (nB 2)))) oN)
  (bg (iq (nD 2)))))
 exact h
theorem Cy(lA:Ok P w K mg base 1 t.iX t.iY ["n","k"] fO):tR P w K mg base 2 t.mf t.mh ["n","word"] iz:=by
 have h:=Jh (P:=P) (w:=w) (base:=base) (k:=1) u0 t.uy fun cdv A outer s H E hr=>
  (aK (AG (A7 (cX wt wF (nB 0) (PE.aD (glI t.kN)) (aR _)) (Gi (cX nC kU (nB 0) (PE.aD (glI t.n8)) (aR _)))).pt (bg (wR t.uD hr.hd)) oN)
  (aK (wH VO rfl (iL (nD 1)) (vx 2 u0.nd) (bg (AG (A6 (Gj (PE.aD (IM O0 t.lj lA (hr.mono (by decide)) (aB (nB 0) (aB (nB 2) bu)))))) (bg (wR t.uD hr.hd)) oN)))
  (bg (iq XW))))
 exact h
theorem Ha(bZ:mQ P w K mg base 1 t.gC t.gD ["row"] bY)(qk:mQ P w K mg base 1 t.sH t.sI ["row"] p4):mQ P w K mg base 2 t.sJ t.sL ["row"] rV:=by
 have h:=rK (P:=P) (w:=w) (base:=base) (k:=1) Dv t.pK fun cdv A outer s H E hr=>
  (bg (lH (Bj t.p9 qk (hr.mono (by decide)) (az (PE.jz (Bj t.gE bZ (hr.mono (by decide)) (az (nD 0) bJ))) bJ))))
 exact h
theorem nj(bZ:mQ P w K mg base 1 t.gC t.gD ["row"] bY)(aU:mQ P w K mg base 1 t.bj t.bp ["row","k"] aP):mQ P w K mg base 2 t.cz t.cA ["row","k"] cy:=by
 have h:=rK (P:=P) (w:=w) (base:=base) (k:=1) lX t.bE fun cdv A outer s H E hr=>
  (bg (lH (Bj t.gE bZ (hr.mono (by decide)) (az (PE.jz (Bj t.aT aU (hr.mono (by decide)) (az (PE.jz (Bj t.gE bZ (hr.mono (by decide)) (az (nD 0) bJ))) (az (nD 1) bJ)))) bJ))))
 exact h
theorem Hb(fg:mQ P w K mg base 1 t.iD t.iF ["n"] cW)(aU:mQ P w K mg base 1 t.bj t.bp ["row","k"] aP):mQ P w K mg base 2 t.sM t.sN ["n","word"] lR:=by
 have h:=rK (P:=P) (w:=w) (base:=base) (k:=1) mW t.sO fun cdv A outer s H E hr=>
  (aK (wG 2 (Bj t.e9 fg (hr.mono (by decide)) (az (nD 0) bJ)) mW.nd)
  (aK (wH PassesOwn.never rfl (iL (nD 1)) (vx 3 mW.nd) (aK (AG (cX wt wF (nB 3) (PE.aD cI) (aR _)) (bg VI) oN)
  (aK (AG (cX nC kU (PE.aD (Cz (nL 2) (PE.aD (aW dq cZ (nB 3) (PE.aD cI))))) (PE.aD (Cz (nL 2) (nB 3))) (aR _)) (bg VI) oN)
  (bg (wG 2 (ZU scl t.aT aU (hr.mono (by decide)) (aB (nB 2) (aB (nB 3) bu))) mW.nd)))))
  (bg (Io 2))))
 exact h
theorem La(bZ:mQ P w K mg base 1 t.gC t.gD ["row"] bY):mQ P w K mg base 2 t.vZ t.wb ["row"] rW:=by
 have h:=rK (P:=P) (w:=w) (base:=base) (k:=1) G3 t.Am fun cdv A outer s H E hr=>
  (bg (lH (kC (IQ (N:=["place","row"]) (nt:=1) (caps:=[0]) (aa xN) ["row"] (by decide +kernel)) rfl (zR (iL (PE.jz (Bj t.gE bZ (hr.mono (by decide)) (az (nD 0) bJ))))) (Kp.ok (yE (nt:=1) 0)) (fun _ _ _ _ _=>(vx 0 (by show Nodup (["place","row"]:List Str);decide +kernel))) (fun _ _ _ _ _=>Oq) (fun _ _ _ _ _=>(aW dq cZ (PE.aD (aW dq cZ (PE.aD (qq lF pV t.ve kX (aB (nB 1) bu))) (PE.aD cI))) (nB 0))))))
 exact h
theorem Td(fg:mQ P w K mg base 1 t.iD t.iF ["n"] cW):TU P w K mg base 2 t.EU t.EV ["n","word"] BJ:=by
 have h:=okT (P:=P) (w:=w) (base:=base) (k:=1) jC t.Ks fun cdv A outer s H E hr=>
  (aK (Pu 2 Pr jC.nd)
  (aK (wG 3 (Bj t.e9 fg (hr.mono (by decide)) (az (nD 0) bJ)) jC.nd)
  (aK (fu 4 XW jC.nd)
  (aK (wH PassesOwn.never rfl (iL (nD 1)) (vx 5 jC.nd) (aK (fu 6 (qq wu zQ t.EZ C0 (aB (nB 5) bu)) jC.nd)
  (aK (AG (A7 (cX (jl (aY.u6 hr)) fZ (PE.aD (qq lF pV t.ve kX (aB (nB 2) bu))) (PE.aD cI) (aR _)) (A7 (cX (qK (aY.u6 hr)) mO (nB 4) (PE.aD (Ge nC kU (nB 5) (PE.aD cI) (aR _))) (aR _)) (Gi (cX nC kU (PE.aD (Cz (nL 3) (PE.aD (aW dq cZ (nB 6) (PE.aD cI))))) (PE.aD (Cz (nL 3) (nB 6))) (aR _))))).pt (aK (Px 2 (oK bJ))
  (aK (wG 3 (Bj t.e9 fg (hr.mono (by decide)) (az (nD 0) bJ)) jC.nd)
  (bg (fu 4 (Ge nC kU (nB 5) (PE.aD cI) (aR _)) jC.nd)))) oN)
  (aK (RN 2 (PE.aD (Le jP iP (PE.aD cI))) (nB 5))
  (aK (fu 7 (Cz (nL 3) (nB 6)) jC.nd)
  (aK (zX 3 (nB 6) (Cz (nL 3) (PE.aD (aW dq cZ (nB 6) (PE.aD cI)))))
  (bg (zX 3 (PE.aD (aW dq cZ (nB 6) (PE.aD cI))) (nD 7)))))))))
  (bg (Pw 2))))))
 exact h
theorem yi(lB:mQ P w K mg base 1 t.iZ t.i6 ["row"] fQ):mQ P w K mg base 2 t.ja t.jb ["halves","row"] fR:=by
 have h:=rK (P:=P) (w:=w) (base:=base) (k:=1) vG t.ly fun cdv A outer s H E hr=>
  (aK (AG (cX (jl (aY.u6 hr)) fZ (PE.aD (aW gM dX (nB 0) (PE.aD cI))) (PE.aD cI) (aR _)) (bg (lH (Ol t.uB (nL 1)))) oN)
  (bg (lH (Bj t.lq lB (hr.mono (by decide)) (az (nD 1) bJ)))))
 exact h
theorem tw(fj:tR P w K mg base 1 t.fU t.fV ["piece"] cg):tR P w K mg base 2 t.cC t.cD ["piece"] b9:=by
 have h:=Jh (P:=P) (w:=w) (base:=base) (k:=1) sC t.cF fun cdv A outer s H E hr=>
  (aK (AG (Gj (PE.aD (Ep (nB 0) (PE.aD cS)))) (bg (iq (Le jP iP (PE.aD (Z7 C7 t.jc fj (hr.mono (by decide)) (aB (PE.aD (aaq (nB 0) (Il (PE.aD cI)) U8)) bu)))))) oN)
  (bg (iq (Z7 C7 t.jc fj (hr.mono (by decide)) (aB (nB 0) bu)))))
 exact h
theorem yQ(jt:Ok P w K mg base 1 t.gn t.gp ["_law_number","_law_n"] dH):Ok P w K mg base 2 t.jD t.jE ["_law_number","_law_n"] gS:=by
 have h:=TN (P:=P) (w:=w) (base:=base) (k:=1) j3 t.m8 fun cdv A outer s H E hr=>
  (aK (fu 2 (IM O0 t.jr jt (hr.mono (by decide)) (aB (nB 0) (aB (nB 1) bu))) j3.nd)
  (aK (AG (A7 (cX nC kU (PE.aD (aW gM dX (PE.aD (aW ko kr (nB 0) (PE.aD cI))) (PE.aD cI))) (PE.aD cI) (aR _)) (Gi (cX wt wF (nB 1) (PE.aD cI) (aR _)))).pt (bg (iq (PE.jz (oK (az (nD 2) bJ))))) oN)
  (aK (fu 3 (vIf (D8 (cX wt wF (PE.aD (qq wu zQ t.EZ C0 (aB (PE.aD (aW jO eU (nB 2) (PE.aD cI))) bu))) (nB 1) (aR _)) (D7 (cX (qK (aY.u6 hr)) mO (PE.aD (aW jO eU (nB 2) (PE.aD cI))) (PE.aD cI) (aR _)))).pt (aW jO eU (nB 2) (PE.aD cI)) (aW dq cZ (nB 2) (PE.aD cI))) j3.nd)
  (bg (iq (Cz (PE.rC (oK (az (PE.jz (oK (az (nD 2) (az (nD 3) (az (nD 2) bJ))))) (az (PE.jz (oK (az (nD 2) (az (nD 3) bJ)))) (az (PE.jz (oK (az (nD 2) (az (nD 2) bJ)))) (az (PE.jz (oK (az (nD 2) (az (Le jP iP (nB 3)) (az (nD 2) bJ))))) bJ)))))) (PE.aD (aW gM dX (PE.aD (aW ko kr (nB 0) (PE.aD cI))) (PE.aD cI)))))))))
 exact h
theorem yj(Az:mQ P w K mg base 2 t.vZ t.wb ["row"] rW):Ok P w K mg base 3 t.i7 t.i9 ["row"] iS:=by
 have h:=TN (P:=P) (w:=w) (base:=base) (k:=2) vE t.lu fun cdv A outer s H E hr=>
  (bg (iq (Ma (az (Le jP iP (PE.aD cI)) (az (PE.jz (Bj t.Am Az (hr.mono (by decide)) (az (nD 0) bJ))) bJ)))))
 exact h
theorem oE(lC:mQ P w K mg base 2 t.ja t.jb ["halves","row"] fR):TU P w K mg base 3 t.cQ t.cR ["steps"] bf:=by
 have h:=okT (P:=P) (w:=w) (base:=base) (k:=2) bC t.bM fun cdv A outer s H E hr=>
  (aK (Pu 1 Pr bC.nd)
  (aK (fu 2 cI bC.nd)
  (aK (wH PassesOwn.never rfl (iV t.nc (nD 0)) (vx 3 bC.nd) (aK (Px 1 (Bj t.ly lC (hr.mono (by decide)) (az (nD 2) (az (Gm (nD 3) (PE.aD cI)) bJ))))
  (bg (OU 2 HE (PE.aD (Gm (nD 3) (PE.aD cI))) bC.nd))))
  (aK (Wb 1)
  (bg (Pw 1))))))
 exact h
theorem qU(ju:Ok P w K mg base 2 t.cC t.cD ["piece"] nQ)(fG:tR P w K mg base 2 t.cC t.cD ["piece"] b9):Bp P w K mg base 3 t.dA t.dB ["tail"] bQ:=by
 have h:=VN (P:=P) (w:=w) (base:=base) (k:=2) qP t.iG fun cdv A outer s H E hr=>
  (aK (AG (D8 (cX (qK (aY.u6 hr)) mO (nB 0) (PE.aD cS) (aR _)) (D7 (A6 (Gj (PE.aD (Ep (nB 0) (PE.aD cS))))))).pt (bg (wR t.nh hr.hd)) oN)
  (bg (lH (R0 (IQ (N:=["piece"]) (nt:=1) (caps:=[]) (aa gY) ["tail"] (by decide +kernel)) rfl V6 (zR (iL (PE.jz (RW (nB 0) (PE.aD cS))))) (Kp.ok (yE (nt:=1) 0)) (fun _ _ _ _ _=>(vx 0 (by show Nodup (["piece"]:List Str);decide +kernel))) (fun _ _ _ _ _=>(ts1 (cX (qK (aY.u6 hr)) mO (nB 0) (PE.aD cS) (aR _)))) (fun _ _ _ _ _=>(IM (Lk.ne C7) t.cF ju (hr.mono (by decide)) (aB (nB 0) bu))) (fun _ _ _ _ _ _ _ hx=>(fB fG C7 t.cF.m t.cF.F.kp t.cF.b (hr.mono (by decide)) hx (aB (nB 0) bu))) (fun _ _ h=>MO h)))))
 exact h
theorem yR(qV:Ok P w K mg base 1 t.mZ t.m7 ["_law_cell","_law_k","_law_factor"] jU)(nk:Ok P w K mg base 2 t.jD t.jE ["_law_number","_law_n"] gS):mQ P w K mg base 3 t.jF t.jG ["_law_cells","_law_n","_law_most"] gU:=by
 have h:=rK (P:=P) (w:=w) (base:=base) (k:=2) eZ t.m9 fun cdv A outer s H E hr=>
  (aK (fu 3 (PE.jz (oK bJ)) eZ.nd)
  (aK (wH PassesOwn.never rfl (iE t.pM (nD 0)) (Z1 2 rfl (pY (vx 4 eZ.nd) (pY (vx 5 eZ.nd) C4))) (bg (AG (cX nC kU (nB 1) (PE.aD cI) (aR _)) (bg (fu 3 (PE.jz (Ik (nL 3) (PE.Zs (Mq t.m8 nk (hr.mono (by decide)) (az (IM O0 t.qR qV (hr.mono (by decide)) (aB (nB 5) (aB (nB 4) (aB (PE.aD cI) bu)))) (az (nD 1) bJ)))))) eZ.nd)) oN)))
  (bg (lH (zO (nL 3) U8 (Il (nB 2)))))))
 exact h
theorem DQ(yk:mQ P w K mg base 1 t.sF t.sG ["word"] oX)(tE:mQ P w K mg base 2 t.sM t.sN ["n","word"] lR)(lD:Ok P w K mg base 3 t.i7 t.i9 ["row"] iS):Ok P w K mg base 4 t.qd t.qe ["n","piece"] lT:=by
 have h:=TN (P:=P) (w:=w) (base:=base) (k:=3) B3 t.uA fun cdv A outer s H E hr=>
  (aK (AG (cX nC kU (PE.aD (Cz (nL 1) (PE.aD cI))) (PE.aD cI) (aR _)) (bg (iq (Ma (az cI (az (PE.jz (Bj t.sO tE (hr.mono (by decide)) (az (nD 0) (az (nD 1) bJ)))) bJ))))) oN)
  (bg (iq (Mq t.lu lD (hr.mono (by decide)) (az (PE.jz (Bj t.sO tE (hr.mono (by decide)) (az (nD 0) (az (PE.jz (Bj t.xQ yk (hr.mono (by decide)) (az (nD 1) bJ))) bJ)))) bJ)))))
 exact h
theorem yS(nq:tR P w K mg base 2 t.mf t.mh ["n","word"] iz)(eJ:Bp P w K mg base 3 t.dA t.dB ["tail"] bQ):tR P w K mg base 4 t.gG t.gH ["text"] ar:=by
 have h:=Z5 (P:=P) (w:=w) (base:=base) (k:=3) iW t.ji fun cdv A outer s H E hr=>
  (aK (fu 1 (V4 (PE.aD (RT (nB 0) (PE.aD cS))) (PE.aD cS)) iW.nd)
  (aK (AG (A7 (cX (jl (aY.u6 hr)) fZ (PE.aD (Gm (nD 1) (PE.aD cI))) (PE.aD cS) (aR _)) (Gi (ML t.ng t.iJ (PE.aD (Gm (nD 1) (PE.aD cI)))))).pt (bg (wR t.nh hr.hd)) oN)
  (aK (fu 2 (RZ t.ng t.iJ (PE.aD (Gm (nD 1) (PE.aD cI)))) iW.nd)
  (aK (fu 3 (PE.jz (fFX t.iG eJ (hr.mono (by decide)) (az (Gm (nD 1) (PE.aD cI)) bJ))) iW.nd)
  (aK (U9 (PE.aD (Z7 C7 t.uy nq (hr.mono (by decide)) (aB (nB 2) (aB (nB 3) bu)))))
  (bg (iq (Ma (az (nD 2) (az (nD 3) bJ))))))))))
 exact h
theorem uK(uL:mQ P w K mg base 1 t.p7 t.p8 ["word"] lN)(Lb:TU P w K mg base 2 t.EU t.EV ["n","word"] BJ)(uM:Ok P w K mg base 4 t.qd t.qe ["n","piece"] lT):Ok P w K mg base 5 t.gk t.gm ["n","word"] dJ:=by
 have h:=TN (P:=P) (w:=w) (base:=base) (k:=4) sy t.jq fun cdv A outer s H E hr=>
  (bg (iq (PE.jz (kC (IQ (N:=["piece","n"]) (nt:=1) (caps:=[0]) (aa iC) ["n","word"] (by decide +kernel)) rfl (iLS (PE.aap (fT1 t.Ks Lb (hr.mono (by decide)) (aB (nB 0) (aB (PE.aD (PE.jz (Bj t.uz uL (hr.mono (by decide)) (az (nD 1) bJ)))) bu))))) (Kp.ok (yE (nt:=1) 0)) (fun _ _ _ _ _=>(vx 0 (by show Nodup (["piece","n"]:List Str);decide +kernel))) (fun _ _ _ _ _=>Oq) (fun _ _ _ _ _=>(Mq t.uA uM (hr.mono (by decide)) (az (nD 1) (az (nD 0) bJ))))))))
 exact h
theorem AA(cT:tR P w K mg base 4 t.gG t.gH ["text"] ar):tR P w K mg base 5 t.iH t.iI ["text","other"] bK:=by
 have h:=Jh (P:=P) (w:=w) (base:=base) (k:=4) mY t.j5 fun cdv A outer s H E hr=>
  (aK (fu 2 (Z6 t.ji cT (hr.mono (by decide)) (az (nD 0) bJ)) mY.nd)
  (aK (fu 3 (Z6 t.ji cT (hr.mono (by decide)) (az (nD 1) bJ)) mY.nd)
  Wc))
 exact h
theorem yT(dD:tR P w K mg base 5 t.iH t.iI ["text","other"] bK):Ok P w K mg base 6 t.jH t.jI ["_law_text","_law_other"] fz:=by
 have h:=O1 (P:=P) (w:=w) (base:=base) (k:=5) gZ t.jJ fun cdv A outer s H E hr=>
  (aK (fu 2 cS gZ.nd)
  (aK (Wd t.sW t.vg (z5 t.j5 dD (hr.mono (by decide)) (aB (nB 0) (aB (nB 1) bu))) (fun _=>(bg (fu 2 cS gZ.nd))) (fun _=>(bg (fu 2 cS gZ.nd))) rfl)
  (bg (iq (nD 2)))))
 exact h
theorem N6(jv:Ok P w K mg base 9 t.gb t.gj ["n","steps"] dN)(jw:Ok P w K mg base 5 t.gk t.gm ["n","word"] dJ):Ok P w K mg base 10 t.xS t.xT ["n","word"] pB:=by
 have h:=TN (P:=P) (w:=w) (base:=base) (k:=9) Kr t.An fun cdv A outer s H E hr=>
  (bg (iq (Mq t.jo jv (hr.mono (by decide)) (az (nD 0) (az (Mq t.jq jw (hr.mono (by decide)) (az (nD 0) (az (nD 1) bJ))) bJ)))))
 exact h
theorem DR(uN:Ok P w K mg base 10 t.xS t.xT ["n","word"] pB)(ql:Ok P w K mg base 1 t.qg t.qh ["parts"] gz)(cT:tR P w K mg base 4 t.gG t.gH ["text"] ar):tR P w K mg base 11 t.mj t.mm ["text"] dQ:=by
 have h:=Jh (P:=P) (w:=w) (base:=base) (k:=10) j0 t.pL fun cdv A outer s H E hr=>
  (aK (fu 1 (Z6 t.ji cT (hr.mono (by decide)) (az (nD 0) bJ)) j0.nd)
  (aK (fu 2 (Mq t.An uN (hr.mono (by decide)) (az (Gm (nD 1) (PE.aD cI)) (az (Gm (nD 1) (PE.aD cI)) bJ))) j0.nd)
  (aK (wG 3 (oK (az (IM O0 t.qi ql (hr.mono (by decide)) (aB (PE.aD (PE.jz (oK (az cS (az (Gm (nD 2) (PE.aD cI)) bJ))))) bu)) bJ)) j0.nd)
  (aK (wH VO rfl (iL (Gm (nD 2) (PE.aD cI))) (vx 4 j0.nd) (bg (OT 3 (IM O0 t.qi ql (hr.mono (by decide)) (aB (PE.aD (PE.jz (Ik (PE.rC (oK (az cS bJ))) (nL 4)))) bu)))))
  (bg (iq (Eo (PE.aD cS) (nL 3))))))))
 exact h
theorem vJ(qm:tR P w K mg base 11 t.mj t.mm ["text"] dQ)(dD:tR P w K mg base 5 t.iH t.iI ["text","other"] bK):Ok P w K mg base 12 t.g6 t.g7 ["_law_text","_law_which"] dz:=by
 have h:=TN (P:=P) (w:=w) (base:=base) (k:=11) fE t.g8 fun cdv A outer s H E hr=>
  (aK (fu 2 cN fE.nd)
  (aK (Z8 3 t.pN (V2 (cX (jl (aY.u6 hr)) fZ (nB 1) (PE.aD cI) (aR _)) (z5 t.pL qm (hr.mono (by decide)) (aB (nB 0) bu)) (V2 (cX (jl (aY.u6 hr)) fZ (nB 1) (PE.aD cI) (aR _)) (z5 t.j5 dD (hr.mono (by decide)) (aB (nB 0) (aB (PE.aD cS) bu))) (z5 t.j5 dD (hr.mono (by decide)) (aB (PE.aD cS) (aB (nB 0) bu))))) (fun _=>(bg (fu 2 (nD 3) fE.nd))) fE.nd rfl)
  (bg (iq (nD 2)))))
 exact h
theorem Tf(uN:Ok P w K mg base 10 t.xS t.xT ["n","word"] pB)(tH:Ok P w K mg base 11 t.mj t.mm ["text"] lW)(j9:Ok P w K mg base 1 t.g4 t.g5 ["_law_seed","_law_least","_law_most"] eY)(nv:mQ P w K mg base 3 t.jF t.jG ["_law_cells","_law_n","_law_most"] gU)(hU:Ok P w K mg base 12 t.g6 t.g7 ["_law_text","_law_which"] dz)(jL:Ok P w K mg base 6 t.jH t.jI ["_law_text","_law_other"] fz):Ok P w K mg base 13 t.Ku t.EY ["_law_script"] xH:=by
 have h:=O1 (P:=P) (w:=w) (base:=base) (k:=12) eu t.PU fun cdv A outer s H E hr=>
  (aK (fu 1 (aW gM dX (PE.aD (Cz (PE.rC (Ik (nL 0) (PE.rC (oK (az cI bJ))))) (PE.aD cI))) (PE.aD (aW QM L9 (PE.aD cI) (PE.aD cI)))) eu.nd)
  (aK (fu 2 (IM O0 t.j6 j9 (hr.mono (by decide)) (aB (nB 1) (aB (PE.aD cI) (aB (PE.aD cI) bu)))) eu.nd)
  (aK (fu 3 (PE.jz (Bj t.m9 nv (hr.mono (by decide)) (az (PE.jz (zO (nL 0) U8 (Il (PE.aD cI)))) (az (nD 2) (az cI bJ))))) eu.nd)
  (aK (fu 4 (aW aS bw (PE.aD (aW aS bw (PE.aD (aW aS bw (PE.aD (aW wW Bu (PE.aD cS) (PE.aD (aW gM dX (nB 1) (PE.aD cI))))) (PE.aD (oM cH jS t.qE mK (aB (nB 2) bu))))) (PE.aD cS))) (PE.aD (Eo (PE.aD cS) (PE.rC (kC (IQ (N:=["_law_k","_law_seed"]) (nt:=1) (caps:=[1]) (aa Aj) ["_law_script","_law_seed","_law_n","_law_word","_law_text","_law_halves","_law_rows","_law_due","_law_row","_law_found","_law_which","_law_bad","_law_none"] (by decide +kernel)) rfl (zR (iL (nD 3))) (Kp.ok (yE (nt:=1) 0)) (fun _ _ _ _ _=>(vx 0 (by show Nodup (["_law_k","_law_seed"]:List Str);decide +kernel))) (fun _ _ _ _ _=>Oq) (fun _ _ _ _ _=>(aW aS bw (PE.aD (aW wW Bu (PE.aD cS) (PE.aD (aW jO eU (PE.aD cI) (PE.aD (aW gM dX (PE.aD (aW ko kr (nB 1) (PE.aD cI))) (PE.aD cI))))))) (PE.aD (oM cH jS t.qE mK (aB (nB 0) bu)))))))))) eu.nd)
  (aK (aab (Mq t.An uN (hr.mono (by decide)) (az (nD 2) (az (PE.jz (Ol t.uB (nL 3))) bJ))) (Z1 2 rfl (pY (vx 5 eu.nd) (pY (vx 6 eu.nd) C4))))
  (aK (fu 7 (aW aS bw (PE.aD (aW aS bw (PE.aD cS) (PE.aD (oM cH jS t.qE mK (aB (nB 5) bu))))) (PE.aD cS)) eu.nd)
  (aK (wH PassesOwn.never rfl (iL (nD 6)) (vx 8 eu.nd) (bg (fu 7 (aW aS bw (PE.aD (aW aS bw (PE.aD (aW aS bw (nB 7) (PE.aD cS))) (PE.aD (Eo (PE.aD cS) (PE.rC (kC (IQ (N:=["_law_x"]) (nt:=1) (caps:=[]) (aa Aj) ["_law_script","_law_seed","_law_n","_law_word","_law_text","_law_halves","_law_rows","_law_due","_law_row","_law_found","_law_which","_law_bad","_law_none"] (by decide +kernel)) rfl (zR (iL (nD 8))) (Kp.ok (yE (nt:=1) 0)) (fun _ _ _ _ _=>(vx 0 (by show Nodup (["_law_x"]:List Str);decide +kernel))) (fun _ _ _ _ _=>Oq) (fun _ _ _ _ _=>(aW aS bw (PE.aD cS) (PE.aD (oM cH jS t.qE mK (aB (nB 0) bu))))))))))) (PE.aD cS)) eu.nd)))
  (aK (fu 9 (IM (Lk.ne C7) t.pL tH (hr.mono (by decide)) (aB (nB 4) bu)) eu.nd)
  (aK (AG (A7 (A6 (Gj (PE.aD (ZO Rj mK t.jK t.qE (nB 9))))) (A7 (cX (qK (aY.u6 hr)) mO (nB 9) (nB 7) (aR _)) (Gi (cX (qK (aY.u6 hr)) mO (PE.aD (IM (Lk.ne C7) t.pL tH (hr.mono (by decide)) (aB (PE.aD (aW aS bw (nB 4) (PE.aD cS))) bu))) (nB 7) (aR _))))).pt (bg (iq XW)) oN)
  (aK (wH PassesOwn.never rfl (iR1 t.sP (aB (PE.aD cI) bu)) (vx 10 eu.nd) (aK (fu 11 (Cz (PE.rC (oK (az (aW aS bw (nB 4) (PE.aD cS)) (az (aW aS bw (nB 4) (PE.aD cS)) (az (aW aS bw (PE.aD (oM cH jS t.qE mK (aB (nB 2) bu))) (PE.aD cS)) (az cS (az (aW aS bw (nB 4) (PE.aD cS)) bJ))))))) (PE.aD (aW gM dX (PE.aD (aW ko kr (nB 1) (PE.aD cI))) (PE.aD cI)))) eu.nd)
  (aK (fu 12 (Cz (PE.rC (oK (az (aW aS bw (PE.aD (aW aS bw (nB 4) (PE.aD cS))) (PE.aD (oM cH jS t.qE mK (aB (nB 2) bu)))) (az (aW aS bw (PE.aD (aW aS bw (nB 4) (PE.aD cS))) (PE.aD (oM cH jS t.qE mK (aB (nB 2) bu)))) (az cS (az cS (az cS bJ))))))) (PE.aD (aW gM dX (PE.aD (aW ko kr (nB 1) (PE.aD cI))) (PE.aD cI)))) eu.nd)
  (bg (AG (A7 (A6 (Gj (PE.aD (VV t.xV t.xU t.jK (PE.aD (Mq t.g8 hU (hr.mono (by decide)) (az (nD 11) (az (nD 10) bJ)))))))) (Gi (A6 (Gj (PE.aD (VV t.zw t.zu t.jK (PE.aD (Mq t.g8 hU (hr.mono (by decide)) (az (nD 12) (az (nD 10) bJ)))))))))).pt (bg (iq XW)) oN)))))
  (bg (iq (U5 (PE.aD (Ge (jl (aY.u6 hr)) fZ (PE.aD (IM O0 t.jJ jL (hr.mono (by decide)) (aB (nB 11) (aB (nB 12) bu)))) (PE.aD cS) (aR _))) (U4 (Ge (jl (aY.u6 hr)) fZ (PE.aD (IM O0 t.jJ jL (hr.mono (by decide)) (aB (nB 12) (aB (nB 11) bu)))) (PE.aD cS) (aR _))))))))))))))))
 exact h
end
@[irreducible] noncomputable def Kw (w:World):PySem.W.Frag:=H.K w.params
theorem Ql(w:World):Kw w=H.K w.params:=by kernel_rfl
theorem og{K:PySem.W.Frag}{h:Heap}{mg:Str->Option Value}{x:String}{st:Stmt}{ps:List Str}{f c:Addr}{m:Value}(X:K.In h)(G:h.Ns mainGlobals mg)
  (e:(nsIn K mainGlobals (Str.ofString x),K.lookup f,codeIn K (.ref c) (Str.ofString x),keepIn K (.ref f))=(some (some (.ref f)),some (DL.H.hf (Str.ofString x) (Str.ofString x) st m c),true,true))
  (hb:∀(kV doc pm:Value)(an:Option Addr)(cdv ct:Value)(us:List Value),us.length=ps.length->bindArgs (PySem.W.fnOf (Str.ofString x) (Str.ofString x) (dU st) (bx st) (aa st) .none kV doc pm an cdv ct) ⟨us,[]⟩=pure (ps.zip us)):
  Df K mg (Str.ofString x) st ps f (PySem.W.fnOf (Str.ofString x) (Str.ofString x) (dU st) (bx st) (aa st) .none .none .none m none (.ref c) .none):=dfm X G (congrArg (·.1) e) (congrArg (·.2.1) e) (congrArg (·.2.2.1) e) (congrArg (·.2.2.2) e) hb
theorem zD{x q:Str}{a:Arguments}{b:List Stmt}{s:Scope}{p0:Str}(h:∀(kV doc pm:Value)(an:Option Addr)(cdv ct v0:Value),bindArgs (PySem.W.fnOf x q a b s .none kV doc pm an cdv ct) ⟨[v0],[]⟩=pure [(p0,v0)])(kV doc pm:Value)(an:Option Addr)(cdv ct:Value)(us:List Value)(hl:us.length=[p0].length):bindArgs (PySem.W.fnOf x q a b s .none kV doc pm an cdv ct) ⟨us,[]⟩=pure ([p0].zip us):=match us,hl with|[v0],_=>h _ _ _ _ _ _ _
theorem AB{x q:Str}{a:Arguments}{b:List Stmt}{s:Scope}{p0 p1:Str}(h:∀(kV doc pm:Value)(an:Option Addr)(cdv ct v0 v1:Value),bindArgs (PySem.W.fnOf x q a b s .none kV doc pm an cdv ct) ⟨[v0,v1],[]⟩=pure [(p0,v0),(p1,v1)])(kV doc pm:Value)(an:Option Addr)(cdv ct:Value)(us:List Value)(hl:us.length=[p0,p1].length):bindArgs (PySem.W.fnOf x q a b s .none kV doc pm an cdv ct) ⟨us,[]⟩=pure ([p0,p1].zip us):=match us,hl with|[v0,v1],_=>h _ _ _ _ _ _ _ _
theorem Tg{x q:Str}{a:Arguments}{b:List Stmt}{s:Scope}{p0 p1 p2:Str}(h:∀(kV doc pm:Value)(an:Option Addr)(cdv ct v0 v1 v2:Value),bindArgs (PySem.W.fnOf x q a b s .none kV doc pm an cdv ct) ⟨[v0,v1,v2],[]⟩=pure [(p0,v0),(p1,v1),(p2,v2)])(kV doc pm:Value)(an:Option Addr)(cdv ct:Value)(us:List Value)(hl:us.length=[p0,p1,p2].length):bindArgs (PySem.W.fnOf x q a b s .none kV doc pm an cdv ct) ⟨us,[]⟩=pure ([p0,p1,p2].zip us):=match us,hl with|[v0,v1,v2],_=>h _ _ _ _ _ _ _ _ _
theorem Qm(K:PySem.W.Frag){C:Addr}{x q:String}{st:Stmt}{f c:Addr}{m:Value}
  (e:(findIn K (.ref C) (Str.ofString x),isFn K (.ref f),K.lookup f,codeIn K (.ref c) (Str.ofString q),keepIn K (.ref f))=(some (some (.ref f)),true,some (DL.H.hf (Str.ofString x) (Str.ofString q) st m c),true,true)):
  zL K (Str.ofString x) (Str.ofString q) st f (PySem.W.fnOf (Str.ofString x) (Str.ofString q) (dU st) (bx st) (aa st) .none .none .none m none (.ref c) .none)/\Meth K C (Str.ofString x) f:=
 ⟨CW (congrArg (·.2.2.1) e) (congrArg (·.2.2.2.1) e) (congrArg (·.2.2.2.2) e),congrArg (·.1) e,congrArg (·.2.1) e,congrArg (·.2.2.2.2) e⟩
theorem all_mk{l:PySem.W.OpenLaw}{w:World}{h:Heap}{mg:Str->Option Value}{fa:Addr}(X:(Kw w).In h)(G:h.Ns mainGlobals mg)(hfa:mg "law"=some (.ref fa)):
  ∃fd:FuncData,(∀(s:Shared)(v:Value),BindsTo s fd ⟨[v],[]⟩ [("_law_script",v)])/\∀base:Heap,(Kw w).In base->base.Ns mainGlobals mg->bH l.prog w (Kw w) mg base kh 13 fa fd ["_law_script"] (Ea (Kw w) Ho xH):=by
 have e:=hfa.symm.trans (mg_of X G (show nsIn (Kw w) mainGlobals "law"=some (some (.ref 515))by kernel_rfl))
 cases e
 have yC:nsIn (Kw w) mainGlobals "Comb"=some (some (.ref 253)):=by kernel_rfl
 have ypg:plainGet (Kw w) 253 Str.empty=true:=by kernel_rfl
 have yhd:hasDictIn (Kw w) 253=true:=by kernel_rfl
 have ypo:plainOver (Kw w) 253=true:=by kernel_rfl
 have ysa:findIn (Kw w) (.ref 253) "__setattr__"=some (some (.builtin "object.__setattr__")):=by kernel_rfl
 have ymk:makesIn (Kw w) 253=true:=by kernel_rfl
 have ykc:keepIn (Kw w) (.ref 253)=true:=by kernel_rfl
 have yn0:findIn (Kw w) (.ref 253) "known"=some none:=by kernel_rfl
 have yn1:findIn (Kw w) (.ref 253) "numbers"=some none:=by kernel_rfl
 have yn2:findIn (Kw w) (.ref 253) "firsts"=some none:=by kernel_rfl
 have yn3:findIn (Kw w) (.ref 253) "lasts"=some none:=by kernel_rfl
 have yn4:findIn (Kw w) (.ref 253) "shorter"=some none:=by kernel_rfl
 have yn5:findIn (Kw w) (.ref 253) "longer"=some none:=by kernel_rfl
 have yn6:findIn (Kw w) (.ref 253) "kept"=some none:=by kernel_rfl
 have yn7:findIn (Kw w) (.ref 253) "line"=some none:=by kernel_rfl
 have yn8:findIn (Kw w) (.ref 253) "none"=some none:=by kernel_rfl
 have yn9:findIn (Kw w) (.ref 253) "whole"=some none:=by kernel_rfl
 have iJ:KTD.tabLook KTD.flatLooks (fun b=>(Kw w).lookup b) 418 (C9 bc)=true:=by kernel_rfl
 have dG:nsIn (Kw w) mainGlobals "BadText"=some (some (.ref 49)):=by kernel_rfl
 have qG:nsIn (Kw w) mainGlobals "BraidError"=some (some (.ref 24)):=by kernel_rfl
 have fH:nsIn (Kw w) mainGlobals "NoWord"=some (some (.ref 37)):=by kernel_rfl
 have qW:X6 (Kw w) 49=true:=by kernel_rfl
 have uO:X6 (Kw w) 37=true:=by kernel_rfl
 have oF:exmOne (Kw w) (.ref 49) (.ref 24)=some true:=by kernel_rfl
 have pP:exmOne (Kw w) (.ref 37) (.ref 24)=some true:=by kernel_rfl
 have qX:exmOne (Kw w) (.ref 49) (.ref 49)=some (ou "BadText" "BadText"):=by kernel_rfl
 have tJ:exmOne (Kw w) (.ref 37) (.ref 49)=some (ou "BadText" "NoWord"):=by kernel_rfl
 have tK:exmOne (Kw w) (.ref 49) (.ref 37)=some (ou "NoWord" "BadText"):=by kernel_rfl
 have uP:exmOne (Kw w) (.ref 37) (.ref 37)=some (ou "NoWord" "NoWord"):=by kernel_rfl
 have DS:kitOne (Kw w) (.type "NoneType") (.ref 49)=some false:=by kernel_rfl
 have qY:kitOne (Kw w) (.ref 49) (.ref 49)=some (ou "BadText" "BadText"):=by kernel_rfl
 have tM:kitOne (Kw w) (.ref 37) (.ref 49)=some (ou "BadText" "NoWord"):=by kernel_rfl
 have Hc:kitOne (Kw w) (.type "NoneType") (.ref 37)=some false:=by kernel_rfl
 have tN:kitOne (Kw w) (.ref 49) (.ref 37)=some (ou "NoWord" "BadText"):=by kernel_rfl
 have uQ:kitOne (Kw w) (.ref 37) (.ref 37)=some (ou "NoWord" "NoWord"):=by kernel_rfl
 let t:Tb (Kw w) mg:={iX:=94,iY:=_,lj:=og X G (c:=93) (m:=H.w1) (by kernel_rfl) (AB fun _ _ _ _ _ _ _ _=>rfl),mf:=101,mh:=_,uy:=og X G (c:=100) (m:=H.w1) (by kernel_rfl) (AB fun _ _ _ _ _ _ _ _=>rfl),sF:=106,sG:=_,xQ:=og X G (c:=105) (m:=H.w1) (by kernel_rfl) (zD fun _ _ _ _ _ _ _=>rfl),p7:=118,p8:=_,uz:=og X G (c:=117) (m:=H.w1) (by kernel_rfl) (zD fun _ _ _ _ _ _ _=>rfl),iD:=125,iF:=_,e9:=og X G (c:=124) (m:=H.w2) (by kernel_rfl) (zD fun _ _ _ _ _ _ _=>rfl),Ak:=132,Al:=_,xR:=og X G (c:=131) (m:=H.w2) (by kernel_rfl) (zD fun _ _ _ _ _ _ _=>rfl),gC:=139,gD:=_,gE:=og X G (c:=138) (m:=H.w2) (by kernel_rfl) (zD fun _ _ _ _ _ _ _=>rfl),sH:=144,sI:=_,p9:=og X G (c:=143) (m:=H.w2) (by kernel_rfl) (zD fun _ _ _ _ _ _ _=>rfl),sJ:=151,sL:=_,pK:=og X G (c:=150) (m:=H.w2) (by kernel_rfl) (zD fun _ _ _ _ _ _ _=>rfl),bj:=158,bp:=_,aT:=og X G (c:=157) (m:=H.w2) (by kernel_rfl) (AB fun _ _ _ _ _ _ _ _=>rfl),cz:=165,cA:=_,bE:=og X G (c:=164) (m:=H.w2) (by kernel_rfl) (AB fun _ _ _ _ _ _ _ _=>rfl),sM:=172,sN:=_,sO:=og X G (c:=171) (m:=H.w2) (by kernel_rfl) (AB fun _ _ _ _ _ _ _ _=>rfl),vZ:=177,wb:=_,Am:=og X G (c:=176) (m:=H.w2) (by kernel_rfl) (zD fun _ _ _ _ _ _ _=>rfl),iZ:=182,i6:=_,lq:=og X G (c:=181) (m:=H.w2) (by kernel_rfl) (zD fun _ _ _ _ _ _ _=>rfl),qb:=189,qc:=_,gF:=og X G (c:=188) (m:=H.w3) (by kernel_rfl) (zD fun _ _ _ _ _ _ _=>rfl),EU:=264,EV:=_,Ks:=og X G (c:=263) (m:=H.w4) (by kernel_rfl) (AB fun _ _ _ _ _ _ _ _=>rfl),i7:=271,i9:=_,lu:=og X G (c:=270) (m:=H.w4) (by kernel_rfl) (zD fun _ _ _ _ _ _ _=>rfl),qd:=278,qe:=_,uA:=og X G (c:=277) (m:=H.w4) (by kernel_rfl) (AB fun _ _ _ _ _ _ _ _=>rfl),ja:=285,jb:=_,ly:=og X G (c:=284) (m:=H.w4) (by kernel_rfl) (AB fun _ _ _ _ _ _ _ _=>rfl),cQ:=292,cR:=_,bM:=og X G (c:=291) (m:=H.w4) (by kernel_rfl) (zD fun _ _ _ _ _ _ _=>rfl),gb:=297,gj:=_,jo:=og X G (c:=296) (m:=H.w4) (by kernel_rfl) (AB fun _ _ _ _ _ _ _ _=>rfl),gk:=302,gm:=_,jq:=og X G (c:=301) (m:=H.w4) (by kernel_rfl) (AB fun _ _ _ _ _ _ _ _=>rfl),xS:=309,xT:=_,An:=og X G (c:=308) (m:=H.w4) (by kernel_rfl) (AB fun _ _ _ _ _ _ _ _=>rfl),cC:=425,cD:=_,cF:=og X G (c:=424) (m:=H.w8) (by kernel_rfl) (zD fun _ _ _ _ _ _ _=>rfl),fU:=432,fV:=_,jc:=og X G (c:=431) (m:=H.w8) (by kernel_rfl) (zD fun _ _ _ _ _ _ _=>rfl),dA:=437,dB:=_,iG:=og X G (c:=436) (m:=H.w8) (by kernel_rfl) (zD fun _ _ _ _ _ _ _=>rfl),gG:=444,gH:=_,ji:=og X G (c:=443) (m:=H.w8) (by kernel_rfl) (zD fun _ _ _ _ _ _ _=>rfl),qg:=449,qh:=_,qi:=og X G (c:=448) (m:=H.w9) (by kernel_rfl) (zD fun _ _ _ _ _ _ _=>rfl),mj:=456,mm:=_,pL:=og X G (c:=455) (m:=H.w9) (by kernel_rfl) (zD fun _ _ _ _ _ _ _=>rfl),iH:=461,iI:=_,j5:=og X G (c:=460) (m:=H.w9) (by kernel_rfl) (AB fun _ _ _ _ _ _ _ _=>rfl),mZ:=468,m7:=_,qR:=og X G (c:=467) (m:=H.AJ) (by kernel_rfl) (Tg fun _ _ _ _ _ _ _ _ _=>rfl),g4:=475,g5:=_,j6:=og X G (c:=474) (m:=H.AJ) (by kernel_rfl) (Tg fun _ _ _ _ _ _ _ _ _=>rfl),gn:=482,gp:=_,jr:=og X G (c:=481) (m:=H.AJ) (by kernel_rfl) (AB fun _ _ _ _ _ _ _ _=>rfl),jD:=489,jE:=_,m8:=og X G (c:=488) (m:=H.AJ) (by kernel_rfl) (AB fun _ _ _ _ _ _ _ _=>rfl),jF:=496,jG:=_,m9:=og X G (c:=495) (m:=H.AJ) (by kernel_rfl) (Tg fun _ _ _ _ _ _ _ _ _=>rfl),g6:=503,g7:=_,g8:=og X G (c:=502) (m:=H.AJ) (by kernel_rfl) (AB fun _ _ _ _ _ _ _ _=>rfl),jH:=510,jI:=_,jJ:=og X G (c:=509) (m:=H.AJ) (by kernel_rfl) (AB fun _ _ _ _ _ _ _ _=>rfl),Ku:=515,EY:=_,PU:=og X G (c:=514) (m:=H.AJ) (by kernel_rfl) (zD fun _ _ _ _ _ _ _=>rfl),EZ:=mg_none_of X G (by kernel_rfl),pM:=mg_none_of X G (by kernel_rfl),jK:=mg_none_of X G (by kernel_rfl),ve:=mg_none_of X G (by kernel_rfl),uB:=mg_none_of X G (by kernel_rfl),PV:=mg_none_of X G (by kernel_rfl),sP:=mg_none_of X G (by kernel_rfl),nc:=mg_none_of X G (by kernel_rfl),qE:=mg_none_of X G (by kernel_rfl),PX:=mg_none_of X G (by kernel_rfl),E3:=mg_none_of X G (by kernel_rfl),kM:=289,kN:=mg_of X G (by kernel_rfl),sQ:=410,sS:=mg_of X G (by kernel_rfl),nZ:=291,n8:=mg_of X G (by kernel_rfl),uC:=418,ng:=mg_of X G (by kernel_rfl),iJ:=iJ,qj:=_,xU:=mg_of X G dG,sU:=_,yO:=mg_of X G qG,sV:=_,zu:=mg_of X G fH,nh:=⟨mg_of X G dG,dG,(ui qW).2⟩,uD:=⟨mg_of X G fH,fH,(ui uO).2⟩,pN:=⟨⟨_,mg_of X G qG,(by intro n hn;simp only [mem_cons,not_mem_nil,or_false]at hn;rcases hn with rfl|rfl<;>first|exact⟨_,dG,oF⟩|exact⟨_,fH,pP⟩)⟩⟩,sW:=⟨⟨_,mg_of X G dG,(by intro n hn;simp only [mem_cons,not_mem_nil,or_false]at hn;rcases hn with rfl|rfl<;>first|exact⟨_,dG,qX⟩|exact⟨_,fH,tJ⟩)⟩⟩,vg:=⟨⟨_,mg_of X G fH,(by intro n hn;simp only [mem_cons,not_mem_nil,or_false]at hn;rcases hn with rfl|rfl<;>first|exact⟨_,dG,tK⟩|exact⟨_,fH,uP⟩)⟩⟩,xV:=⟨DS,(by intro n hn;simp only [mem_cons,not_mem_nil,or_false]at hn;rcases hn with rfl|rfl<;>first|exact⟨_,dG,(ui qW).1,qY⟩|exact⟨_,fH,(ui uO).1,tM⟩)⟩,zw:=⟨Hc,(by intro n hn;simp only [mem_cons,not_mem_nil,or_false]at hn;rcases hn with rfl|rfl<;>first|exact⟨_,dG,(ui qW).1,tN⟩|exact⟨_,fH,(ui uO).1,uQ⟩)⟩}
 refine⟨_,fun s v=>(?_:BindsTo s t.EY ⟨[v],[]⟩ [("_law_script",v)]),fun base _ _=>?_⟩
 ·exact .of_eq rfl
 have lA:= @yg l.prog w (Kw w) mg base t
 have yk:= @G9 l.prog w (Kw w) mg base t
 have uL:= @DM l.prog w (Kw w) mg base t
 have fg:= @Cv l.prog w (Kw w) mg base t
 have Th:= @N5 l.prog w (Kw w) mg base t
 have bZ:= @Ay l.prog w (Kw w) mg base t
 have qk:= @K9 l.prog w (Kw w) mg base t
 have aU:= @mq l.prog w (Kw w) mg base t
 have lB:= @yh l.prog w (Kw w) mg base t
 have Hd:= @DN l.prog w (Kw w) mg base t
 have fj:= @vH l.prog w (Kw w) mg base t
 have Lz:Ok l.prog w (Kw w) mg base 1 t.fU t.fV ["piece"] yI:=tR.calm fj
 have ql:= @DP l.prog w (Kw w) mg base t
 have qV:= @Cw l.prog w (Kw w) mg base t
 have j9:= @vI l.prog w (Kw w) mg base t
 have jt:= @uJ l.prog w (Kw w) mg base t
 have nq:= @Cy l.prog w (Kw w) mg base t lA
 have Ua:Ok l.prog w (Kw w) mg base 2 t.mf t.mh ["n","word"] GR:=tR.calm nq
 have xW:= @Ha l.prog w (Kw w) mg base t bZ qk
 have oG:= @nj l.prog w (Kw w) mg base t bZ aU
 have tE:= @Hb l.prog w (Kw w) mg base t fg aU
 have Az:= @La l.prog w (Kw w) mg base t bZ
 have Lb:= @Td l.prog w (Kw w) mg base t fg
 have lC:= @yi l.prog w (Kw w) mg base t lB
 have fG:= @tw l.prog w (Kw w) mg base t fj
 have ju:Ok l.prog w (Kw w) mg base 2 t.cC t.cD ["piece"] nQ:=tR.calm fG
 have nk:= @yQ l.prog w (Kw w) mg base t jt
 have lD:= @yj l.prog w (Kw w) mg base t Az
 have pQ:= @oE l.prog w (Kw w) mg base t lC
 have eJ:= @qU l.prog w (Kw w) mg base t ju fG
 have He:mQ l.prog w (Kw w) mg base 3 t.dA t.dB ["tail"] uu:=Bp.calm eJ
 have nv:= @yR l.prog w (Kw w) mg base t qV nk
 have uM:= @DQ l.prog w (Kw w) mg base t yk tE lD
 have cT:= @yS l.prog w (Kw w) mg base t nq eJ
 have Qn:Ok l.prog w (Kw w) mg base 4 t.gG t.gH ["text"] BK:=tR.calm cT
 have jw:= @uK l.prog w (Kw w) mg base t uL Lb uM
 have dD:= @AA l.prog w (Kw w) mg base t cT
 have Ti:Ok l.prog w (Kw w) mg base 5 t.iH t.iI ["text","other"] Dq:=tR.calm dD
 have jL:= @yT l.prog w (Kw w) mg base t dD
 have TC:Lq (Kw w) mg 253:=⟨⟨ypg,yhd,ypo,ysa⟩,yn0,yn1,yn2,yn3,yn4,yn5,yn6,yn7,yn8,yn9,mg_of X G yC,t.E3,t.uB,t.ve⟩
 have⟨YF0,XE⟩:=Qm (Kw w) (C:=253) (x:="__init__") (q:="Comb.__init__") (st:=Dz) (f:=203) (c:=202) (m:=H.w3) (by kernel_rfl)
 have YB0:=YF0.binds (ps:=["self","n"]) (AB fun _ _ _ _ _ _ _ _=>rfl)
 have⟨YF1,adX⟩:=Qm (Kw w) (C:=253) (x:="number_of") (q:="Comb.number_of") (st:=Kv) (f:=210) (c:=209) (m:=H.w3) (by kernel_rfl)
 have YE:=YF1.binds (ps:=["self","row"]) (AB fun _ _ _ _ _ _ _ _=>rfl)
 have YF:=adX
 have⟨YF2,adY⟩:=Qm (Kw w) (C:=253) (x:="without_first") (q:="Comb.without_first") (st:=Ky) (f:=217) (c:=216) (m:=H.w3) (by kernel_rfl)
 have YB2:=YF2.binds (ps:=["self","number","k"]) (Tg fun _ _ _ _ _ _ _ _ _=>rfl)
 have YM2:=adY
 have⟨YF3,adZ⟩:=Qm (Kw w) (C:=253) (x:="with_last") (q:="Comb.with_last") (st:=KA) (f:=224) (c:=223) (m:=H.w3) (by kernel_rfl)
 have YB3:=YF3.binds (ps:=["self","number","k"]) (Tg fun _ _ _ _ _ _ _ _ _=>rfl)
 have YM3:=adZ
 have⟨YF4,ad0⟩:=Qm (Kw w) (C:=253) (x:="slide") (q:="Comb.slide") (st:=KC) (f:=231) (c:=230) (m:=H.w3) (by kernel_rfl)
 have YB4:=YF4.binds (ps:=["self","one","other"]) (Tg fun _ _ _ _ _ _ _ _ _=>rfl)
 have YM4:=ad0
 have⟨YF5,ad1⟩:=Qm (Kw w) (C:=253) (x:="slide_kept") (q:="Comb.slide_kept") (st:=KD) (f:=238) (c:=237) (m:=H.w3) (by kernel_rfl)
 have YB5:=YF5.binds (ps:=["self","one","other"]) (Tg fun _ _ _ _ _ _ _ _ _=>rfl)
 have YM5:=ad1
 have⟨YF6,ad2⟩:=Qm (Kw w) (C:=253) (x:="put") (q:="Comb.put") (st:=KG) (f:=245) (c:=244) (m:=H.w3) (by kernel_rfl)
 have YB6:=YF6.binds (ps:=["self","row"]) (AB fun _ _ _ _ _ _ _ _=>rfl)
 have YM6:=ad2
 have⟨YF7,ad3⟩:=Qm (Kw w) (C:=253) (x:="form_told") (q:="Comb.form_told") (st:=E5) (f:=250) (c:=249) (m:=H.w3) (by kernel_rfl)
 have YB7:=YF7.binds (ps:=["self"]) (zD fun _ _ _ _ _ _ _=>rfl)
 have YM7:=ad3
 have YG:=Sz (P:=l.prog) (w:=w) (base:=base) YF1 TC t xW qk Hd N2
 have YG2:=WO (P:=l.prog) (w:=w) (base:=base) YF2 TC t YF YE YG oG
 have YG3:=WS (P:=l.prog) (w:=w) (base:=base) YF3 TC t YF YE YG aU
 have YG4:=WT (P:=l.prog) (w:=w) (base:=base) YF4 TC YM2 YB2 YG2 YM3 YB3 YG3
 have YG5:=WY (P:=l.prog) (w:=w) (base:=base) YF5 TC t YM4 YB4 YG4
 have YG6:=W3 (P:=l.prog) (w:=w) (base:=base) YF6 TC YF YE YG YM5 YB5 YG5
 have YG7:=W7 (P:=l.prog) (w:=w) (base:=base) YF7 TC
 have YG0:=W8 (P:=l.prog) (w:=w) (base:=base) YF0 TC t YF YE YG fg Th (fun n hn=>kO n hn) (fun n hn=>N4 n hn) N3 B9
 have jv:=SW (P:=l.prog) (w:=w) (base:=base) TC ⟨_,_,_,_,_,_,⟨ymk,XE.1,XE.2,ykc⟩,YB0,YG0,YM6,YB6,YG6,YM7,YB7,YG7⟩ t pQ
 have uN:= @N6 l.prog w (Kw w) mg base t jv jw
 have qm:= @DR l.prog w (Kw w) mg base t uN ql cT
 have tH:Ok l.prog w (Kw w) mg base 11 t.mj t.mm ["text"] lW:=tR.calm qm
 have hU:= @vJ l.prog w (Kw w) mg base t qm dD
 have XF:= @Tf l.prog w (Kw w) mg base t uN tH j9 nv hU jL
 exact XF
theorem walk{l:PySem.W.OpenLaw}{q:Program}{loose:List Str}{XP:(Str->Option Value)->Heap->Prop}{YP:World->Heap->Prop}{d:DefRec}{K:Params->PySem.W.Frag}(hn:l.most=some 63)(UQ:d.params.defaults=[])
  (hY:∀(w:World)(h:Heap),YP w h->(K w.params).In h)
  (F:∀(w:World)(mg:Str->Option Value)(fa:Addr)(h:Heap),(K w.params).In h->h.Ns mainGlobals mg->mg d.name=some (.ref fa)->
   ∃fd:FuncData,(∀(s:Shared)(u:Value),BindsTo s fd ⟨[u],[]⟩ [("_law_script",u)])/\∀base:Heap,(K w.params).In base->base.Ns mainGlobals mg->bH l.prog w (K w.params) mg base kh 13 fa fd ["_law_script"] (Ea (K w.params) Ho xH)):
  PySem.W.WalkO q loose XP YP l.row.toRowW d [] (fun f vs=>PySem.call f vs):=
 L2.LZ (n:=63) (k:=13) (x:="_law_script") (CX:=fun _=>kh) (sp:=fun w=>Ea (K w.params) Ho xH) hn (by decide) UQ ⟨rfl,by decide,by decide⟩ hY F (fun w H a ns hl _ hS=>Tc ns hl hS) fun _ _ _ _ _ z=>z
end DL.pD
open PySem PySem.W PyProof.Rows
set_option maxRecDepth 100000 in
set_option maxHeartbeats 0 in
theorem PySem.Challenge.cw_braidcomb_k83_combed_holds : PySem.Challenge.rw_braidcomb_k83_combed.Holds := by
 w_on
 refine holds_law (l:=PySem.Challenge.rw_braidcomb_k83_combed) (by kernel_rfl) fun said=>?_
 refine holds_open (q:=DL.pD.H.q) (Xt:=DL.pD.H.Xt) (XP:=XL DL.pD.H.q []) (Yf:=DL.pD.H.hk.obs) (Ya:=DL.pD.H.hk.val) (YP:=DL.pD.H.hk.says) DL.pD.H.left DL.pD.H.hk.of DL.pD.H.hk.keeps (fun s e=>xl_of s (Bool.and_eq_true_iff.mp e).1) XL.keeps (by rfl) (by rfl) (by rfl) (fun s e=>recFacts_of (Bool.and_eq_true_iff.mp e).2) (by rfl) said (by decide +kernel) ⟨rfl,rfl,rfl,rfl,rfl,by decide +kernel⟩ ?hw ?hc
 case hw=>w_witness2
 refine DL.pD.walk (l:=PySem.Challenge.rw_braidcomb_k83_combed) rfl rfl (fun w h Y=>kIn_of Y) ?F
 case F=>
  intro w mg fa h KX G hmg
  have hh:=DL.pD.all_mk (l:=PySem.Challenge.rw_braidcomb_k83_combed) ((DL.pD.Ql w).symm▸KX) G hmg
  rw[DL.pD.Ql w]at hh
  exact hh
