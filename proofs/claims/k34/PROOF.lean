import PyProof.Rows.All
import Wide.All
import OpenK.AllK
import Wide.FinOn
import Lean
import PyProof.EqAt
import PyProof.EqKinds
import PyProof.TupleCall
import PyProof.NeKinds
import PyProof.ListRange
import OpenK.KOwn
import KE.KTryMore
import KE.KSorted
import KE.KSort
import PyProof.Rows.SortWalk
import PyProof.SeqI3
import PyProof.Rows.SumAny
import PyProof.Rows.SeqMore2
import KE.KListMore
import PyProof.Rows.Range3
import PyProof.Cells
import KE.KTabLook
import PyProof.SliceStr2
import PyProof.StrBlockI
import PyProof.Rows.FStr
import PyProof.Rows.StrNews2
import PyProof.ListStr
import PyProof.Rows.StrStep
import PyProof.Rows.StrJoinStr
import PyProof.AutoSeq1
import PyProof.ListRange
import KE.KRevIter
import PyProof.CollectIter
import PyProof.FactsAll.range_iterator_1
import PyProof.Draws
import PyProof.EnumMake
import PyProof.Rows.RuleM_int
import PyProof.FactsAll.int_6
import OpenK.AllK
import PySem.Challenge.RW_braidcomb_k34_forms_joined_and_turned
open PySem renaming Value→ah,World→aE,Program→aR,Addr→ae,Heap→aC,sizeLine→aH,sysModules→mG,tupleKind→uR,Within→DC,mainGlobals→dH,builtinsNs→JP,bootBuiltins→eO,Around→bh,Shared→aj,Scope→cU,wpAny→aA,storeName→JU,Expr→ao,model→az,eval→aw,backTo→bp,starEach→ar,Stmt→aD,wpAny_mono→kN,wpAny_Name→JV,wpAny_loadName_local→S8,wpAny_loadName_cell→S9,CmpOp→rF,compareOp→jm,behindInMarks→pQ,wpAny_isTrue_Compare1→Tg,wpAny_truthy_bool→DM,standAt→uS,holding→jO,wpAny_execs_nil→DN,wpAny_execs_cons→Tn,swapsWith→fK,assign→kO,assignInOrder→JY,assignEach→g9,setItem→Ac,Operator→wU,wpAny_bind→aV,wpAny_holding→Ae,wpAny_standAt→DP,swapsWithSole→Af,swappedStores→Ag,wpAny_pure→ck,wpAny_newObj_type→DQ,rule→pS,bindName→DR,PassesOwn→DS,wpAny_passesOwn→uU,letOwnedTupleGo→DU,IsRangeIter→wV,IsRange→rH,rangeSize_one→J1,foldedSetIterable→rJ,binaryOp→kP,unaryOp→DW,sizeLine_eq→Kc,DictEntry→DY,getMethod→D6,codeAny→kQ,attributeBase→hU,cLine→gF,Code→rK,FuncData→aL,BindsTo→uZ,bindArgs→nW,codeAny_mono→D8,wpAny_Call_Name_kw→u9,backToKw→kR,keywordEach→kT,NameKind→gG,bindL→rL,bindC→rM,cellsFrom→D9,Arguments→Ak,getItem→xg,seqIndex_of→KA,seqIndex_neg→KC,subscripted→Ec,slot_list_getitem→Ue,sliceBounds→vh,typeIs_int→KH,Keyword→eU,call_meets→xh,Params→kY,callerA→vj,valueAt→vk,atKey→pX,tupleKind_room_in1→Eh,wpAny_specialOf→Ei,call_meetsIn→KW,compEnvC→xy,relabel→Ao,wpAny_tests_nil→UO,wpAny_comprehension_free→UQ,wpAny_newFunctionEnv→UT,codeAny_compStart_list→UW,wpAny_pyIter_enum→UZ,wpAny_pyIter_revIter→U0,revObj→U1,call_list_range→U8,wpAny_call_entry→VA,wpAny_of_eq→Az,Builtin→EJ,wpAny_ite_split→EK,OsState→iB,treeTable→sN,importedModules→Wm
open PySem.Value renaming isInt→S2,isStrOf→S3,str→Ab,bool→DB,bytes→S4,float→JN,ref→cP,type→rC
open Sum renaming inl→gC,inr→rB
open PySem.SeqAt renaming EqAt→wQ,RcAt→vp,RcNeAt→vq
open Option renaming some→aa,some→cj,isSome_iff_exists→T9,getD_none→Ui,map_some→pW,isSome_map→Us
open PySem.W renaming instObj→rD,methodObj→JO,Frag→ak,lookIn→DX,plainGet→Ah,hasDictIn→DZ,findIn→dW,handedIn→TX,plainGet_of→Kd,isFn→D0,plainOver→Ke,takerIn→Kf,makesIn→Kg,emptyDict→pT,keepIn→jP,kitOne→Kj,kia_one→jQ,kitx_list→Kl,kitx_tuple→T3,kitx_dict→T4,callWith_K→Kq,methodCall_KW→T6,cellsFrom_some→T8,fnOf→gf,codeIn→xf,OpenLaw→KQ,WalkO→Ur,nsIn→rR,mg_of→EI,mg_none_of→kc
open PySem.Heap renaming lt_size→bM,SameBut→DI,get?_push_of_some→cQ,get?_push_size→iP,size_push→Aj,get?_update_self→Uh,get?_update_other→KD
open Nat renaming lt_of_lt_of_le→cY,lt_irrefl→rE,ne_of_lt→du,le_trans→iM,le_of_lt→DG,ne_of_gt→DT,le_refl→aY,zero_le→iR,le_of_eq→wZ,lt_succ_self→D7,le_succ→Kr,succ_mul→Ul,add_comm→Um,le_of_not_lt→KO,lt_of_le_of_lt→xm,lt_trans→KS,zero_add→jv,sub_zero→Lv,le_total→Vc,min_eq_left→EE,min_eq_right→Vd,sub_self→Ay,lt_or_ge→Fq
open List renaming range→bZ,mem_filter→kM,mem_range→pP,filterMap_cons→JQ,mem_cons_self→g8,mem_cons_of_mem→bg,mem_cons→aO,mem_append→b8,mem_append_left→gb,getElem?_eq_some_iff→bz,getElem_inj→JT,getElem?_set_self→iN,getElem?_set_ne→aJ,set_comm→Tt,mem_filterMap→Tw,mem_append_right→cK,size_toArray→cR,length_cons→bQ,lookup→uX,map_cons→bu,length_map→aG,append_nil→bq,nodup_cons→eR,of_mem_zip→Ks,replicate→bf,length_take→jR,getElem?_append_right→iS,getElem?_replicate→mQ,getElem?_append_left→ed,getElem?_map→bG,mem_of_getElem?→dm,length_append→b9,length_replicate→Ea,map_nil→pU,length_drop→nY,length_set→kW,reverse_cons→kX,replicate_succ→gH,flatten_cons→fM,foldl→KJ,append_assoc→bC,foldl_cons→nZ,length_singleton→pV,length_dropLast→KN,length_reverse→bE,nil_append→jS,Pairwise→Up,find?_cons→xn,any_cons→KR,cons_append→gI,length_nil→gJ,nodup_nil→Uw,getElem_of_mem→pZ,getElem?_eq_getElem→aQ,dropLast_eq_take→Er,drop_zero→Et,drop_eq_getElem_cons→K6,drop_length→Eu,lookup_cons→xx,not_mem_nil→jw,getElem?_reverse→rT,range_succ_eq_map→Lf,range'→Lh,range'_succ→Li,range_eq_range'→Lj,length_range→Ey,all_eq_true→U9,map_drop→qe,map_map→gK,map_append→b7,take_length→xD,take_of_length_le→Aw,take_zero→Ve,map_set→xE,map_reverse→oh,replicate_zero→xG,set_cons_zero→Vj,set_cons_succ→Vk,getElem_idxOf→Lz,nodup_append→LA,mem_reverse→qi,reverse_perm→LB,mem_singleton→cL,set_getElem_self→LD,getElem_mem→xN,set_set→LG,pairwise_iff_getElem→VL,set_eq_of_length_le→VM,range_succ→LJ,flatten_append→ER,flatten_nil→ES,mem_map→dh,mem_of_mem_take→AD,take_succ→AE,map→xX,pairwise_map→LP,pairwise_lt_range→V2,Nodup→gh,Perm→EU,getElem?_eq_none→EV,idxOf_lt_length_of_mem→V3,length_filter_le→V5,sum_append→LR,sum_cons→om,perm_ext_iff_of_nodup→V8,nodup_range→V9,filter_append→Wa,filter_cons→Wb,length_zipIdx→LU,filter_cons_of_pos→Wf,filter_cons_of_neg→Wg,map_congr_left→se,map_dropLast→AI,mem_of_getLast?→x6,getLast?_eq_some_iff→L4,getLast?_eq_getElem?→L6,getLast?_map→Wi,reverse_append→AL,takeWhile_cons_of_neg→EZ,takeWhile_cons_of_pos→E3,foldl_append→qk,reverse_reverse→lE,drop_succ_cons→Mc,dropLast_concat_getLast→Mg,getLast?_eq_some_getLast→Mh,set_append_right→Wr,mem_replicate→AU,singleton_append→WI,replicate_succ'→WK,filter_eq_nil_iff→WL,reverse_replicate→WM,map_id→yt,append_eq_nil_iff→FG,append_eq_append_iff→WT,foldl_map→WY,mem_of_mem_drop→FH,map_singleton→W2,dropLast_sublist→W4,map_eq_nil_iff→M7
open PyProof.Rows renaming AllBare→nU,assignInOrder_nil→Tq,assignInOrder_cons→JZ,Call_→uW,callWith_type1→mH,kindOf→jq,envOfC→eT,IntsAre→ve,Subscript_→Kx,subscriptTail→Ky,subscriptTail_builtinR→Ud
open PySem.Calls renaming Name_function_global→Tc,call_len_list→TV,spliced_nil→w6,spliced_cons→w9,callWith_builtin→KI,evalArgs_plain→Uj
open PySem.CmpOp renaming NotIn→Tf
open Array renaming length_toList→Th,toList→Ti
open False renaming elim→jo
open Pure renaming pure→aW
open Bool renaming false_ne_true→gE,eq_iff_iff→wY,or_false→Ug,and_eq_true→xA,false_eq_true→Ew,or_eq_true→Ez,true_eq_false→Vi,not_true→sQ,and_eq_true_iff→Xk
open PySem.Walks renaming range→Tv
open PySem.Builtin.Range renaming rangeSize→iQ,small→Vr,rangeFitsLong→rX
open PyProof renaming noPylong_small→TH
open PySem.Builtin renaming bitAnd→Ka,bitNot→Kb,bitOr→EH
open PySem.Str renaming empty→Kh,ofString→cV
open True renaming intro→mJ
open PySem.Around renaming under→Km
open PySem.Code renaming frames→T5,isFrame→Kn
open Int renaming toNat_natCast→bw,emod_nonneg→xS,emod_lt_of_pos→AB,natCast_zero→MC,le_of_lt→WC,le_refl→Ft,add_zero→oG,zero_mul→WU,add_mul→MP,natCast_add→MS,add_comm→WZ,neg_neg→MV,add_assoc→AX,zero_add→MY
open PySem.Obj renaming mapSeq→vg
open PySem.Builtin.List renaming listTooLong→Al,listLengthHint→VE,listExtendWith→EL,listSameRef→VF,listItems→VH
open PySem.F renaming slot_int_rmul→Uo,slot_dict_get→KY,entry_dict_get→Ux,args_dict_get_2→Uy,plainAttrs_list→jt,slot_list_append→n9,type_list_append→og,slot_list_pop→UK,type_list_pop→UL,slot_list_index→Vp,slot_range_reversed→LC,plain_reversed_new→VC,slot_dict_len→V0
open Classical renaming propDecidable→dM,byContradiction→jU
open ForInStep renaming yield→rS
open PySem.NameKind renaming cell→Vu
open PySem.AutoSeq1 renaming wpAny_loadPart'→VB
open PySem.Builtin.Int renaming intBits→LO
open Prod renaming snd→ou,fst→ya
open Or renaming inl→eB
open PySem.PassesOwn renaming never→jA
open PySem.W (Looks typeIn mroIn kIn_of)
open List (length reverse)
open Nat (reduceAdd reduceSub reduceEqDiff ble)
set_option bootstrap.genMatcherCode false
set_option compiler.extract_closed false
set_option hygiene false
local macro_rules
|`(tactic|dsimp [$l,*] $[$c]?)=>`(tactic|simp -implicitDefEqProofs only [reduceIte,aK,aM,bU,bV,bW,bX,$l,*] $[$c]?)
|`(tactic|dsimp $[$c:location]?)=>`(tactic|simp -implicitDefEqProofs only [reduceIte,aK,aM,bU,bV,bW,bX] $[$c]?)
local macro_rules
|`(tactic|simp_all [$l,*])=>`(tactic|simp -implicitDefEqProofs only [mS,mD,mF,dZ,aT,reduceAdd,reduceSub,reduceEqDiff,reduceIte,aK,aM,bU,bV,bW,bX,$l,*])
|`(tactic|simp_all)=>`(tactic|simp -implicitDefEqProofs only [mS,mD,mF,dZ,aT,reduceAdd,reduceSub,reduceEqDiff,reduceIte,aK,aM,bU,bV,bW,bX])
local macro_rules|`(tactic|omega)=>`(tactic|first|exact Or.inl rfl|exact Or.inr rfl|exact Or.inr (Or.inl rfl)|exact Or.inr (Or.inr rfl)|assumption)
local macro_rules|`(tactic|simp_all only [$l,*])=>`(tactic|simp -implicitDefEqProofs only [$l,*])
local macro_rules|`($a>=>$b)=>`(R.bind $a $b)
set_option hygiene true
noncomputable section
set_option Elab.async false
set_option linter.all false
set_option maxRecDepth 100000
namespace L2
open PySem PySem.Spec PyProof.Rows
abbrev Key:=Sum Int Str
def CK:Key->ah->Bool
 |.inl k,v=>S2 k v
 |.inr x,v=>S3 x v
def agu(w:aE):Key->Int
 |.inl k=>hashInt k
 |.inr x=>hashStr w x
def f9:∀{k:Key}{v:ah},CK k v=true->(∃i t,k=gC i/\v=ah.int i t)\/(∃x t,k=rB x/\v=Ab x t)
 |.inl i,v,h=>by obtain⟨t,e⟩:=ah.isInt_shape (k:=i) (v:=v) h;exact .inl ⟨i,t,rfl,e⟩
 |.inr x,v,h=>by obtain⟨t,e⟩:=ah.isStrOf_shape (x:=x) (v:=v) h;exact .inr ⟨x,t,rfl,e⟩
def M9(i:Int)(t:Tok):CK (.inl i) (.int i t)=true:=by simp[CK,S2]
def Na(x:Str)(t:Tok):CK (.inr x) (.str x t)=true:=by simp[CK,S3]
def Ze(a b:Int):decide ((gC a:Key)=gC b)=(a==b):=by
 by_cases e:a=b
 ·subst e;simp
 ·have h:¬(gC a:Key)=gC b:=λq=>e (gC.inj q)
  rw[decide_eq_false h];exact(beq_eq_false_iff_ne.mpr e).symm
def Zf(a b:Str):decide ((rB a:Key)=rB b)=decide (a=b):=by
 by_cases e:a=b
 ·subst e;simp
 ·have h:¬(rB a:Key)=rB b:=λq=>e (rB.inj q)
  rw[decide_eq_false h,decide_eq_false e]
def Zg(a:Int)(b:Str):decide ((gC a:Key)=rB b)=false:=decide_eq_false (λq=>nomatch q)
def Zh(a:Str)(b:Int):decide ((rB a:Key)=gC b)=false:=decide_eq_false (λq=>nomatch q)
noncomputable def gD(prog:aR)(w:aE):PySem.KeyKind prog w Key where
 is:=CK
 hash:=agu w
 inj:=λv a b ha hb=>by
  rcases f9 ha with⟨i,t,rfl,rfl⟩|⟨x,t,rfl,rfl⟩
  ·rcases f9 hb with⟨j,u,rfl,e⟩|⟨y,u,rfl,e⟩
   ·injection e with e1 _;rw[e1]
   ·exact nomatch e
  ·rcases f9 hb with⟨j,u,rfl,e⟩|⟨y,u,rfl,e⟩
   ·exact nomatch e
   ·injection e with e1 _;rw[e1]
 byValue:=λk v h=>by rcases f9 h with⟨i,t,rfl,rfl⟩|⟨x,t,rfl,rfl⟩<;>rfl
 pyHash:=λhv h=>by
  rcases f9 hv with⟨i,t,rfl,rfl⟩|⟨x,t,rfl,rfl⟩
  ·exact wpAny_pyHash_int h
  ·exact wpAny_pyHash_str h
 eqBool:=λhu hv h=>by
  rcases f9 hu with⟨i,t,rfl,rfl⟩|⟨x,t,rfl,rfl⟩
  ·rcases f9 hv with⟨j,u,rfl,rfl⟩|⟨y,u,rfl,rfl⟩
   ·rw[Ze]at h;exact wpAny_eqBool_int h
   ·rw[Zg]at h;exact wQ.int_str i t y u _ _ _ _ h
  ·rcases f9 hv with⟨j,u,rfl,rfl⟩|⟨y,u,rfl,rfl⟩
   ·rw[Zh]at h;exact wQ.str_int x t j u _ _ _ _ h
   ·rw[Zf]at h;exact wpAny_eqBool_str h
 «strs»:=λk x t v h=>by
  rcases f9 h with⟨i,u,rfl,e⟩|⟨y,u,rfl,e⟩
  ·exact nomatch e
  ·injection e with e1 _
   subst e1;cases v<;>rfl
def F0(prog:aR)(w:aE)(i:Int)(t:Tok):(gD prog w).is (.inl i) (.int i t)=true:=M9 i t
def F3(prog:aR)(w:aE)(x:Str)(t:Tok):(gD prog w).is (.inr x) (.str x t)=true:=Na x t
end L2
namespace L2
open PySem PySem.Spec PyProof.Rows
inductive V where
 |non|bl (b:Bool)|int (i:Int)|str (x:Str)|Om (b:Array UInt8)|Zi (b:UInt64)|ref (a:ae)|ty (n:String)
 deriving DecidableEq
def RelV:V->ah->Prop
 |.non,u=>u=ah.none
 |.bl b,u=>u=DB b
 |.int i,u=>∃t,u=ah.int i t
 |.str x,u=>∃t,u=Ab x t
 |.Om b,u=>∃t,u=S4 b t
 |.Zi b,u=>∃t,u=JN b t
 |.ref a,u=>u=cP a
 |.ty n,u=>u=rC n
abbrev Vals:List V->List ah->Prop:=Paired RelV
theorem Vals.length {xs:List V}{us:List ah}(r:Vals xs us):xs.length=us.length:=Paired.length r
theorem Vals.get:∀{xs:List V}{us:List ah}{i:Nat}{x:V},Vals xs us->xs[i]?=aa x->∃u,us[i]?=aa u/\RelV x u
 |_,_,_,_,.nil,e=>by simp at e
 |_,_,0,_,.cons r _,e=>by simp at e;subst e;exact⟨_,rfl,r⟩
 |_,_,i+1,x,.cons _ t,e=>by obtain⟨u,h1,h2⟩:=Vals.get (i:=i) (x:=x) t (by simpa using e);exact⟨u,by simpa using h1,h2⟩
theorem Vals.set {x:V}{u:ah}(r:RelV x u):∀{xs:List V}{us:List ah}(i:Nat),Vals xs us->Vals (xs.set i x) (us.set i u)
 |_,_,_,.nil=>.nil
 |_,_,0,.cons _ t=>.cons r t
 |_,_,i+1,.cons q t=>.cons q (Vals.set r i t)
theorem Vals.append:∀{xs ys:List V}{us ws:List ah},Vals xs us->Vals ys ws->Vals (xs++ys) (us++ws)
 |_,_,_,_,.nil,s=>s
 |_,_,_,_,.cons r t,s=>.cons r (Vals.append t s)
theorem Vals.take:∀{xs:List V}{us:List ah}(n:Nat),Vals xs us->Vals (xs.take n) (us.take n)
 |_,_,0,_=>.nil
 |_,_,_+1,.nil=>.nil
 |_,_,n+1,.cons r t=>.cons r (Vals.take n t)
theorem Vals.drop:∀{xs:List V}{us:List ah}(n:Nat),Vals xs us->Vals (xs.drop n) (us.drop n)
 |_,_,0,r=>r
 |_,_,_+1,.nil=>.nil
 |_,_,n+1,.cons _ t=>Vals.drop n t
def tP:Option V->Option ah->Prop
 |some v,aa u=>RelV v u
 |none,none=>True
 |_,_=>False
def KV{κ:Type}:List (κ×V)->List (κ×ah)->Prop:=Paired λ(p:κ×V)(q:κ×ah)=>p.1=q.1/\RelV p.2 q.2
def kV:Key->V
 |.inl i=>.int i
 |.inr x=>.str x
inductive HO where
 |lst (xs:List V)
 |tup (xs:List V)
 |dK (kvs:List (Key×V))|dT (kvs:List (List Key×V))
 |set (S:Int->Bool) (n:Nat)
 |ins (C dx:ae) (fs:List (Str×V))
 |own (x:ae)
 |xd (fs:List (Str×V))
 |met (f x:ae)
 |rng (lo hi:Int)
 |A0 (o:Obj) (u:HO)
 |Zj (ps:Array ah)
 |ext (φ:aC->Prop)
abbrev Hp:=ae->Option HO
def upd(H:Hp)(a:ae)(o:HO):Hp:=λb=>if b=a then aa o else H b
def aP{H:Hp}{a:ae}{o:HO}:upd H a o a=aa o:=by unfold upd;rw[if_pos rfl]
def aB{H:Hp}{a b:ae}{o:HO}(h:b≠a):upd H a o b=H b:=by unfold upd;rw[if_neg h]
def dE{H:Hp}{a b:ae}{o u:HO}(h:H a=aa o)(h':H b=aa u)(d:o≠u):a≠b:=by intro e;subst e;rw[h]at h';exact d (cj.inj h')
def aX{H:Hp}{a b:ae}{o:HO}(h:H a=aa o)(h':H b=none):a≠b:=by intro e;subst e;rw[h]at h';cases h'
section
variable(P:aR)(w:aE)
noncomputable def gB(H:Hp)(h:aC)(a:ae):HO->Prop
 |.lst xs=>xs.length<=aH/\∃(its:List ah)(n:Nat),Vals xs its/\h.get? a=aa {cls:=.type "list",data:=.seq its.toArray n}
 |.tup xs=>xs.length<=aH/\∃its:List ah,Vals xs its/\IsTup h a its.toArray
 |.dK kvs=>kvs.length<=aH/\(a==mG)=false/\∃vs,KV kvs vs/\h.DictOf (gD P w) a vs
 |.dT kvs=>kvs.length<=aH/\(a==mG)=false/\∃xs:List (List Key×ae×ah),
   Paired (λ(p:List Key×V)(q:List Key×ae×ah)=>p.1=q.1/\H q.2.1=aa (.tup (p.1.map kV))/\RelV p.2 q.2.2) kvs xs/\
   ∃o es ep,h.get? a=aa o/\o.ExactDict/\o.data=.dict es ep/\es.toList=xs.map (entryOfKey (uR (gD P w)))/\(xs.map (·.1)).Nodup
 |.set S n=>h.SetOf (intKind P w) a S n
 |.ins C dx fs=>H dx=aa (.own a)/\fs.length<=1000/\dx≠a/\h.get? a=aa (rD C dx)/\
   ∃mA,h.Ns1 dx mA/\(∀f,tP (fs.lookup f) (mA f))/\DC mA (fs.map (·.1))
 |.own _=>∃o,h.get? a=aa o
 |.xd fs=>∃mA,h.Ns1 a mA/\∀f,tP (fs.lookup f) (mA f)
 |.rng lo hi=>∃t u v,h.get? a=aa {cls:=.type "range",data:=.fields #[.int lo t,.int hi u,.int 1 v]}
 |.A0 o u=>h.get? a=aa o/\gB H h a u
 |.Zj ps=>h.get? a=aa {cls:=.none,data:=.fields ps}
 |.met f x=>h.get? a=aa (JO (.ref f) (.ref x))
 |.ext φ=>φ h/\(∃o,h.get? a=aa o)/\∀h1 h2:aC,φ h1->(∀o,h1.get? a=aa o->h2.get? a=aa o)->φ h2
def vO(H:Hp)(h:aC):Prop:=∀a o,H a=aa o->gB P w H h a o
end
section
variable{P:aR}{w:aE}{H H':Hp}{h h':aC}{a:ae}{o:HO}
theorem gB.lt (x:gB P w H h a o):a<h.objs.size:=by
 cases o with
 |lst xs=>obtain⟨_,_,_,_,e⟩:=x;exact bM e
 |tup xs=>obtain⟨_,_,_,p⟩:=x;exact p.lt
 |dK kvs=>obtain⟨_,_,_,_,o,_,_,e,_⟩:=x;exact bM e
 |dT kvs=>obtain⟨_,_,_,_,o,_,_,e,_⟩:=x;exact bM e
 |set S n=>obtain⟨o,_,_,_,e,_⟩:=x;exact bM e
 |ins C dx fs=>obtain⟨_,_,_,e,_⟩:=x;exact bM e
 |own y=>obtain⟨_,e⟩:=x;exact bM e
 |xd fs=>obtain⟨_,⟨_,_,_,e,_⟩,_⟩:=x;exact bM e
 |rng lo hi=>obtain⟨_,_,_,e⟩:=x;exact bM e
 |A0 ob u=>obtain⟨e,_⟩:=x;exact bM e
 |Zj ps=>exact bM (show h.get? a=aa _ from x)
 |met f y=>exact bM (show h.get? a=aa _ from x)
 |ext φ=>obtain⟨_,⟨_,e⟩,_⟩:=x;exact bM e
theorem Paired.Zk {α β:Type}{F G:α->β->Prop}:∀{l₁:List α}{l₂:List β},Paired F l₁ l₂->(∀a b,F a b->G a b)->Paired G l₁ l₂
 |_,_,.nil,_=>.nil
 |_,_,.cons r t,f=>.cons (f _ _ r) (Paired.Zk t f)
def gB.Il (x:gB P w H h a o)(k:∀b u,(b=a\/H b=aa (.own a))->h.get? b=aa u->h'.get? b=aa u)
  (ho:∀b,H b=aa (.own a)->H' b=aa (.own a))(ht:∀b xs,H b=aa (.tup xs)->H' b=aa (.tup xs)):gB P w H' h' a o:=by
 induction o with
 |lst xs=>obtain⟨z,its,n,r,e⟩:=x;exact⟨z,its,n,r,k _ _ (.inl rfl) e⟩
 |tup xs=>obtain⟨z,its,r,ob,e,c⟩:=x;exact⟨z,its,r,ob,k _ _ (.inl rfl) e,c⟩
 |dK kvs=>obtain⟨z,y,vs,r,ob,es,ep,e,c⟩:=x;exact⟨z,y,vs,r,ob,es,ep,k _ _ (.inl rfl) e,c⟩
 |dT kvs=>
  obtain⟨z,y,xs,r,ob,es,ep,e,c⟩:=x;exact⟨z,y,xs,Paired.Zk r λp q z=>⟨z.1,ht _ _ z.2.1,z.2.2⟩,ob,es,ep,k _ _ (.inl rfl) e,c⟩
 |set S n=>obtain⟨ob,es,ep,t,e,c⟩:=x;exact⟨ob,es,ep,t,k _ _ (.inl rfl) e,c⟩
 |ins C dx fs=>
  obtain⟨d,z,ne,e,mA,⟨od,es,ep,e2,c⟩,r⟩:=x;exact⟨ho _ d,z,ne,k _ _ (.inl rfl) e,mA,⟨od,es,ep,k _ _ (.inr d) e2,c⟩,r⟩
 |own y=>obtain⟨ob,e⟩:=x;exact⟨ob,k _ _ (.inl rfl) e⟩
 |xd fs=>obtain⟨mA,⟨od,es,ep,e,c⟩,r⟩:=x;exact⟨mA,⟨od,es,ep,k _ _ (.inl rfl) e,c⟩,r⟩
 |rng lo hi=>obtain⟨t,u,v,e⟩:=x;exact⟨t,u,v,k _ _ (.inl rfl) e⟩
 |A0 ob u ih=>obtain⟨e,q⟩:=x;exact⟨k _ _ (.inl rfl) e,ih q⟩
 |Zj ps=>
  have e:h.get? a=aa {cls:=.none,data:=.fields ps}:=x;show h'.get? a=aa {cls:=.none,data:=.fields ps};exact k a _ (.inl rfl) e
 |met f y=>
  have e:h.get? a=aa (JO (.ref f) (.ref y)):=x;show h'.get? a=aa (JO (.ref f) (.ref y));exact k a _ (.inl rfl) e
 |ext φ=>obtain⟨p,⟨o,e⟩,st⟩:=x;exact⟨st _ _ p λo q=>k _ _ (.inl rfl) q,⟨o,k _ _ (.inl rfl) e⟩,st⟩
theorem vO.lt (x:vO P w H h)(e:H a=aa o):a<h.objs.size:=(x a o e).lt
def vO.fresh (x:vO P w H h)(e:h.objs.size<=a):H a=none:=by
 cases q:H a with
 |none=>rfl
 |some u=>exact absurd (cY (x.lt q) e) (rE _)
def vO.kept (x:vO P w H h)(k:∀b u,h.get? b=aa u->h'.get? b=aa u):vO P w H h':=λa o e=>
 (x a o e).Il (λb u _ q=>k b u q) (λ_ q=>q) λ_ _ q=>q
def vO.laid (x:vO P w H h)(k:∀b u,h.get? b=aa u->h'.get? b=aa u)(hp:h.objs.size<=a)(new:gB P w (upd H a o) h' a o):vO P w (upd H a o) h':=λb u e=>by
 have hn:=x.fresh hp
 by_cases hb:b=a
 ·subst hb;rw[aP]at e;cases e;exact new
 ·rw[aB hb]at e
  exact(x b u e).Il (λc v _ q=>k c v q) (λc q=>by rw[aB (aX q hn)];exact q) λc xs q=>by rw[aB (aX q hn)];exact q
end
def Rd(H:Hp)(a:ae)(u:HO):Prop:=H a=aa u\/∃o,H a=aa (.A0 o u)
def Rd.ok {P:aR}{w:aE}{H:Hp}{h:aC}{a:ae}{u:HO}(r:Rd H a u)(x:vO P w H h):gB P w H h a u:=by
 rcases r with r|⟨o,r⟩
 ·exact x a u r
 ·obtain⟨_,q⟩:=x a _ r
  exact q
def Mut:Option HO->Prop
 |some (.lst _)=>True
 |some (.dK _)=>True
 |some (.dT _)=>True
 |some (.set _ _)=>True
 |some (.ins _ _ _)=>True
 |some (.ext _)=>True
 |_=>False
section
variable{P:aR}{w:aE}{H:Hp}{h h':aC}{x e:ae}{o':HO}
def vO.write (ok:vO P w H h)(mu:Mut (H x))(he:e=x\/H e=aa (.own x))(k:∀b u,b≠e->h.get? b=aa u->h'.get? b=aa u)(heo:∃u,h'.get? e=aa u)
  (new:gB P w (upd H x o') h' x o'):vO P w (upd H x o') h':=λb u q=>by
 have acO:∀c y,H c=aa (.own y)->c≠x:=λc y r z=>by subst z;rw[r]at mu;exact mu
 have agw:∀c xs,H c=aa (.tup xs)->c≠x:=λc xs r z=>by subst z;rw[r]at mu;exact mu
 by_cases hb:b=x
 ·subst hb;rw[aP]at q;cases q;exact new
 ·rw[aB hb]at q
  by_cases Zl:b=e
  ·have q':H b=aa (.own x):=by
    rcases he with z|z
    ·exact absurd (Zl.trans z) hb
    ·rw[Zl];exact z
   rw[q]at q';cases q';obtain⟨v,hv⟩:=heo;exact⟨v,by rw[Zl];exact hv⟩
  ·refine(ok b u q).Il (λc v hc r=>k c v ?_ r) (λc r=>by rw[aB (acO c b r)];exact r) λc xs r=>by rw[aB (agw c xs r)];exact r
   rcases hc with rfl|hc
   ·exact Zl
   ·rintro rfl
    rcases he with z|z
    ·exact acO c b hc z
    ·rw[hc]at z;cases z;exact hb rfl
end
structure Un(fs ex:List ae)(H H':Hp)(h h':aC):Prop where
 keep:∀b o,h.get? b=aa o->H b=none->b∉fs->b∉ex->h'.get? b=aa o
 slot:∀b o,h.get? b=aa o->H b=none->b∈fs->b∉ex->∃sl,h'.get? b=aa {o with slots:=sl}
 free:∀b o,h.get? b=aa o->H b=none->b∉ex->H' b=none
 there:∀b o,h.get? b=aa o->b∉ex->∃o',h'.get? b=aa o'
 tups:∀b xs,H b=aa (.tup xs)->H' b=aa (.tup xs)
 DD:∀b o u,H b=aa (.A0 o u)->H' b=aa (.A0 o u)
 F4:∀b ps,H b=aa (.Zj ps)->∃more,H' b=aa (.Zj (ps++more))
section
variable{fs fs' ex ex':List ae}{H H1 H2:Hp}{h h1 h2 h':aC}{a x e:ae}{o:HO}
def Un.any (u:Un fs ex H H1 h h1){b:ae}{ob:Obj}(q:h.get? b=aa ob)(n:H b=none)(hx:b∉ex):∃sl,h1.get? b=aa {ob with slots:=sl}:=by
 by_cases hb:b∈fs
 ·exact u.slot b ob q n hb hx
 ·exact⟨ob.slots,u.keep b ob q n hb hx⟩
def Un.kept (k:∀b u,h.get? b=aa u->h'.get? b=aa u):Un fs ex H H h h':=
 ⟨λb ob q _ _ _=>k b ob q,λb ob q _ _ _=>⟨ob.slots,k b ob q⟩,λ_ _ _ n _=>n,λb ob q _=>⟨ob,k b ob q⟩,λ_ _ q=>q,λ_ _ _ q=>q,λ_ ps q=>⟨#[],by rw[q];simp⟩⟩
def Un.refl:Un fs ex H H h h:=Un.kept λ_ _ q=>q
def Un.laid (k:∀b u,h.get? b=aa u->h'.get? b=aa u)(hp:h.objs.size<=a)(hn:H a=none):Un fs ex H (upd H a o) h h' where
 keep:=λb u q _ _ _=>k b u q
 slot:=λb u q _ _ _=>⟨u.slots,k b u q⟩
 free:=λb u q n _=>by rw[aB (du (cY (bM q) hp))];exact n
 there:=λb u q _=>⟨u,k b u q⟩
 tups:=λb xs q=>by rw[aB (aX q hn)];exact q
 DD:=λb u xs q=>by rw[aB (aX q hn)];exact q
 F4:=λb ps q=>⟨#[],by rw[aB (aX q hn),q];simp⟩
def Un.write (mu:Mut (H x))(he:e=x\/H e=aa (.own x))(k:∀b u,b≠e->h.get? b=aa u->h'.get? b=aa u)(heo:∃u,h'.get? e=aa u):Un fs ex H (upd H x o) h h':=by
 have hx:∀b,H b=none->b≠x:=λb n z=>by subst z;rw[n]at mu;exact mu
 have hb:∀b,H b=none->b≠e:=λb n z=>by
  subst z;rcases he with r|r
  ·exact hx b n r
  ·rw[n]at r;cases r
 have hm:∀b u,H b=aa u->¬Mut (aa u)->b≠x:=λb u q nm z=>by subst z;rw[q]at mu;exact nm mu
 refine⟨λb u q n _ _=>k b u (hb b n) q,λb u q n _ _=>⟨u.slots,k b u (hb b n) q⟩,λb u q n _=>by rw[aB (hx b n)];exact n,λb u q _=>?_,
  λb xs q=>by rw[aB (hm b _ q λz=>z)];exact q,λb u xs q=>by rw[aB (hm b _ q λz=>z)];exact q,λb ps q=>⟨#[],by rw[aB (hm b _ q λz=>z),q];simp⟩⟩
 by_cases Zl:b=e
 ·subst Zl;exact heo
 ·exact⟨u,k b u Zl q⟩
end
def trk(h:aC)(H:Hp):List ae:=(bZ h.objs.size).filter λa=>(H a).isSome
def DF(h:aC)(H:Hp):aC:=PySem.W.hideAll h (trk h H)
def Nb(h:aC)(H:Hp):(DF h H).objs.size=h.objs.size:=PySem.W.hideAll_size _ _
def OE{h:aC}{H:Hp}{b:ae}{o:Obj}(e:h.get? b=aa o)(n:H b=none):(DF h H).get? b=aa o:=
 PySem.W.hideAll_get _ e λhm=>by have q:(H b).isSome=true:=(kM.mp hm).2;rw[n]at q;simp at q
def S5{h:aC}{H:Hp}{b:ae}{o:Obj}(e:(DF h H).get? b=aa o):h.get? b=aa o/\H b=none:=by
 have e':h.get? b=aa o:=PySem.W.of_hideAll (trk h H) e;refine⟨e',?_⟩;cases q:H b with
 |none=>rfl
 |some x=>
  have hm:b∈trk h H:=kM.mpr ⟨pP.mpr (bM e'),by simp[q]⟩;have z:(DF h H).get? b=none:=PySem.W.hideAll_none (trk h H) hm;rw[z]at e;cases e
def S6(g h:aC)(L:ae):List (ae×Obj):=(bZ h.objs.size).filterMap λa=>if a=L\/(g.get? a).isSome=true then none else(h.get? a).map λo=>(a,o)
def rest(g h:aC)(L d:ae):List (ae×Obj):=(S6 g h L).filter λp=>decide (p.1≠d)
end L2
namespace L2
open PySem PySem.Spec PyProof.Rows
structure Mod(K:ak)(mg:Str->Option ah)(base:aC):Prop where
 kin:K.In base
 glob:base.Ns dH mg
 blt:∃mb,base.Ns JP mb/\∀x:Str,x≠"__name__"->mb x=eO x
 nolimit:base.NoLimit
structure Cx where
 prog:aR
 w:aE
 K:ak
 mg:Str->Option ah
 base:aC
 A:bh
 N:List Str
 s₀:aj
 H₀:Hp
 env:Env
 outer:List Env
 stack:List Env
 ex:List ae
 fn:Str->Bool
 calm:Bool
 pn:List (ae×Obj)
 xe:ah->aj->Prop
def Ij(l:List Env):List ae:=l.filterMap (·.frame)
abbrev Cx.fs (X:Cx):List ae:=Ij X.outer
def yF(sc:cU)(x:Str):Prop:=sc.names.lookup x=aa .local\/sc.names.lookup x=aa .cell\/sc.names.lookup x=aa .free
def Loc(sc:cU)(x:Str):Prop:=sc.names.lookup x=aa .local\/sc.names.lookup x=aa .cell
def Look(env:Env)(h:aC)(m:Str->Option ah)(x:Str)(u:ah):Prop:=
 (env.kindOf x=aa .local/\m x=aa u)\/((env.kindOf x=aa .cell\/env.kindOf x=aa .free)/\∃c,env.cells.lookup x=aa c/\h.IsCell c (aa u))
structure Cx.Ok (X:Cx):Prop where
 mod:Mod X.K X.mg X.base
 kind:X.env.scope.kind=.function
 glob:X.env.globals=dH
 blt:X.env.builtins=JP
 above:X.s₀.heap.objs.size<=X.env.locals
 inj:∀x y c,X.env.cells.lookup x=aa c->X.env.cells.lookup y=aa c->x=y
 has:∀x,(X.env.kindOf x=aa .cell\/X.env.kindOf x=aa .free)->∃c,X.env.cells.lookup x=aa c
 cab:∀x c,X.fn x=true->X.env.cells.lookup x=aa c->X.s₀.heap.objs.size<=c
 hd:X.calm=true->X.A.handled=none
 frames:X.A.frames=aa X.stack
 stk:X.stack=X.outer\/(X.stack=X.env::X.outer/\X.env.frame=aa X.env.locals)
 exf:∀b∈X.ex,b≠X.env.locals/\∀x c,X.env.cells.lookup x=aa c->c≠b
 bs:∀b o,X.base.get? b=aa o->X.s₀.heap.get? b=aa o/\X.H₀ b=none
 Su:X.base.objs.size<=X.s₀.heap.objs.size
 Nc:∀b o,X.base.get? b=aa o->b∉X.ex
 Im:∀b∈X.ex,b∉X.fs
 yG:X.s₀.heap.FunFrames X.base X.outer
 Xl:∀b∈X.fs,X.H₀ b=none
structure Inv(X:Cx)(pins:List (ae×Obj))(σ:List (Option V))(H:Hp)(s:aj):Prop where
 ok:X.Ok
 os:s.os=X.s₀.os
 bare:nU s.gens
 base:Un X.fs X.ex X.H₀ H X.s₀.heap s.heap
 loc:∃m,s.heap.Ns X.env.locals m/\∀(i:Nat)(x:Str)(v:V),X.N[i]?=aa x->σ[i]?=aa (aa v)->yF X.env.scope x->∃u,RelV v u/\Look X.env s.heap m x u
 cell:∀x c,X.env.cells.lookup x=aa c->∃v,s.heap.IsCell c v
 free:H X.env.locals=none
 vX:∀x c,X.env.cells.lookup x=aa c->H c=none
 pin:∀p∈X.pn++pins,s.heap.get? p.1=aa p.2/\H p.1=none/\p.1≠X.env.locals/\p.1∉X.fs/\∀v,p.2.data≠.cell v
 hok:vO X.prog X.w H s.heap
 len:σ.length=X.N.length
section
variable{X:Cx}{pins:List (ae×Obj)}{σ:List (Option V)}{H H':Hp}{s:aj}{h':aC}
def Cx.Ok.agx (ok:X.Ok){b:ae}{o:Obj}(e:X.base.get? b=aa o):b∉X.fs:=λhb=>by have:=(ok.yG.mem hb).1;rw[e]at this;cases this
theorem Inv.bs (I:Inv X pins σ H s):∀b o,X.base.get? b=aa o->s.heap.get? b=aa o/\H b=none:=λb o e=>
 ⟨I.base.keep b o (I.ok.bs b o e).1 (I.ok.bs b o e).2 (I.ok.agx e) (I.ok.Nc b o e),I.base.free b o (I.ok.bs b o e).1 (I.ok.bs b o e).2 (I.ok.Nc b o e)⟩
def Inv.bk (I:Inv X pins σ H s):∀b o,X.base.get? b=aa o->s.heap.get? b=aa o:=λb o e=>(I.bs b o e).1
theorem Inv.mod (I:Inv X pins σ H s):Mod X.K X.mg X.base:=I.ok.mod
def Inv.yH (I:Inv X pins σ H s):X.K.In s.heap:=I.ok.mod.kin.keeps I.bk
theorem Inv.lt (I:Inv X pins σ H s):X.env.locals<s.heap.objs.size:=let⟨_,hn,_⟩:=I.loc;hn.lt
def Inv.sz (I:Inv X pins σ H s):X.s₀.heap.objs.size<=s.heap.objs.size:=iM I.ok.above (DG I.lt)
def Inv.agy (I:Inv X pins σ H s){a:ae}(h:s.heap.objs.size<=a):a∉X.fs:=λhb=>by obtain⟨_,o,ho,_⟩:=I.ok.yG.mem hb;exact absurd (cY (bM ho) (iM I.sz h)) (rE _)
def Inv.Zm (I:Inv X pins σ H s):∀x c,X.env.cells.lookup x=aa c->c≠X.env.locals:=λx c e z=>by obtain⟨v,o,ho,hd⟩:=I.cell x c e;obtain⟨m,⟨o',es,ep,Zn,S7,_⟩,_⟩:=I.loc;rw[z,Zn]at ho;cases ho;rw[S7]at hd;cases hd
theorem Inv.yG (I:Inv X pins σ H s):s.heap.FunFrames X.base X.outer:=by
 have all:∀(l:List Env),(∀b∈Ij l,b∈X.fs)->X.s₀.heap.FunFrames X.base l->s.heap.FunFrames X.base l:=by
  intro l
  induction l with
  |nil=>intro _ _;trivial
  |cons env r ih=>
   intro hs hl;obtain⟨hk,⟨L,o,hf,hn,ho,hd⟩,hr⟩:=hl;have hL:L∈X.fs:=hs L (by unfold Ij;rw[JQ,hf];exact g8);obtain⟨sl,e⟩:=I.base.slot L o ho (I.ok.Xl L hL) hL λz=>I.ok.Im L z hL;exact⟨hk,⟨L,_,hf,hn,e,hd⟩,ih (λb hb=>hs b (by unfold Ij;rw[JQ,hf];exact bg _ hb)) hr⟩
 exact all X.outer (λ_ hb=>hb) I.ok.yG
theorem Inv.stack (I:Inv X pins σ H s):s.heap.FunFrames X.base X.stack:=by
 rcases I.ok.stk with e|⟨e,hf⟩
 ·rw[e];exact I.yG
 ·rw[e]
  obtain⟨m,hn,_⟩:=I.loc;refine .cons (by rw[I.ok.kind];decide) hf hn ?_ I.yG;exact aC.get?_none_of_le (iM I.ok.Su I.ok.above)
def Inv.DH (I:Inv X pins σ H s):∀b∈Ij X.stack,b∈X.env.locals::X.fs:=λb hb=>by
 rcases I.ok.stk with e|⟨e,hf⟩
 ·rw[e]at hb;exact bg _ hb
 ·rw[e]at hb
  unfold Ij at hb;rw[JQ,hf]at hb;exact hb
def Inv.JR (I:Inv X pins σ H s):∀b∈Ij X.stack,H b=none:=λb hb=>by
 rcases aO.mp (I.DH b hb)with e|hb
 ·rw[e];exact I.free
 ·obtain⟨_,o,ho,_⟩:=I.ok.yG.mem hb
  exact I.base.free b o ho (I.ok.Xl b hb) λz=>I.ok.Im b z hb
def Inv.step {g':Array GenState}{t':Nat}{d':Drawn}{ch:List ae}(I:Inv X pins σ H s)
  (hch:∀b∈ch,(b∈X.ex\/X.s₀.heap.objs.size<=b)/\b≠X.env.locals/\(∀x c,X.env.cells.lookup x=aa c->c≠b)/\∀p∈X.pn++pins,p.1≠b)
  (keep:∀b o,b≠X.env.locals->b∉X.fs->b∉ch->s.heap.get? b=aa o->H b=none->h'.get? b=aa o)
  (slot:∀b o,b≠X.env.locals->b∈X.fs->b∉ch->s.heap.get? b=aa o->H b=none->∃sl,h'.get? b=aa {o with slots:=sl})(free:∀b o,b∉ch->s.heap.get? b=aa o->H b=none->H' b=none)
  (there:∀b o,b∉ch->s.heap.get? b=aa o->∃o',h'.get? b=aa o')
  (tups:∀b xs,H b=aa (.tup xs)->H' b=aa (.tup xs))(DD:∀b o u,H b=aa (.A0 o u)->H' b=aa (.A0 o u))(F4:∀b ps,H b=aa (.Zj ps)->∃more,H' b=aa (.Zj (ps++more)))
  (ns:∀m,s.heap.Ns X.env.locals m->h'.Ns X.env.locals m)(hok:vO X.prog X.w H' h')(hg:nU g'):
  Inv X pins σ H' {s with heap:=h',gens:=g',drawn:=d',toks:=t'}:=by
 have neL:∀b o,X.s₀.heap.get? b=aa o->b≠X.env.locals:=λb o e=>du (cY (bM e) I.ok.above);have neC:∀b o,X.s₀.heap.get? b=aa o->b∉X.ex->b∉ch:=λb o e hx hb=>by
  rcases(hch b hb).1 with z|z
  ·exact hx z
  ·exact absurd (cY (bM e) z) (rE _)
 have cellK:∀x c,X.env.cells.lookup x=aa c->∀v,s.heap.IsCell c v->h'.IsCell c v:=λx c e v ⟨o,ho,hd⟩=>by
  have nch:c∉ch:=λz=>(hch c z).2.2.1 x c e rfl
  by_cases hc:c∈X.fs
  ·obtain⟨sl,q⟩:=slot c o (I.Zm x c e) hc nch ho (I.vX x c e)
   exact⟨_,q,hd⟩
  ·exact⟨o,keep c o (I.Zm x c e) hc nch ho (I.vX x c e),hd⟩
 refine⟨I.ok,I.os,hg,⟨λb o e n hb hx=>?_,λb o e n hb hx=>?_,λb o e n hx=>?_,λb o e hx=>?_,λb xs e=>tups b xs (I.base.tups b xs e),λb o xs e=>DD b o xs (I.base.DD b o xs e),λb ps e=>?_⟩,?_,λx c e=>?_,?_,λx c e=>?_,λp hp=>?_,hok,I.len⟩
 ·exact keep b o (neL b o e) hb (neC b o e hx) (I.base.keep b o e n hb hx) (I.base.free b o e n hx)
 ·obtain⟨sl,e1⟩:=I.base.slot b o e n hb hx
  obtain⟨sl',e2⟩:=slot b _ (neL b o e) hb (neC b o e hx) e1 (I.base.free b o e n hx);exact⟨sl',e2⟩
 ·obtain⟨o',e1⟩:=I.base.there b o e hx
  exact free b o' (neC b o e hx) e1 (I.base.free b o e n hx)
 ·obtain⟨o',e1⟩:=I.base.there b o e hx
  exact there b o' (neC b o e hx) e1
 ·obtain⟨m1,e1⟩:=I.base.F4 b ps e
  obtain⟨m2,e2⟩:=F4 b _ e1;exact⟨m1++m2,by rw[e2,Array.append_assoc]⟩
 ·obtain⟨m,hn,hl⟩:=I.loc
  refine⟨m,ns m hn,λi x v e1 e2 e3=>?_⟩;obtain⟨u,r,l⟩:=hl i x v e1 e2 e3;refine⟨u,r,?_⟩;rcases l with l|⟨k,c,e,z⟩
  ·exact .inl l
  ·exact .inr ⟨k,c,e,cellK x c e _ z⟩
 ·obtain⟨v,z⟩:=I.cell x c e
  exact⟨v,cellK x c e v z⟩
 ·obtain⟨m,⟨o,_,_,ho,_⟩,_⟩:=I.loc
  exact free _ o (λz=>(hch _ z).2.1 rfl) ho I.free
 ·obtain⟨v,o,ho,hd⟩:=I.cell x c e
  exact free c o (λz=>(hch c z).2.2.1 x c e rfl) ho (I.vX x c e)
 ·obtain⟨e,n,ne,nf,d⟩:=I.pin p hp
  have nch:p.1∉ch:=λz=>(hch p.1 z).2.2.2 p hp rfl;exact⟨keep p.1 p.2 ne nf nch e n,free p.1 p.2 nch e n,ne,nf,d⟩
def Inv.un {t':Nat}(I:Inv X pins σ H s)(u:Un X.fs [] H H' s.heap h')(hok:vO X.prog X.w H' h'):Inv X pins σ H' {s with heap:=h',toks:=t'}:=by
 obtain⟨m,⟨o,es,ep,ho,r⟩,_⟩:=id I.loc;obtain⟨sl,hL⟩:=u.any ho I.free (by simp);exact I.step (g':=s.gens) (d':=s.drawn) (ch:=[]) (λ_ z=>nomatch z) (λb o _ hb _ e n=>u.keep b o e n hb (by simp)) (λb o _ hb _ e n=>u.slot b o e n hb (by simp)) (λb o _ e n=>u.free b o e n (by simp)) (λb o _ e=>u.there b o e (by simp)) u.tups u.DD u.F4 (λm' hm=>by obtain⟨o',es',ep',Zn,r'⟩:=hm;rw[ho]at Zn;cases Zn;exact⟨_,es',ep',hL,r'⟩) hok I.bare
def Inv.call {g':Array GenState}{t':Nat}{d':Drawn}{ch:List ae}(I:Inv X pins σ H s)(u:Un (Ij X.stack) ch H H' s.heap h')(hok:vO X.prog X.w H' h')(hg:nU g')
  (hch:∀b∈ch,(b∈X.ex\/X.s₀.heap.objs.size<=b)/\b≠X.env.locals/\(∀x c,X.env.cells.lookup x=aa c->c≠b)/\∀p∈X.pn++pins,p.1≠b):
  Inv X pins σ H' {s with heap:=h',gens:=g',drawn:=d',toks:=t'}:=by
 obtain⟨m,⟨o,es,ep,ho,r⟩,_⟩:=id I.loc;obtain⟨sl,hL⟩:=u.any ho I.free λz=>(hch _ z).2.1 rfl;exact I.step (ch:=ch) hch (λb o hL hb hc e n=>u.keep b o e n (λz=>(aO.mp (I.DH b z)).elim hL hb) hc) (λb o _ _ hc e n=>u.any e n hc) (λb o hc e n=>u.free b o e n hc) (λb o hc e=>u.there b o e hc) u.tups u.DD u.F4 (λm' hm=>by obtain⟨o',es',ep',Zn,r'⟩:=hm;rw[ho]at Zn;cases Zn;exact⟨_,es',ep',hL,r'⟩) hok hg
def Inv.turned {t':Nat}{it:ae}(I:Inv X pins σ H s)(k:∀b o,b≠it->s.heap.get? b=aa o->h'.get? b=aa o)(hn:H it=none)(hL:it≠X.env.locals)
  (h1:it∈X.ex\/X.s₀.heap.objs.size<=it)(h2:∀x c,X.env.cells.lookup x=aa c->c≠it)(h3:∀p∈X.pn++pins,p.1≠it):Inv X pins σ H {s with heap:=h',toks:=t'}:=by
 have nit:∀b u,H b=aa u->b≠it:=λb u e z=>by rw[z,hn]at e;cases e
 refine I.step (g':=s.gens) (d':=s.drawn) (ch:=[it]) (λb hb=>?_) (λb o _ _ hc e _=>k b o (λz=>hc (by simp[z])) e) (λb o _ _ hc e _=>⟨o.slots,k b o (λz=>hc (by simp[z])) e⟩) (λ_ _ _ _ n=>n)
  (λb o hc e=>⟨o,k b o (λz=>hc (by simp[z])) e⟩) (λ_ _ e=>e) (λ_ _ _ e=>e) (λb ps e=>⟨#[],by rw[e];simp⟩) (λm hm=>?_) (λb u e=>?_) I.bare
 ·have e:b=it:=by simpa using hb
  subst e;exact⟨h1,hL,h2,h3⟩
 ·obtain⟨o,es,ep,ho,r⟩:=hm
  exact⟨o,es,ep,k _ o (Ne.symm hL) ho,r⟩
 ·refine(I.hok b u e).Il (λc v hc q=>k c v ?_ q) (λ_ q=>q) λ_ _ q=>q
  rcases hc with z|z
  ·rw[z];exact nit b u e
  ·exact nit c _ z
def Inv.tok (I:Inv X pins σ H s)(t:Nat):Inv X pins σ H {s with toks:=t}:=I.un (h':=s.heap) (t':=t) Un.refl I.hok
theorem Inv.kept {t':Nat}(I:Inv X pins σ H s)(k:∀b u,s.heap.get? b=aa u->h'.get? b=aa u):Inv X pins σ H {s with heap:=h',toks:=t'}:=I.un (Un.kept k) (I.hok.kept k)
theorem Inv.laid {a:ae}{o:HO}{t':Nat}(I:Inv X pins σ H s)(k:∀b u,s.heap.get? b=aa u->h'.get? b=aa u)(hp:s.heap.objs.size<=a)(new:gB X.prog X.w (upd H a o) h' a o):
  Inv X pins σ (upd H a o) {s with heap:=h',toks:=t'}:=I.un (Un.laid k hp (I.hok.fresh hp)) (I.hok.laid k hp new)
theorem Inv.write {x e:ae}{o:HO}{t':Nat}(I:Inv X pins σ H s)(mu:Mut (H x))(he:e=x\/H e=aa (.own x))(k:∀b u,b≠e->s.heap.get? b=aa u->h'.get? b=aa u)(heo:∃u,h'.get? e=aa u)
  (new:gB X.prog X.w (upd H x o) h' x o):Inv X pins σ (upd H x o) {s with heap:=h',toks:=t'}:=I.un (Un.write mu he k heo) (I.hok.write mu he k heo new)
def Inv.JS {Xm:List (ae×Obj)}(I:Inv X pins σ H s)(h:∀p∈Xm,s.heap.get? p.1=aa p.2/\H p.1=none/\p.1≠X.env.locals/\p.1∉X.fs/\∀v,p.2.data≠.cell v):Inv X Xm σ H s:=
 ⟨I.ok,I.os,I.bare,I.base,I.loc,I.cell,I.free,I.vX,λp hp=>(b8.mp hp).elim (λz=>I.pin p (gb _ z)) (h p),I.hok,I.len⟩
def F5{N:List Str}(hN:N.Nodup){i j:Nat}{x:Str}(a:N[i]?=aa x)(b:N[j]?=aa x):i=j:=by obtain⟨h1,e1⟩:=bz.mp a;obtain⟨h2,e2⟩:=bz.mp b;exact(JT hN).mp (e1.trans e2.symm)
def Nd{M:Model}{A:bh}{E:ah->aj->Prop}{i:Nat}{x:Str}{v:V}{u:ah}{Q:Unit->aj->Prop}(I:Inv X pins σ H s)(hN:X.N.Nodup)(hi:X.N[i]?=aa x)(hx:Loc X.env.scope x)(r:RelV v u)
  (h:∀s',Inv X pins (σ.set i (aa v)) H s'->(∃a,DI a s.heap s'.heap/\(a=X.env.locals\/X.env.cells.lookup x=aa a))->Q () s')(hf:X.fn x=true\/X.env.scope.names.lookup x=aa .local:=by omega):aA M A (JU X.env x u) Q E s:=by
 obtain⟨m,hn,hl⟩:=id I.loc;have hcls:(X.env.scope.kind==.class||(X.env.scope.kind==.module&&X.env.locals !=X.env.globals))=false:=by rw[I.ok.kind];rfl
 have hiσ:i<σ.length:=by rw[I.len];exact(bz.mp hi).1
 have Zm:=I.Zm;have tracked:∀{a:ae}{h':aC},(∃o,s.heap.get? a=aa o/\H a=none)->DI a s.heap h'->vO X.prog X.w H h':=λ{a h'} ha hs b ob e=>by
  obtain⟨_,_,hfree⟩:=ha;refine(I.hok b ob e).Il (λc w' hc q=>(hs.2 c ?_).trans q) (λ_ q=>q) λ_ _ q=>q;rintro rfl;rcases hc with rfl|hc
  ·rw[hfree]at e;cases e
  ·rw[hfree]at hc;cases hc
 rcases hx with hk|hk
 ·refine wpAny_storeName_local hk hn (λh' hn' hs=>?_) hcls
  obtain⟨oL,_,_,hoL,_⟩:=id hn;refine h _ ⟨I.ok,I.os,I.bare,⟨λb o e n hb hx=>?_,λb o e n hb hx=>?_,I.base.free,λb o e hx=>?_,I.base.tups,I.base.DD,I.base.F4⟩,⟨_,hn',λj y v' e1 e2 e3=>?_⟩,λy c e=>?_,I.free,I.vX,λp hp=>?_,tracked ⟨oL,hoL,I.free⟩ hs,by simpa using I.len⟩ ⟨_,hs,.inl rfl⟩
  ·exact(hs.2 b (du (cY (bM e) I.ok.above))).trans (I.base.keep b o e n hb hx)
  ·obtain⟨sl,e1⟩:=I.base.slot b o e n hb hx
   exact⟨sl,(hs.2 b (du (cY (bM e) I.ok.above))).trans e1⟩
  ·obtain⟨o',e1⟩:=I.base.there b o e hx
   exact⟨o',(hs.2 b (du (cY (bM e) I.ok.above))).trans e1⟩
  ·by_cases hj:j=i
   ·subst hj
    rw[hi]at e1;cases e1;rw[iN hiσ]at e2;cases e2;exact⟨u,r,.inl ⟨hk,by simp⟩⟩
   ·rw[aJ (Ne.symm hj)]at e2
    obtain⟨u',r',q⟩:=hl j y v' e1 e2 e3;refine⟨u',r',?_⟩;rcases q with⟨k,e⟩|⟨k,c,e,z⟩
    ·refine .inl ⟨k,?_⟩
     have:y≠x:=λe=>hj (F5 hN e1 (e▸hi));simp[this,e]
    ·exact .inr ⟨k,c,e,z.sameBut hs (Zm y c e)⟩
  ·obtain⟨w',z⟩:=I.cell y c e
   exact⟨w',z.sameBut hs (Zm y c e)⟩
  ·obtain⟨e,n,ne,nf,d⟩:=I.pin p hp
   exact⟨(hs.2 p.1 ne).trans e,n,ne,nf,d⟩
 ·have hfn:X.fn x=true:=by
   rcases hf with z|z
   ·exact z
   ·rw[z]at hk;cases hk
  obtain⟨c,hc⟩:=I.ok.has x (.inl hk);obtain⟨w',z⟩:=I.cell x c hc;refine wpAny_storeName_cell I.ok.kind hk hc z (λh' OG hs=>?_);obtain⟨oc,hoc,agB⟩:=id z;refine h {s with heap:=h'} ⟨I.ok,I.os,I.bare,⟨λb o e n hb hx=>?_,λb o e n hb hx=>?_,I.base.free,λb o e hx=>?_,I.base.tups,I.base.DD,I.base.F4⟩,⟨m,hn.sameBut hs (Ne.symm (Zm x c hc)),λj y v' e1 e2 e3=>?_⟩,λy c' e=>?_,I.free,I.vX,λp hp=>?_,tracked ⟨oc,hoc,I.vX x c hc⟩ hs,by simpa using I.len⟩ ⟨c,hs,.inr hc⟩
  ·exact(hs.2 b (du (cY (bM e) (I.ok.cab x c hfn hc)))).trans (I.base.keep b o e n hb hx)
  ·obtain⟨sl,e1⟩:=I.base.slot b o e n hb hx
   exact⟨sl,(hs.2 b (du (cY (bM e) (I.ok.cab x c hfn hc)))).trans e1⟩
  ·obtain⟨o',e1⟩:=I.base.there b o e hx
   exact⟨o',(hs.2 b (du (cY (bM e) (I.ok.cab x c hfn hc)))).trans e1⟩
  ·by_cases hj:j=i
   ·subst hj
    rw[hi]at e1;cases e1;rw[iN hiσ]at e2;cases e2;exact⟨u,r,.inr ⟨.inl hk,c,hc,OG⟩⟩
   ·rw[aJ (Ne.symm hj)]at e2
    obtain⟨u',r',q⟩:=hl j y v' e1 e2 e3;refine⟨u',r',?_⟩;rcases q with q|⟨k,c',e,z'⟩
    ·exact .inl q
    ·refine .inr ⟨k,c',e,z'.sameBut hs ?_⟩
     rintro rfl;exact hj (F5 hN e1 (I.ok.inj _ _ _ e hc▸hi))
  ·by_cases hcc:c'=c
   ·subst hcc;exact⟨_,OG⟩
   ·obtain⟨w2,z2⟩:=I.cell y c' e
    exact⟨w2,z2.sameBut hs hcc⟩
  ·obtain⟨e,n,ne,nf,d⟩:=I.pin p hp
   refine⟨(hs.2 p.1 ?_).trans e,n,ne,nf,d⟩;intro q;rw[q,hoc]at e;have q':oc=p.2:=cj.inj e;exact d w' (by rw[<-q'];exact agB)
def t9{M:Model}{A:bh}{E:ah->aj->Prop}{i:Nat}{x:Str}{v:V}{u:ah}{Q:Unit->aj->Prop}(I:Inv X pins σ H s)(hN:X.N.Nodup)(hi:X.N[i]?=aa x)(hx:Loc X.env.scope x)(r:RelV v u)
  (h:∀s',Inv X pins (σ.set i (aa v)) H s'->Q () s')(hf:X.fn x=true\/X.env.scope.names.lookup x=aa .local:=by omega):aA M A (JU X.env x u) Q E s:=
 Nd I hN hi hx r (λs' I' _=>h s' I') hf
def Inv.Xn {s':aj}{ch:List ae}(I:Inv X pins σ H s)(ho:s'.os=s.os)(u:Un (Ij X.stack) ch H H' s.heap s'.heap)(hok:vO X.prog X.w H' s'.heap)(hg:nU s'.gens)
  (hch:∀b∈ch,(b∈X.ex\/X.s₀.heap.objs.size<=b)/\b≠X.env.locals/\(∀x c,X.env.cells.lookup x=aa c->c≠b)/\∀p∈X.pn++pins,p.1≠b):Inv X pins σ H' s':=by
 obtain⟨h',g',d',t',o'⟩:=s';have e:o'=s.os:=ho;subst e;exact I.call (g':=g') (t':=t') (d':=d') u hok hg hch
end
abbrev XK:=ah->Option ae->Hp->Prop
abbrev St:=List (Option V)
abbrev VK:=V->Hp->Prop
abbrev TE:=St->Hp->VK->Prop
abbrev TT:=St->Hp->(Bool->Hp->Prop)->Prop
abbrev TA:=St->Hp->(List V->Hp->Prop)->Prop
structure Ends where
 nx:St->Hp->Prop
 rt:VK
 bk:St->Hp->Prop:=λ_ _=>False
 ct:St->Hp->Prop:=λ_ _=>False
abbrev TS:=Ends->St->Hp->Prop
def EP(X:Cx)(pins:List (ae×Obj))(σ:St)(Q:VK)(u:ah)(s':aj):Prop:=∃v H',Inv X pins σ H' s'/\RelV v u/\Q v H'
def TP(X:Cx)(pins:List (ae×Obj))(σ:St)(Q:Bool->Hp->Prop)(b:Bool)(s':aj):Prop:=∃H',Inv X pins σ H' s'/\Q b H'
def AP(X:Cx)(pins:List (ae×Obj))(σ:St)(Q:List V->Hp->Prop)(us:List ah)(s':aj):Prop:=∃vs H',Inv X pins σ H' s'/\Vals vs us/\Q vs H'
noncomputable def SP(X:Cx)(pins:List (ae×Obj))(D:Ends)(f:Flow)(s':aj):Prop:=
 match f with
 |.next=>∃σ' H',Inv X pins σ' H' s'/\D.nx σ' H'
 |.brk=>∃σ' H',Inv X pins σ' H' s'/\D.bk σ' H'
 |.cont=>∃σ' H',Inv X pins σ' H' s'/\D.ct σ' H'
 |.ret u=>∃v σ' H',Inv X pins σ' H' s'/\RelV v u/\D.rt v H'
def PE(X:Cx)(e:ao)(t:TE):Prop:=
 ∀(pins:List (ae×Obj))(s:aj)(σ:St)(H:Hp)(Q:VK),Inv X pins σ H s->t σ H Q->aA (az X.prog X.w) X.A (aw e X.env) (EP X pins σ Q) X.xe s
def PT(X:Cx)(e:ao)(t:TT):Prop:=
 ∀(pins:List (ae×Obj))(s:aj)(σ:St)(H:Hp)(Q:Bool->Hp->Prop),Inv X pins σ H s->t σ H Q->aA (az X.prog X.w) X.A (isTrue e X.env (aw e X.env)) (TP X pins σ Q) X.xe s
def PW(X:Cx)(e:ao)(t:TT):Prop:=
 ∀(whole:Sem ah)(pins:List (ae×Obj))(s:aj)(σ:St)(H:Hp)(Q:Bool->Hp->Prop),Inv X pins σ H s->t σ H Q->aA (az X.prog X.w) X.A (isTrue e X.env whole) (TP X pins σ Q) X.xe s
def PW.pt {X:Cx}{e:ao}{t:TT}(h:PW X e t):PT X e t:=h _
def PA(X:Cx)(es:List ao)(t:TA):Prop:=
 ∀(pos:Pos)(pins:List (ae×Obj))(s:aj)(σ:St)(H:Hp)(Q:List V->Hp->Prop),Inv X pins σ H s->t σ H Q->aA (az X.prog X.w) X.A (spliced (bp pos (ar es X.env))) (AP X pins σ Q) X.xe s
def PS(X:Cx)(st:aD)(t:TS):Prop:=
 ∀(pins:List (ae×Obj))(s:aj)(σ:St)(H:Hp)(D:Ends),Inv X pins σ H s->t D σ H->aA (az X.prog X.w) X.A (exec st X.env) (SP X pins D) X.xe s
def vP(X:Cx)(st:List aD)(t:TS):Prop:=
 ∀(pins:List (ae×Obj))(s:aj)(σ:St)(H:Hp)(D:Ends),Inv X pins σ H s->t D σ H->aA (az X.prog X.w) X.A (execs st X.env) (SP X pins D) X.xe s
def fz{α:Type}{t:Sem α}{Q Q':α->aj->Prop}{M:Model}{A:bh}{E:ah->aj->Prop}{s:aj}(h:aA M A t Q E s)(hQ:∀a s,Q a s->Q' a s):aA M A t Q' E s:=kN h hQ λ_ _ x=>x
end L2
namespace L2
open PySem PySem.Spec PyProof.Rows
section
variable{X:Cx}
def DJ(i:Nat):TE:=λσ H Q=>∃v,σ[i]?=aa (aa v)/\Q v H
def tC(v:V):TE:=λ_ H Q=>Q v H
def gx{i:Nat}{x:Str}{pos:Pos}(hN:X.N[i]?=aa x)(hv:yF X.env.scope x)(hd:(x==("__debug__":Str))=false:=by decide)(hcd:(x==("__classdict__":Str))=false:=by decide):PE X (.Name x pos) (DJ i):=by
 intro pins s σ H Q I h;obtain⟨v,e,h⟩:=h;obtain⟨m,hn,hl⟩:=I.loc;obtain⟨u,r,l⟩:=hl i x v hN e hv;have fin:EP X pins σ Q u s:=⟨v,H,I,r,h⟩
 rcases l with⟨hk,hm⟩|⟨hk,c,hc,hcell⟩
 ·exact JV (S8 I.ok.kind hk hn hm fin) hd
 ·rcases hk with hk|hk
  ·exact JV (S9 I.ok.kind hk hc hcell fin) hd
  ·exact JV (wpAny_loadName_free I.ok.kind hk hc hcell fin hcd) hd
def jD{i j pos}:PE X (.Constant (.int i) j pos) (tC (.int i)):=λ_ _ _ H _ I h=>wpAny_Constant_int ⟨.int i,H,I.tok _,⟨_,rfl⟩,h⟩
def acT{b j pos}:PE X (.Constant (.bool b) j pos) (tC (.bl b)):=λ_ _ _ H _ I h=>Constant_bool ⟨.bl b,H,I,rfl,h⟩
def OH{j pos}:PE X (.Constant .none j pos) (tC .non):=λ_ _ _ H _ I h=>Constant_none ⟨.non,H,I,rfl,h⟩
def Gl(X:Cx)(x:Str):Prop:=X.env.kindOf x=aa .globalImplicit
def DK{E:ah->aj->Prop}{pins:List (ae×Obj)}{s:aj}{σ:St}{H:Hp}{x:Str}{u:ah}{pos:Pos}{Q:ah->aj->Prop}(I:Inv X pins σ H s)(hg:Gl X x)(hm:X.mg x=aa u)(h:Q u s)
  (hd:(x==("__debug__":Str))=false:=by decide):aA (az X.prog X.w) X.A (aw (.Name x pos) X.env) Q E s:=
 Tc I.ok.kind hg (Calls.loadGlobal_global (by rw[I.ok.glob];exact I.mod.glob.keeps I.bk) hm h) hd
def lZ{E:ah->aj->Prop}{pins:List (ae×Obj)}{s:aj}{σ:St}{H:Hp}{x:Str}{u:ah}{pos:Pos}{Q:ah->aj->Prop}(I:Inv X pins σ H s)(hg:Gl X x)(hm:X.mg x=none)(hv:eO x=aa u)(h:Q u s)
  (hn:x≠"__name__":=by decide)(hd:(x==("__debug__":Str))=false:=by decide):aA (az X.prog X.w) X.A (aw (.Name x pos) X.env) Q E s:=by
 obtain⟨mb,h1,h2⟩:=I.mod.blt;exact Tc I.ok.kind hg (Calls.loadGlobal_builtin (by rw[I.ok.glob];exact I.mod.glob.keeps I.bk) hm (by rw[I.ok.blt];exact h1.keeps I.bk) ((h2 x hn).trans hv) h) hd
def Td{x:Str}{v:V}{u:ah}{pos:Pos}(hg:Gl X x)(hm:X.mg x=aa u)(r:RelV v u)(hd:(x==("__debug__":Str))=false:=by decide):PE X (.Name x pos) (tC v):=
 λ_ _ _ H _ I h=>DK I hg hm ⟨v,H,I,r,h⟩ hd
def Te{x:Str}{v:V}{u:ah}{pos:Pos}(hg:Gl X x)(hm:X.mg x=none)(hv:eO x=aa u)(r:RelV v u)(hn:x≠"__name__":=by decide)(hd:(x==("__debug__":Str))=false:=by decide):PE X (.Name x pos) (tC v):=
 λ_ _ _ H _ I h=>lZ I hg hm hv ⟨v,H,I,r,h⟩ hn hd
variable{a b:ao}{ta tb:TE}{pos:Pos}
noncomputable def PC(X:Cx)(op:rF)(a b:ao)(t:TE):Prop:=
 ∀(pins:List (ae×Obj))(s:aj)(σ:St)(H:Hp)(Q:VK),Inv X pins σ H s->t σ H Q->
  aA (az X.prog X.w) X.A (aw a X.env) (λv s₁=>aA (az X.prog X.w) X.A (aw b X.env) (λu s₂=>aA (az X.prog X.w) X.A (jm op v u) (EP X pins σ Q) X.xe s₂) X.xe s₁) X.xe s
def OI(b:ao){op:rF}(h:op≠.In)(h2:op≠.NotIn):pQ op b=false:=by
 have e1:(op==CmpOp.In)=false:=by cases op<;>first|rfl|exact absurd rfl h
 have e2:(op==Tf)=false:=by cases op<;>first|rfl|exact absurd rfl h2
 cases b<;>simp[pQ,e1,e2]
def tB(t:TE):TT:=λσ H Q=>t σ H λx H1=>∃c,x=.bl c/\Q c H1
def Io{op:rF}{t:TE}(h:PC X op a b t)(h1:pQ op b=false:=by first|exact OI _ (by decide) (by decide)|rfl):PT X (.Compare a [op] [b] pos) (tB t):=by intro pins s σ H Q I hw;refine Tg (fz (h pins s σ H _ I hw) λv s1 h1=>fz h1 λu s2 h2=>fz h2 λc s3 ⟨x,H1,I1,r1,q1⟩=>?_) h1;obtain⟨d,rfl,q⟩:=q1;cases r1;exact DM ⟨H1,I1,q⟩
def Zo{e:ao}{t:TE}(h:PE X e t)(he:∀whole,isTrue e X.env whole=(do let v<-whole;uS e.pos;jO [v] (truthy v)):=by intro _;rfl):PT X e (tB t):=by intro pins s σ H Q I hw;refine isTrue_plain (fz (h pins s σ H _ I hw) λv s1 ⟨x,H1,I1,r1,q1⟩=>?_) (he _);obtain⟨d,rfl,q⟩:=q1;cases r1;exact DM ⟨H1,I1,q⟩
variable{tA tB':TT}{rest:List ao}
def agC(t u:TT):TT:=λσ H Q=>t σ H λc H1=>if c=true then u σ H1 Q else Q false H1
def tOr(t u:TT):TT:=λσ H Q=>t σ H λc H1=>if c=true then Q true H1 else u σ H1 Q
def agD(t:TT):TT:=λσ H Q=>t σ H λc H1=>Q (!c) H1
def pw_and1(ha:PT X a tA):PW X (.BoolOp .And [a] pos) tA:=by
 intro wh pins s σ H Q I h;refine isTrue_and (fz (ha pins s σ H Q I h) λc s1 e=>?_);cases c with
 |true=>exact isTrue_and_nil e
 |false=>exact e
def pw_or1(ha:PT X a tA):PW X (.BoolOp .Or [a] pos) tA:=by
 intro wh pins s σ H Q I h;refine isTrue_or (fz (ha pins s σ H Q I h) λc s1 e=>?_);cases c with
 |false=>exact isTrue_or_nil e
 |true=>exact e
def pw_and(ha:PT X a tA)(hb:PW X (.BoolOp .And (b::rest) pos) tB'):PW X (.BoolOp .And (a::b::rest) pos) (agC tA tB'):=by
 intro wh pins s σ H Q I h;refine isTrue_and (fz (ha pins s σ H _ I h) λc s1 ⟨H1,I1,q1⟩=>?_);cases c with
 |true=>exact hb wh pins s1 σ H1 Q I1 q1
 |false=>exact⟨H1,I1,q1⟩
def pw_or(ha:PT X a tA)(hb:PW X (.BoolOp .Or (b::rest) pos) tB'):PW X (.BoolOp .Or (a::b::rest) pos) (tOr tA tB'):=by
 intro wh pins s σ H Q I h;refine isTrue_or (fz (ha pins s σ H _ I h) λc s1 ⟨H1,I1,q1⟩=>?_);cases c with
 |true=>exact⟨H1,I1,q1⟩
 |false=>exact hb wh pins s1 σ H1 Q I1 q1
def Zp(ha:PT X a tA):PT X (.UnaryOp .Not a pos) (agD tA):=by intro pins s σ H Q I h;exact isTrue_not (ha pins s σ H (λc H1=>Q (!c) H1) I h)
def acU(ta tb:TE):TE:=λσ H Q=>ta σ H λx H1=>∃c,x=.bl c/\if c=true then tb σ H1 Q else Q (.bl false) H1
def Zq{op}{t:TE}(h:PE X a t):PE X (.BoolOp op [a] pos) t:=λpins s σ H Q I hw=>BoolOp_one (h pins s σ H Q I hw)
def Zs(ha:PE X a ta)(hb:PE X (.BoolOp .And (b::rest) pos) tb):PE X (.BoolOp .And (a::b::rest) pos) (acU ta tb):=by
 intro pins s σ H Q I h;refine BoolOp_and (fz (ha pins s σ H _ I h) λv s1 ⟨x,H1,I1,r1,q1⟩=>?_);obtain⟨c,rfl,q1⟩:=q1;cases r1;refine DM ?_;cases c with
 |true=>exact hb pins s1 σ H1 Q I1 q1
 |false=>exact⟨.bl false,H1,I1,rfl,q1⟩
def tIf(t:TT)(ta tb:TE):TE:=λσ H Q=>t σ H λc H1=>if c=true then ta σ H1 Q else tb σ H1 Q
def OJ{c:ao}(hc:PT X c tA)(ha:PE X a ta)(hb:PE X b tb):PE X (.IfExp c a b pos) (tIf tA ta tb):=by
 intro pins s σ H Q I h;refine wpAny_IfExp (fz (hc pins s σ H _ I h) λd s1 ⟨H1,I1,q1⟩=>?_);cases d with
 |true=>exact ha pins s1 σ H1 Q I1 q1
 |false=>exact hb pins s1 σ H1 Q I1 q1
end
end L2
namespace L2
open PySem PySem.Spec PyProof.Rows
def fG(K:ak)(H:Hp)(a:ae)(xs:List V):Prop:=
 Rd H a (.lst xs)\/
  ∃(o:Obj)(its:Array ah)(n:Nat),K.lookup a=aa o/\o.cls=.type "list"/\o.dict=none/\o.data=.seq its n/\its.size<=aH/\Vals xs its.toList
def Ck(K:ak)(H:Hp)(a:ae)(xs:List V):Prop:=
 Rd H a (.tup xs)\/
  ∃(o:Obj)(its:Array ah)(n:Nat),K.lookup a=aa o/\o.cls=.type "tuple"/\o.data=.seq its n/\its.size<=aH/\Vals xs its.toList
def agE:ah->Option V
 |.none=>aa .non
 |.bool b=>aa (.bl b)
 |.int i _=>aa (.int i)
 |.str x _=>aa (.str x)
 |.bytes b _=>aa (.Om b)
 |.float b _=>aa (.Zi b)
 |.ref a=>aa (.ref a)
 |.type n=>aa (.ty n)
 |_=>none
def RelV.abs {x:V}{u:ah}(r:RelV x u):agE u=aa x:=by
 cases x with
 |non=>cases r;rfl
 |bl _=>cases r;rfl
 |int _=>obtain⟨t,rfl⟩:=r;rfl
 |str _=>obtain⟨t,rfl⟩:=r;rfl
 |Om _=>obtain⟨t,rfl⟩:=r;rfl
 |Zi _=>obtain⟨t,rfl⟩:=r;rfl
 |ref _=>cases r;rfl
 |ty _=>cases r;rfl
theorem RelV.inj {x y:V}{u:ah}(r:RelV x u)(q:RelV y u):x=y:=cj.inj (r.abs.symm.trans q.abs)
theorem Vals.inj:∀{xs ys:List V}{us:List ah},Vals xs us->Vals ys us->xs=ys
 |_,_,_,.nil,.nil=>rfl
 |_,_,_,.cons r t,.cons r' t'=>by rw[r.inj r',Vals.inj t t']
section
variable{X:Cx}{pins:List (ae×Obj)}{σ:St}{H:Hp}{s:aj}{a:ae}{xs ys:List V}
def fG.of {K:ak}(h:H a=aa (.lst xs)):fG K H a xs:=.inl (.inl h)
def Ck.of {K:ak}(h:H a=aa (.tup xs)):Ck K H a xs:=.inl (.inl h)
def Inv.list (I:Inv X pins σ H s)(h:fG X.K H a xs):∃its:List ah,Vals xs its/\PlainL s.heap a its.toArray/\xs.length<=aH:=by
 rcases h with h|⟨o,its,n,hk,hc,hd,hs,hz,r⟩
 ·obtain⟨z,its,n,r,e⟩:=h.ok I.hok
  exact⟨its,r,⟨_,n,e,rfl,rfl,rfl⟩,z⟩
 ·refine⟨its.toList,r,⟨o,n,I.yH a o hk,hc,hd,by simpa using hs⟩,?_⟩
  have e:=r.length;simp only [Th]at e;lia
def Inv.tuple (I:Inv X pins σ H s)(h:Ck X.K H a xs):∃its:List ah,Vals xs its/\IsTup s.heap a its.toArray/\xs.length<=aH:=by
 rcases h with h|⟨o,its,n,hk,hc,hs,hz,r⟩
 ·obtain⟨z,its,r,p⟩:=h.ok I.hok
  exact⟨its,r,p,z⟩
 ·refine⟨its.toList,r,⟨o,I.yH a o hk,hc,n,by simpa using hs⟩,?_⟩
  have e:=r.length;simp only [Th]at e;lia
def Inv.wR (I:Inv X pins σ H s)(h:fG X.K H a xs)(h':fG X.K H a ys):xs=ys:=by
 obtain⟨its,r,⟨o,n,e,_,_,d⟩,_⟩:=I.list h;obtain⟨its',r',⟨o',n',e',_,_,d'⟩,_⟩:=I.list h';rw[e]at e';cases e';rw[d]at d';injection d' with d1 _;have:its=its':=by simpa using congrArg Ti d1
 subst this;exact r.inj r'
def Inv.Ng (I:Inv X pins σ H s)(h:Ck X.K H a xs)(h':Ck X.K H a ys):xs=ys:=by
 obtain⟨its,r,⟨o,e,_,n,d⟩,_⟩:=I.tuple h;obtain⟨its',r',⟨o',e',_,n',d'⟩,_⟩:=I.tuple h';rw[e]at e';cases e';rw[d]at d';injection d' with d1 _;have:its=its':=by simpa using congrArg Ti d1
 subst this;exact r.inj r'
end
abbrev Cx.Cm (X:Cx)(E:ah->aj->Prop):Cx:={X with xe:=E}
abbrev Cx.JW (X:Cx):Cx:=X.Cm λ_ _=>False
theorem Cx.Ok.Cm {X:Cx}(ok:X.Ok)(E:ah->aj->Prop):(X.Cm E).Ok:=
 ⟨ok.mod,ok.kind,ok.glob,ok.blt,ok.above,ok.inj,ok.has,ok.cab,ok.hd,ok.frames,ok.stk,ok.exf,ok.bs,ok.Su,ok.Nc,ok.Im,ok.yG,ok.Xl⟩
def Cx.Ok.uc {X:Cx}{E:ah->aj->Prop}(ok:(X.Cm E).Ok):X.Ok:=
 ⟨ok.mod,ok.kind,ok.glob,ok.blt,ok.above,ok.inj,ok.has,ok.cab,ok.hd,ok.frames,ok.stk,ok.exf,ok.bs,ok.Su,ok.Nc,ok.Im,ok.yG,ok.Xl⟩
section
variable{X:Cx}{pins:List (ae×Obj)}{σ:St}{H:Hp}{s:aj}{E:ah->aj->Prop}
theorem Inv.Cm (I:Inv X pins σ H s)(E:ah->aj->Prop):Inv (X.Cm E) pins σ H s:=⟨I.ok.Cm E,I.os,I.bare,I.base,I.loc,I.cell,I.free,I.vX,I.pin,I.hok,I.len⟩
theorem Inv.uc (I:Inv (X.Cm E) pins σ H s):Inv X pins σ H s:=⟨I.ok.uc,I.os,I.bare,I.base,I.loc,I.cell,I.free,I.vX,I.pin,I.hok,I.len⟩
theorem SP.uc {D:Ends}{f:Flow}{s':aj}(h:SP (X.Cm E) pins D f s'):SP X pins D f s':=by
 cases f with
 |next=>obtain⟨σ',H',I,q⟩:=h;exact⟨σ',H',I.uc,q⟩
 |brk=>obtain⟨σ',H',I,q⟩:=h;exact⟨σ',H',I.uc,q⟩
 |cont=>obtain⟨σ',H',I,q⟩:=h;exact⟨σ',H',I.uc,q⟩
 |ret u=>obtain⟨v,σ',H',I,r,q⟩:=h;exact⟨v,σ',H',I.uc,r,q⟩
theorem vP.JW {st:List aD}{t:TS}(h:vP X.JW st t):vP X st t:=λpins s σ H D I hw=>
 kN (h pins s σ H D (I.Cm _) hw) (λ_ _ q=>q.uc) λ_ _ z=>jo z
end
section
variable{X:Cx}{st:aD}{rest:List aD}{t u:TS}{e:ao}{te:TE}{pos:Pos}
def acV:TS:=λD σ H=>D.nx σ H
def Tj(t u:TS):TS:=λD σ H=>t {D with nx:=u D} σ H
def pR:vP X [] acV:=λ_ _ σ H _ I h=>DN ⟨σ,H,I,h⟩
def bj(h1:PS X st t)(h2:vP X rest u):vP X (st::rest) (Tj t u):=by
 intro pins s σ H D I h;refine Tn (fz (h1 pins s σ H {D with nx:=u D} I h) λf s1 q=>?_);cases f with
 |next=>
  obtain⟨σ',H',I',q⟩:=q;exact h2 pins s1 σ' H' D I' q
 |ret v=>exact q
 |brk=>exact q
 |cont=>exact q
def dJ(h1:PS X st t):vP X [st] t:=by
 intro pins s σ H D I h;refine Tn (fz (h1 pins s σ H D I h) λf s1 q=>?_);cases f with
 |next=>exact DN q
 |ret v=>exact q
 |brk=>exact q
 |cont=>exact q
def Zt:TS:=λD σ H=>D.bk σ H
def OO:PS X (.Break pos) Zt:=λ_ _ σ H _ I h=>wpAny_Break ⟨σ,H,I,h⟩
def Inv.quiet {pins:List (ae×Obj)}{σ:St}{H:Hp}{s:aj}(I:Inv X pins σ H s):interactive X.env=false:=by simp[interactive,I.ok.kind]
def OP(te:TE):TS:=λD σ H=>te σ H λ_ H1=>D.nx σ H1
def iO(he:PE X e te)(hs:fK e none pos.line X.env=aW false:=by rfl):PS X (.Expr e pos) (OP te):=by intro pins s σ H D I h;exact wpAny_Expr_any (fz (he pins s σ H _ I h) λv s1 ⟨x,H1,I1,r1,q1⟩=>⟨σ,H1,I1,q1⟩) I.quiet hs
def agF(te:TE):TS:=λD σ H=>te σ H D.rt
def nE(he:PE X e te):PS X (.Return (aa e) pos) (agF te):=by intro pins s σ H D I h;exact wpAny_Return_some (fz (he pins s σ H _ I h) λv s1 ⟨x,H1,I1,r1,q1⟩=>⟨x,σ,H1,I1,r1,q1⟩)
def agG(c:TT)(t u:TS):TS:=λD σ H=>c σ H λb H1=>if b=true then t D σ H1 else u D σ H1
def zx{c:ao}{a b:List aD}{tc:TT}(hc:PT X c tc)(ha:vP X a t)(hb:vP X b u):PS X (.If c a b pos) (agG tc t u):=by
 intro pins s σ H D I h;refine wpAny_If (fz (hc pins s σ H _ I h) λd s1 ⟨H1,I1,q1⟩=>?_);cases d with
 |true=>exact ha pins s1 σ H1 D I1 q1
 |false=>exact hb pins s1 σ H1 D I1 q1
end
abbrev TG:=V->St->Hp->(St->Hp->Prop)->Prop
abbrev To:=List V->St->Hp->(St->Hp->Prop)->Prop
def PG(X:Cx)(target:ao)(t:TG):Prop:=
 ∀(pins:List (ae×Obj))(s:aj)(σ:St)(H:Hp)(v:V)(u:ah)(Q:St->Hp->Prop),Inv X pins σ H s->RelV v u->t v σ H Q->
  aA (az X.prog X.w) X.A (kO target X.env u) (λ_ s'=>∃σ' H',Inv X pins σ' H' s'/\Q σ' H') X.xe s
noncomputable def JX(X:Cx)(ts:List ao)(t:To):Prop:=
 ∀(pins:List (ae×Obj))(s:aj)(σ:St)(H:Hp)(vs:List V)(us:List ah)(Q:St->Hp->Prop),Inv X pins σ H s->Vals vs us->t vs σ H Q->
  aA (az X.prog X.w) X.A (JY ((g9 ts X.env).map (·.2)) us) (λ_ s'=>∃σ' H',Inv X pins σ' H' s'/\Q σ' H') X.xe s
abbrev Zu:=V->V->V->Hp->(Hp->Prop)->Prop
def acW(X:Cx)(t:Zu):Prop:=
 ∀(pins:List (ae×Obj))(s:aj)(σ:St)(H:Hp)(o i v:V)(ov iv u:ah)(Q:Hp->Prop),Inv X pins σ H s->RelV o ov->RelV i iv->RelV v u->t o i v H Q->
  aA (az X.prog X.w) X.A (Ac ov iv u) (λ_ s'=>∃H',Inv X pins σ H' s'/\Q H') X.xe s
abbrev TIp:=V->V->Hp->VK->Prop
def PIp(X:Cx)(op:wU)(t:TIp):Prop:=
 ∀(pins:List (ae×Obj))(s:aj)(σ:St)(H:Hp)(x y:V)(v u:ah)(Q:VK),Inv X pins σ H s->RelV x v->RelV y u->t x y H Q->
  aA (az X.prog X.w) X.A (inplaceOp op v u) (EP X pins σ Q) X.xe s
section
variable{X:Cx}{pos:Pos}
def F6(i:Nat):TG:=λv σ H Q=>Q (σ.set i (aa v)) H
def uT{i:Nat}{x:Str}(hN:X.N.Nodup)(hi:X.N[i]?=aa x)(hx:Loc X.env.scope x)(hf:X.fn x=true\/X.env.scope.names.lookup x=aa .local:=by omega):PG X (.Name x pos) (F6 i):=by intro pins s σ H v u Q I r h;exact wpAny_assign_Name (t9 I hN hi hx r (λs' I'=>⟨_,H,I',h⟩) hf)
def agH:To:=λvs σ H Q=>vs=[]/\Q σ H
def acX(t:TG)(u:To):To:=λvs σ H Q=>∃v r,vs=v::r/\t v σ H λσ' H'=>u r σ' H' Q
def Tp:JX X [] agH:=by intro pins s σ H vs us Q I r h;obtain⟨e,h⟩:=h;subst e;cases r;exact Tq ⟨σ,H,I,h⟩
def OQ{e:ao}{es:List ao}{t:TG}{u:To}(h1:PG X e t)(h2:JX X es u)
  (hs:(g9 (e::es) X.env).map (·.2)=kO e X.env::(g9 es X.env).map (·.2):=by rfl):JX X (e::es) (acX t u):=by
 intro pins s σ H vs us Q I r h;obtain⟨v,vr,e1,h⟩:=h;subst e1;cases r with
 |cons r rr=>
  rw[hs];refine JZ (fz (h1 pins s σ H _ _ _ I r h) λ_ s1 ⟨σ1,H1,I1,q1⟩=>?_);exact h2 pins s1 σ1 H1 _ _ Q I1 rr q1
def agI(K:ak)(n:Nat)(t:To):TG:=λv σ H Q=>∃a xs,v=.ref a/\Ck K H a xs/\xs.length=n/\t xs σ H Q
def Zv{es:List ao}{k:Nat}{t:To}{n:Nat}(hc:X.calm=true)(h:JX X es t)
  (hn:(g9 es X.env).length=n:=by rfl)(hst:(g9 es X.env).findIdx? (·.1)=none:=by rfl):PG X (.Tuple es k pos) (agI X.K n t):=by
 intro pins s σ H v u Q I r hw;obtain⟨a,xs,e1,hq,hl,hw⟩:=hw;subst e1;cases r;obtain⟨its,rv,ht,hz⟩:=I.tuple hq;refine assign_Tuple_tuple (I.ok.hd hc) ht (by simp[hn,<-hl,rv.length]) hst λh' hx=>?_;have I1:Inv X pins σ H {s with heap:=h'}:=I.kept (t':=s.toks) λb o e=>hx b o (du (bM e)) e;exact h pins _ σ H xs _ Q I1 (by simpa using rv) hw
def agJ(to ti:TE)(t:Zu):TG:=λv σ H Q=>to σ H λo H1=>ti σ H1 λi H2=>t o i v H2 λH3=>Q σ H3
def Ip{o i:ao}{to ti:TE}{t:Zu}(ho:PE X o to)(hi:PE X i ti)(hs:acW X t)
  (ha:∀v,kO (.Subscript o i pos) X.env v=(do
   let ov<-jO [v] (aw o X.env);let iv<-jO [v,ov] (aw i X.env)
   uS pos
   jO [v,ov,iv] (Ac ov iv v)
   release [v,ov,iv] []):=by intro _;rfl):PG X (.Subscript o i pos) (agJ to ti t):=by
 intro pins s σ H v u Q I r h;rw[ha];refine aV (Ae (fz (ho pins s σ H _ I h) λov s1 ⟨x,H1,I1,r1,q1⟩=>?_));refine aV (Ae (fz (hi pins s1 σ H1 _ I1 q1) λiv s2 ⟨y,H2,I2,r2,q2⟩=>?_));refine aV (DP (aV (Ae (fz (hs pins s2 σ H2 x y v ov iv u _ I2 r1 r2 r q2) λ_ s3 ⟨H3,I3,q3⟩=>?_))));exact wpAny_release ⟨σ,H3,I3,q3⟩
def acY(te:TE)(g:TG):TS:=λD σ H=>te σ H λx H1=>g x σ H1 D.nx
def Ir{tg e:ao}{te:TE}{g:TG}(he:PE X e te)(hg:PG X tg g)(hs:Af [tg] e pos.line X.env=aW false:=by rfl)(hw:Ag [tg] e X.env=aW none:=by rfl)
  (h1:(g9 [tg] X.env).map (·.2)=[kO tg X.env]:=by rfl):PS X (.Assign [tg] e pos) (acY te g):=by
 intro pins s σ H D I h;refine wpAny_Assign_stores (fz (he pins s σ H _ I h) λv s1 ⟨x,H1,I1,r1,q1⟩=>?_) hs hw;rw[h1];exact fz (hg pins s1 σ H1 x v _ I1 r1 q1) λ_ s2 q=>q
def gy{i:Nat}{x:Str}{e:ao}{te:TE}{pos':Pos}(hN:X.N.Nodup)(hi:X.N[i]?=aa x)(hx:Loc X.env.scope x)(he:PE X e te)(hs:fK e (aa (.Name x pos')) pos.line X.env=aW false:=by rfl)(hf:X.fn x=true\/X.env.scope.names.lookup x=aa .local:=by omega):
  PS X (.Assign [.Name x pos'] e pos) (acY te (F6 i)):=by
 intro pins s σ H D I h;refine wpAny_Assign_Name (fz (he pins s σ H _ I h) λv s1 ⟨y,H1,I1,r1,q1⟩=>?_) hs;exact t9 I1 hN hi hx r1 (λs2 I2=>⟨_,H1,I2,q1⟩) hf
def agK(i j:Nat)(ta:TA):TS:=λD σ H=>ta σ H λvs H1=>∃v w,vs=[v,w]/\D.nx ((σ.set i (aa v)).set j (aa w)) H1
def Zw{i j:Nat}{x y:Str}{a b:ao}{ta:TA}{px py pt:Pos}{kt k2 Zx}(hc:X.calm=true)(hN:X.N.Nodup)(hi:X.N[i]?=aa x)(hj:X.N[j]?=aa y)(hij:i≠j)
  (hx:X.env.scope.names.lookup x=aa .local)(hy:X.env.scope.names.lookup y=aa .local)(ha:PA X [a,b] ta)
  (hw:Ag [.Tuple [.Name x px,.Name y py] kt pt] (.Tuple [a,b] k2 Zx) X.env=aW (aa [x,y]))
  (hs:Af [.Tuple [.Name x px,.Name y py] kt pt] (.Tuple [a,b] k2 Zx) pos.line X.env=aW false:=by rfl):
  PS X (.Assign [.Tuple [.Name x px,.Name y py] kt pt] (.Tuple [a,b] k2 Zx) pos) (agK i j ta):=by
 intro pins s σ H D I h;rw[exec_Assign_arm];refine aV (DP ?_);rw[hs];refine aV (ck ?_);rw[if_neg (by decide)];refine aV (Tuple_ (fz (ha _ pins s σ H _ I h) λus s1 ⟨vs,H1,I1,r1,q1⟩=>?_));obtain⟨v,w,e1,q1⟩:=q1;subst e1;obtain⟨u1,u2,rfl,rv,sX⟩:∃u1 u2,us=[u1,u2]/\RelV v u1/\RelV w u2:=by
  cases r1 with
  |cons p q=>
   cases q with
   |cons p' q'=>
    cases q';exact⟨_,_,rfl,p,p'⟩
 refine DQ ?_ (by show 2<=aH;decide);have I2:Inv X pins σ H1 {s1 with heap:=s1.heap.push {cls:=.type "tuple",data:=.seq [u1,u2].toArray}}:=I1.kept (t':=s1.toks) λb o e=>cQ _ e;rw[hw];refine aV (ck ?_);show aA (az X.prog X.w) X.A (do pS "assign.swapped-stores";let items<-unpackItems (.ref s1.heap.objs.size) 2 none;JY [λv=>DR X.env y v,λv=>DR X.env x v] items.reverse;aW Flow.next) _ _ _;refine aV (wpAny_rule (aV (unpackItems_tuple (items:=#[u1,u2]) (I.ok.hd hc) (IsTup.new s1.heap _) λh' Cn=>?_)));have I3:=I2.kept (h':=h') (t':=s1.toks) λb o e=>Cn b o (du (bM e)) e;show aA _ _ (JY [λv=>DR X.env y v,λv=>DR X.env x v] [u2,u1]>>=λ_=>aW Flow.next) _ _ _;refine aV (JZ (wpAny_bindName (t9 I3 hN hj (.inl hy) sX (λs2 I4=>?_) (.inr hy))));refine JZ (wpAny_bindName (t9 I4 hN hi (.inl hx) rv (λs3 I5=>Tq (ck ?_)) (.inr hx)));rw[Tt _ _ (Ne.symm hij)]at I5;exact⟨_,H1,I5,q1⟩
def agL(i:Nat)(te:TE)(ti:TIp):TS:=λD σ H=>∃x,σ[i]?=aa (aa x)/\te σ H λy H1=>ti x y H1 λz H2=>D.nx (σ.set i (aa z)) H2
def Iu{i:Nat}{x:Str}{e:ao}{te:TE}{op:wU}{ti:TIp}{pos':Pos}(hN:X.N.Nodup)(hi:X.N[i]?=aa x)(hx:Loc X.env.scope x)(he:PE X e te)(ho:PIp X op ti)(hf:X.fn x=true\/X.env.scope.names.lookup x=aa .local:=by omega):
  PS X (.AugAssign (.Name x pos') op e pos) (agL i te ti):=by
 intro pins s σ H D I h;obtain⟨v,e1,h⟩:=h;obtain⟨m,hn,hl⟩:=I.loc;have vis:yF X.env.scope x:=by rcases hx with k|k;exact .inl k;exact .inr (.inl k)
 obtain⟨u,r,l⟩:=hl i x v hi e1 vis;refine wpAny_AugAssign_Name ?_;have go:aA (az X.prog X.w) X.A (aw e X.env) (λw s₂=>aA (az X.prog X.w) X.A (inplaceOp op u w) (λr s₃=>aA (az X.prog X.w) X.A (JU X.env x r) (λ_=>SP X pins D .next) X.xe s₃) X.xe s₂) X.xe s:=by refine fz (he pins s σ H _ I h) λw s1 ⟨y,H1,I1,r1,q1⟩=>?_;refine fz (ho pins s1 σ H1 v y u w _ I1 r r1 q1) λz s2 ⟨zv,H2,I2,r2,q2⟩=>?_;exact t9 I2 hN hi hx r2 (λs3 I3=>⟨_,H2,I3,q2⟩) hf
 rcases l with⟨hk,hm⟩|⟨hk,c,hc,hcell⟩
 ·exact S8 I.ok.kind hk hn hm go
 ·rcases hk with hk|hk
  ·exact S9 I.ok.kind hk hc hcell go
  ·rcases hx with k|k
   ·have:X.env.scope.names.lookup x=aa .free:=hk
    rw[k]at this;cases this
   ·have:X.env.scope.names.lookup x=aa .free:=hk
    rw[k]at this;cases this
def ipI(f:Int->Int->Int):TIp:=λx y H Q=>∃i j,x=.int i/\y=.int j/\Q (.int (f i j)) H
def OS:PIp X .Add (ipI λi j=>i+j):=by intro pins s σ H x y v u Q I r1 r2 h;obtain⟨i,j,e1,e2,q⟩:=h;subst e1;subst e2;obtain⟨t,rfl⟩:=r1;obtain⟨t',rfl⟩:=r2;exact iadd_int ⟨.int _,H,I.tok _,⟨_,rfl⟩,q⟩
def Zy:PIp X .Sub (ipI λi j=>i-j):=by intro pins s σ H x y v u Q I r1 r2 h;obtain⟨i,j,e1,e2,q⟩:=h;subst e1;subst e2;obtain⟨t,rfl⟩:=r1;obtain⟨t',rfl⟩:=r2;exact isub_int ⟨.int _,H,I.tok _,⟨_,rfl⟩,q⟩
end
section
variable{X:Cx}{pos:Pos}
def Zz(c:TT)(tb:TS):TS:=λD σ H=>∃W:Nat->St->Hp->Prop,(∃m,W m σ H)/\∀m σ H,W m σ H->
 c σ H λb H1=>if b=true then∃N:St->Hp->Prop,(∀σ' H',N σ' H'->∃m',m'<m/\W m' σ' H')/\tb {D with nx:=N,ct:=N,bk:=D.nx} σ H1 else D.nx σ H1
def A5{c:ao}{body:List aD}{tc:TT}{tb:TS}(hp:DS (az X.prog X.w) X.A X.env X.xe)(hc:PT X c tc)(hb:vP X body tb):PS X (.While c body [] pos) (Zz tc tb):=by
 intro pins s σ H D I h;obtain⟨W,⟨m0,w0⟩,turn⟩:=h;refine wpAny_While (codeAny_whileLoop (λn s'=>∃σ' H',Inv X pins σ' H' s'/\W n σ' H') ?_ m0 ⟨σ,H,I,w0⟩);rintro n s1 ⟨σ1,H1,I1,w1⟩;refine uU hp (fz (hc pins s1 σ1 H1 _ I1 (turn n σ1 H1 w1)) λb s2 ⟨H2,I2,q2⟩=>?_);cases b with
 |true=>
  obtain⟨N,hN,q2⟩:=q2;rw[if_pos rfl];refine uU hp (fz (hb pins s2 σ1 H2 _ I2 q2) λf s3 q3=>?_);cases f with
  |next=>
   obtain⟨σ3,H3,I3,n3⟩:=q3;obtain⟨m',hm,w3⟩:=hN σ3 H3 n3;exact⟨m',hm,σ3,H3,I3,w3⟩
  |cont=>
   obtain⟨σ3,H3,I3,n3⟩:=q3;obtain⟨m',hm,w3⟩:=hN σ3 H3 n3;exact⟨m',hm,σ3,H3,I3,w3⟩
  |brk=>exact q3
  |ret v=>exact q3
 |false=>
  rw[if_neg gE];exact DN ⟨σ1,H2,I2,q2⟩
end
structure It where
 go:Nat->Hp->Prop
 yld:Nat->Hp->V->Hp->Prop
 stop:Nat->Hp->Prop
def rG(X:Cx)(pins:List (ae×Obj))(H:Hp)(b:ae):Prop:=
 H b=none/\b≠X.env.locals/\b∉X.fs/\(b∈X.ex\/X.s₀.heap.objs.size<=b)/\(∀x c,X.env.cells.lookup x=aa c->c≠b)/\∀p∈X.pn++pins,p.1≠b
def Inv.Nh {X:Cx}{pins:List (ae×Obj)}{σ:St}{H H':Hp}{s:aj}{b:ae}(I:Inv X pins σ H s)(hb:s.heap.objs.size<=b)(hn:H' b=none):rG X pins H' b:=by
 refine⟨hn,DT (cY I.lt hb),I.agy hb,.inr (iM I.sz hb),λx c e z=>?_,λp hp z=>?_⟩
 ·obtain⟨v,q⟩:=I.cell x c e
  exact absurd (cY q.lt (by rw[z];exact hb)) (rE _)
 ·exact absurd (cY (bM (I.pin p hp).1) (by rw[z];exact hb)) (rE _)
structure Turn(P:aR)(w:aE)(K:ak)(tg:ao)(J:It)(fp:List ae)(it:ae)(tn:Nat->aC->Prop):Prop where
 mem:it∈fp
 obj:∀i h,tn i h->∀b∈fp,∃o,h.get? b=aa o/\∀v,o.data≠.cell v
 keep:∀i h h',tn i h->(∀b∈fp,∀o,h.get? b=aa o->h'.get? b=aa o)->tn i h'
 item:∀(X:Cx),X.prog=P->X.w=w->X.K=K->X.calm=true->∀(i:Nat)(pins:List (ae×Obj))(s:aj)(σ:St)(H:Hp)(E:ah->aj->Prop),Inv X pins σ H s->(∀b∈fp,rG X pins H b)->tn i s.heap->J.go i H->
  aA (az P w) X.A (pyNext (.ref it)) (λr s1=>∃u,r=aa u/\
   aA (az P w) X.A (DU tg (.ref it) u) (λ_ s2=>∃x H',Inv X pins σ H' s2/\RelV x u/\J.yld i H x H'/\tn (i+1) s2.heap/\∀b∈fp,H' b=none) E s1) E s
 done:∀(X:Cx),X.prog=P->X.w=w->X.K=K->X.calm=true->∀(i:Nat)(pins:List (ae×Obj))(s:aj)(σ:St)(H:Hp)(E:ah->aj->Prop),Inv X pins σ H s->(∀b∈fp,rG X pins H b)->tn i s.heap->J.stop i H->
  aA (az P w) X.A (pyNext (.ref it)) (λr s1=>r=none/\Inv X pins σ H s1) E s
 self:∀(A:bh)(i:Nat)(s:aj)(Q:ah->aj->Prop)(E:ah->aj->Prop),tn i s.heap->Q (.ref it) s->aA (az P w) A (pyIter (.ref it)) Q E s
abbrev TI:=St->Hp->(It->Hp->Prop)->Prop
def PIE(X:Cx)(pins:List (ae×Obj))(σ:St)(tg:ao)(R:It->Hp->Prop)(itv:ah)(s2:aj):Prop:=
 ∃(it:ae)(fp:List ae)(tn:Nat->aC->Prop)(J:It)(H':Hp),itv=.ref it/\Inv X pins σ H' s2/\Turn X.prog X.w X.K tg J fp it tn/\tn 0 s2.heap/\(∀b∈fp,rG X pins H' b)/\R J H'
def PI(X:Cx)(tg iter:ao)(wi:TI):Prop:=
 ∀(pins:List (ae×Obj))(s:aj)(σ:St)(H:Hp)(R:It->Hp->Prop),Inv X pins σ H s->wi σ H R->
  aA (az X.prog X.w) X.A (aw iter X.env) (λv s1=>aA (az X.prog X.w) X.A (pyIter v) (PIE X pins σ tg R) X.xe s1) X.xe s
def OT{M:Model}{A:bh}{E:ah->aj->Prop}{s:aj}{tg:ao}{it:ae}{u:ah}{o:Obj}{n:String}{vs:Array ah}{Q:Unit->aj->Prop}(ho:s.heap.get? it=aa o)(hc:o.cls=.type n)(hd:o.data=.fields vs)
  (hn:["enumerate","zip","dict_itemiterator","dict_reverseitemiterator","odict_iterator","itertools.zip_longest","itertools.pairwise"].contains n=false)(hQ:Q () s):aA M A (DU tg (.ref it) u) Q E s:=by
 unfold DU;cases tg<;>first
  |exact ck hQ
  |(cases u<;>first
    |exact ck hQ
    |(refine aV (wpAny_load ho ?_)
      rw[hc,hd];show aA M A (if(["enumerate","zip","dict_itemiterator","dict_reverseitemiterator","odict_iterator","itertools.zip_longest","itertools.pairwise"].contains n&&vs[0]?==aa (rawInt _))=true then _ else _) Q E s;rw[if_neg (by intro h;rw[hn,Bool.false_and]at h;cases h)];exact ck hQ))
def Sv(K:ak)(a:ae):It:=
 ⟨λi H=>∃xs x,fG K H a xs/\xs[i]?=aa x,λi H x H'=>H'=H/\∀xs,fG K H a xs->xs[i]?=aa x,λi H=>∃xs,fG K H a xs/\xs.length<=i⟩
def Itr(lo:Int)(n:Nat):It:=⟨λi _=>i<n,λi H x H'=>H'=H/\x=.int (lo+i),λi _=>n<=i⟩
def Ni{P:aR}{w:aE}{K:ak}{tg:ao}(a it:ae):Turn P w K tg (Sv K a) [it] it (λi h=>h.IsListIter it a i) where
 mem:=by simp
 obj:=λi h st b hb=>by
  have e:b=it:=by simpa using hb
  subst e;obtain⟨o,e,c,d⟩:=st;exact⟨o,e,λv z=>by rw[d]at z;cases z⟩
 keep:=λi h h' st k=>st.at λo e=>k it (by simp) o e
 item:=by intro X hP hw hK hc i pins s σ H E I hf st hg;subst hP hw hK;obtain⟨xs,x,hq,hx⟩:=hg;obtain⟨its,rv,p,hz⟩:=I.list hq;obtain⟨u,hu,ru⟩:=rv.get hx;obtain⟨f0,f1,f2,f3,f4,f5⟩:=hf it (by simp);refine wpAny_pyNext_list_item st p.isList (x:=u) (by simpa using hu) λh' Tu sb=>?_;have I1:Inv X pins σ H {s with heap:=h'}:=I.turned (t':=s.toks) (λb o hb e=>(sb.2 b hb).trans e) f0 f1 f3 f4 f5;obtain⟨o,e,c,d⟩:=id Tu;exact⟨u,rfl,OT (s:={s with heap:=h'}) e c d (by decide) ⟨x,H,I1,ru,⟨rfl,λys hy=>by rw[I.wR hy hq];exact hx⟩,Tu,λb hb=>(hf b hb).1⟩⟩
 done:=by intro X hP hw hK hc i pins s σ H E I hf st hg;subst hP hw hK;obtain⟨xs,hq,hx⟩:=hg;obtain⟨its,rv,p,hz⟩:=I.list hq;obtain⟨f0,f1,f2,f3,f4,f5⟩:=hf it (by simp);have hl:=rv.length;exact wpAny_pyNext_list_end (I.ok.hd hc) st p.isList (by simp;lia) λh' eb=>⟨rfl,I.turned (t':=s.toks) (λb o hb e=>eb b o hb e) f0 f1 f3 f4 f5⟩
 self:=λ_ _ _ _ _ st h=>wpAny_pyIter_listiter st h
def Iw{P:aR}{w:aE}{K:ak}{tg:ao}(it:ae)(lo:Int)(n:Nat):Turn P w K tg (Itr lo n) [it] it (λi h=>wV h it (lo+(i:Nat)*1) ((n:Int)-(i:Nat)) 1) where
 mem:=by simp
 obj:=λi h st b hb=>by
  have e:b=it:=by simpa using hb
  subst e;exact⟨_,st,λv z=>by have z':Data.fields _=Data.cell v:=z;cases z'⟩
 keep:=λi h h' st k=>k it (by simp) _ st
 item:=by intro X hP hw hK hc i pins s σ H E I hf st hg;subst hP hw hK;obtain⟨f0,f1,f2,f3,f4,f5⟩:=hf it (by simp);have W:=Tv (prog:=X.prog) (w:=X.w) (I.ok.hd hc) it lo 1 n;refine W.item i s _ _ hg st λv h' tk hv Tu kk=>?_;obtain⟨t,rfl⟩:=hv;have I1:Inv X pins σ H {s with heap:=h',toks:=tk}:=I.turned (λb o hb e=>kk b o (by simpa using hb) e) f0 f1 f3 f4 f5;refine⟨_,rfl,OT (s:={s with heap:=h',toks:=tk}) (n:="range_iterator") Tu rfl rfl (by decide) ⟨.int (lo+i),H,I1,⟨t,?_⟩,⟨rfl,rfl⟩,Tu,λb hb=>(hf b hb).1⟩⟩;rw[Int.mul_one]
 done:=by intro X hP hw hK hc i pins s σ H E I hf st hg;subst hP hw hK;obtain⟨f0,f1,f2,f3,f4,f5⟩:=hf it (by simp);exact wpAny_pyNext_range_end (I.ok.hd hc) st (by have:n<=i:=hg;lia) λh' eb=>⟨rfl,I.turned (t':=s.toks) (λb o hb e=>eb b o hb e) f0 f1 f3 f4 f5⟩
 self:=λ_ _ _ _ _ st h=>wpAny_pyIter_rangeiter st h
end L2
namespace L2
open PySem PySem.Spec PyProof.Rows
section
variable{X:Cx}{tg:ao}
def J0(K:ak)(tl:TE):TI:=λσ H R=>tl σ H λx H1=>∃a,x=.ref a/\(∃xs,fG K H1 a xs)/\R (Sv K a) H1
def uV{l:ao}{tl:TE}(hl:PE X l tl):PI X tg l (J0 X.K tl):=by
 intro pins s σ H R I h;refine fz (hl pins s σ H _ I h) λv s1 ⟨x,H1,I1,r1,q1⟩=>?_;obtain⟨a,e,⟨xs,hq⟩,q⟩:=q1;subst e;cases r1;obtain⟨its,rv,p,hz⟩:=I1.list hq;refine wpAny_pyIter_list p.isList ?_;refine⟨s1.heap.objs.size,[s1.heap.objs.size],_,_,H1,rfl,I1.kept (t':=s1.toks) λb o e=>cQ _ e,Ni a _,⟨_,iP _ rfl,rfl,rfl⟩,λb hb=>?_,q⟩;have e:b=s1.heap.objs.size:=by simpa using hb
 subst e;exact I1.Nh (aY _) (I1.hok.fresh (aY _))
def OU{pins:List (ae×Obj)}{σ:St}{H:Hp}{s:aj}{R:It->Hp->Prop}{E:ah->aj->Prop}{lo hi:Int}{t u v:Tok}{tk:Nat}(I:Inv X pins σ H s)(h1: -(2^62)<=lo)(h2:lo<2^62)(h3: -(2^62)<=hi)(h4:hi<2^62)
  (q:R (Itr lo (hi-lo).toNat) H):aA (az X.prog X.w) X.A (pyIter (.ref s.heap.objs.size)) (PIE X pins σ tg R) E {s with heap:=s.heap.push {cls:=.type "range",data:=.fields #[.int lo t,.int hi u,.int 1 v]},toks:=tk}:=by
 refine wpAny_pyIter_range (rH.new ..) (small_one h1 h2 h3 h4) ?_;have I1:Inv X pins σ H {s with heap:=s.heap.push {cls:=.type "range",data:=.fields #[.int lo t,.int hi u,.int 1 v]},toks:=tk}:=I.kept λb o e=>cQ _ e;refine⟨(s.heap.push {cls:=.type "range",data:=.fields #[.int lo t,.int hi u,.int 1 v]}).objs.size,[(s.heap.push {cls:=.type "range",data:=.fields #[.int lo t,.int hi u,.int 1 v]}).objs.size],_,_,H,rfl,
  I1.kept (t':=tk) λb o e=>cQ _ e,Iw _ lo (hi-lo).toNat,?_,λb hb=>?_,q⟩
 ·have e1:lo+((0:Nat):Int)*1=lo:=by simp
  have e2:(((hi-lo).toNat:Nat):Int)-((0:Nat):Int)=iQ lo hi 1:=by rw[J1];split<;>lia
  show wV _ _ (lo+((0:Nat):Int)*1) ((((hi-lo).toNat:Nat):Int)-((0:Nat):Int)) 1;rw[e1,e2];exact iP _ rfl
 ·have e:b=(s.heap.push {cls:=.type "range",data:=.fields #[.int lo t,.int hi u,.int 1 v]}).objs.size:=by simpa using hb
  subst e;exact I1.Nh (aY _) (I1.hok.fresh (aY _))
def ac0(ta:TA):TI:=λσ H R=>ta σ H λvs H1=>∃i j:Int,vs=[.int i,.int j]/\(-(2^62)<=i/\i<2^62/\ -(2^62)<=j/\j<2^62)/\R (Itr i (j-i).toNat) H1
def Nj{a b:ao}{ta:TA}{p pos:Pos}(hg:Gl X "range")(hm:X.mg "range"=none)(ha:PA X [a,b] ta)(hs:ar [a,b] X.env=[(false,aw a X.env),(false,aw b X.env)]:=by rfl)(hs2:ar [b] X.env=[(false,aw b X.env)]:=by rfl):
  PI X tg (.Call (.Name "range" p) [a,b] [] pos) (ac0 ta):=by
 intro pins s σ H R I h;refine uW (lZ I hg hm boot_range (mH (fz (ha pos pins s σ H _ I h) λus s1 ⟨vs,H1,I1,r1,q1⟩=>?_) (by rw[hs,hs2]) (by rw[hs2];rfl)));obtain⟨i,j,e,⟨q1,q2,q3,q4⟩,q⟩:=q1;subst e;cases r1 with
 |cons r rr=>
  cases rr with
  |cons r' rr=>
   cases rr;obtain⟨t,rfl⟩:=r;obtain⟨t',rfl⟩:=r';exact call_range_2 (OU I1 q1 q2 q3 q4 q)
noncomputable def ac1(wi:TI)(g:TG)(tb:TS):TS:=λD σ H=>wi σ H λJ H1=>∃W:Nat->Nat->St->Hp->Prop,(∃m,W 0 m σ H1)/\∀i m σ H,W i m σ H->
 (J.stop i H/\D.nx σ H)\/(J.go i H/\∃N:St->Hp->Prop,(∀σ' H',N σ' H'->∃m',m'<m/\W (i+1) m' σ' H')/\∀x H',J.yld i H x H'->g x σ H' λσ2 H2=>tb {D with nx:=N,ct:=N,bk:=D.nx} σ2 H2)
def yI(fp:List ae)(h:aC):List (ae×Obj):=fp.filterMap λb=>(h.get? b).map λo=>(b,o)
def kg{fp:List ae}{h:aC}{b:ae}{o:Obj}(hb:b∈fp)(e:h.get? b=aa o):(b,o)∈yI fp h:=Tw.mpr ⟨b,hb,by rw[e];rfl⟩
def Nk{fp:List ae}{h:aC}{p:ae×Obj}(hp:p∈yI fp h):p.1∈fp/\h.get? p.1=aa p.2:=by
 obtain⟨b,hb,e⟩:=Tw.mp hp;cases q:h.get? b with
 |none=>rw[q]at e;cases e
 |some o=>
  rw[q]at e;have e':(b,o)=p:=cj.inj e;subst e';exact⟨hb,q⟩
def Inv.pinned {pins:List (ae×Obj)}{σ:St}{H:Hp}{s:aj}{fp:List ae}(I:Inv X pins σ H s)(hf:∀b∈fp,rG X pins H b)(ho:∀b∈fp,∃o,s.heap.get? b=aa o/\∀v,o.data≠.cell v):Inv X (pins++yI fp s.heap) σ H s:=
 I.JS λp hp=>(b8.mp hp).elim (λz=>I.pin p (cK _ z)) λz=>by obtain⟨hb,e⟩:=Nk z;obtain⟨f0,f1,f2,_⟩:=hf p.1 hb;obtain⟨o,e',d⟩:=ho p.1 hb;rw[e]at e';cases e';exact⟨e,f0,f1,f2,d⟩
def Inv.oK {pins pl:List (ae×Obj)}{σ:St}{H:Hp}{s:aj}(I:Inv X (pins++pl) σ H s):Inv X pins σ H s:=I.JS λp hp=>I.pin p (cK _ (gb _ hp))
def DV{iter:ao}{body:List aD}{wi:TI}{g:TG}{tb:TS}{pos:Pos}(hp:DS (az X.prog X.w) X.A X.env X.xe)(hc:X.calm=true)(hi:PI X tg iter wi)(hg:PG X tg g)(hb:vP X body tb)
  (hs:∀x,rJ iter X.env x=aW x:=by intro _;rfl):PS X (.For tg iter body [] pos) (ac1 wi g tb):=by
 intro pins s σ H D I h;refine wpAny_For (fz (hi pins s σ H _ I h) λv s1 h1=>fz h1 λitv s2 h2=>?_) hs;obtain⟨it,fp,tn,J,H2,e,I2,T,Sw,f2,W,⟨m0,w0⟩,turn⟩:=h2;subst e;have ZA:∀{H':Hp},(∀b∈fp,H' b=none)->∀b∈fp,rG X pins H' b:=λhn b hb=>⟨hn b hb,(f2 b hb).2⟩
 refine codeAny_forLoop_any (λn s'=>∃i σ' H',Inv X pins σ' H' s'/\tn i s'.heap/\(∀b∈fp,H' b=none)/\W i n σ' H') ?_ m0 ⟨0,σ,H2,I2,Sw,λb hb=>(f2 b hb).1,w0⟩;rintro n s3 ⟨i,σ3,H3,I3,st3,vQ,w3⟩;rcases turn i n σ3 H3 w3 with⟨stop,qn⟩|⟨go,N,hN,step⟩
 ·refine uU hp (fz (T.done X rfl rfl rfl hc i pins s3 σ3 H3 X.xe I3 (ZA vQ) st3 stop) λr s4 ⟨hr,I4⟩=>?_)
  subst hr;exact DN ⟨σ3,H3,I4,qn⟩
 ·refine uU hp (fz (T.item X rfl rfl rfl hc i pins s3 σ3 H3 X.xe I3 (ZA vQ) st3 go) λr s4 ⟨u,hr,h4⟩=>?_)
  subst hr;refine uU hp (fz h4 λ_ s5 ⟨x,H5,I5,r5,y5,Tz,Iz⟩=>?_);have I5':=I5.pinned (ZA Iz) (T.obj _ _ Tz);refine uU hp (fz (hg _ s5 σ3 H5 x u _ I5' r5 (step x H5 y5)) λ_ s6 ⟨σ6,H6,I6,q6⟩=>?_);refine uU hp (fz (hb _ s6 σ6 H6 _ I6 q6) λf s7 q7=>?_);have again:∀{σ7:St}{H7:Hp},Inv X (pins++yI fp s5.heap) σ7 H7 s7->N σ7 H7->∃m,m<n/\∃i σ' H',Inv X pins σ' H' s7/\tn i s7.heap/\(∀b∈fp,H' b=none)/\W i m σ' H':=λ{σ7 H7} I7 n7=>by obtain⟨m',hm,w7⟩:=hN σ7 H7 n7;refine⟨m',hm,i+1,σ7,H7,I7.oK,T.keep _ _ _ Tz λb hb o e=>(I7.pin (b,o) (cK _ (cK _ (kg hb e)))).1,λb hb=>?_,w7⟩;obtain⟨o,e,d⟩:=T.obj _ _ Tz b hb;exact(I7.pin (b,o) (cK _ (cK _ (kg hb e)))).2.1
  cases f with
  |next=>obtain⟨σ7,H7,I7,n7⟩:=q7;exact again I7 n7
  |cont=>obtain⟨σ7,H7,I7,n7⟩:=q7;exact again I7 n7
  |brk=>obtain⟨σ7,H7,I7,q7⟩:=q7;exact⟨σ7,H7,I7.oK,q7⟩
  |ret v=>obtain⟨x7,σ7,H7,I7,r7,q7⟩:=q7;exact⟨x7,σ7,H7,I7.oK,r7,q7⟩
end
def A6{K:ak}{a:ae}{xs:List V}{g:TG}{tb:TS}{D:Ends}{σ:St}{H:Hp}(Pv:Nat->St->Hp->Prop)(h0:Pv 0 σ H)(hl:∀i σ H,i<=xs.length->Pv i σ H->fG K H a xs)
  (hs:∀i x σ H,xs[i]?=aa x->Pv i σ H->g x σ H λσ2 H2=>tb {D with nx:=Pv (i+1),ct:=Pv (i+1),bk:=D.nx} σ2 H2)(hd:∀σ H,Pv xs.length σ H->D.nx σ H):
  ∃W:Nat->Nat->St->Hp->Prop,(∃m,W 0 m σ H)/\∀i m σ H,W i m σ H->
   ((Sv K a).stop i H/\D.nx σ H)\/((Sv K a).go i H/\∃N:St->Hp->Prop,(∀σ' H',N σ' H'->∃m',m'<m/\W (i+1) m' σ' H')/\∀x H',(Sv K a).yld i H x H'->g x σ H' λσ2 H2=>tb {D with nx:=N,ct:=N,bk:=D.nx} σ2 H2):=by
 refine⟨λi m σ H=>m=xs.length-i/\i<=xs.length/\Pv i σ H,⟨xs.length,by simp,iR _,h0⟩,?_⟩;rintro i m σ H ⟨rfl,hi,p⟩;have q:=hl i σ H hi p
 by_cases hlt:i<xs.length
 ·refine .inr ⟨⟨xs,xs[i],q,by simp[hlt]⟩,Pv (i+1),λσ' H' p'=>⟨xs.length-(i+1),by lia,rfl,hlt,p'⟩,λx H' y=>?_⟩
  obtain⟨e,y⟩:=y;subst e;exact hs i x σ _ (y xs q) p
 ·have e:i=xs.length:=by lia
  subst e;exact .inl ⟨⟨xs,q,aY _⟩,hd σ H p⟩
end L2
namespace L2
open PySem PySem.Spec PyProof.Rows
abbrev R2:=V->V->Hp->VK->Prop
def yJ(X:Cx)(f:ah->ah->Sem ah)(r:R2):Prop:=
 ∀(pins:List (ae×Obj))(s:aj)(σ:St)(H:Hp)(x y:V)(v u:ah)(Q:VK),Inv X pins σ H s->RelV x v->RelV y u->r x y H Q->
  aA (az X.prog X.w) X.A (f v u) (EP X pins σ Q) X.xe s
def UnR(X:Cx)(f:ah->Sem ah)(r:V->Hp->VK->Prop):Prop:=
 ∀(pins:List (ae×Obj))(s:aj)(σ:St)(H:Hp)(x:V)(v:ah)(Q:VK),Inv X pins σ H s->RelV x v->r x H Q->
  aA (az X.prog X.w) X.A (f v) (EP X pins σ Q) X.xe s
def vY(X:Cx)(f:ah)(r:List V->Hp->VK->Prop):Prop:=
 ∀(pins:List (ae×Obj))(s:aj)(σ:St)(H:Hp)(xs:List V)(us:List ah)(Q:VK),Inv X pins σ H s->Vals xs us->r xs H Q->
  aA (az X.prog X.w) X.A (call f us) (EP X pins σ Q) X.xe s
def ZC(r:R2)(ta tb:TE):TE:=λσ H Q=>ta σ H λx H1=>tb σ H1 λy H2=>r x y H2 Q
def tUn(r:V->Hp->VK->Prop)(ta:TE):TE:=λσ H Q=>ta σ H λx H1=>r x H1 Q
def rI(C:Int->Int->Prop)(g:Int->Int->V):R2:=λx y H Q=>∃i j,x=.int i/\y=.int j/\C i j/\Q (g i j) H
def J2(g:Int->Int->V):R2:=λx y H Q=>∃i j,x=.int i/\y=.int j/\Q (g i j) H
def rU(g:Int->V):V->Hp->VK->Prop:=λx H Q=>∃i,x=.int i/\Q (g i) H
section
variable{X:Cx}{a b c:ao}{ta tb tc:TE}{pos:Pos}
def ZD(ha:PE X a ta)(hb:PE X b tb){pins:List (ae×Obj)}{s:aj}{σ:St}{H:Hp}{R:V->V->Hp->Prop}(I:Inv X pins σ H s)
  (h:ta σ H λx H1=>tb σ H1 λy H2=>R x y H2){Q:ah->aj->Prop}{f:ah->ah->Sem ah}
  (hf:∀v u s2 x y H2,Inv X pins σ H2 s2->RelV x v->RelV y u->R x y H2->aA (az X.prog X.w) X.A (f v u) Q X.xe s2):
  aA (az X.prog X.w) X.A (aw a X.env) (λv s₁=>aA (az X.prog X.w) X.A (aw b X.env) (λu s₂=>aA (az X.prog X.w) X.A (f v u) Q X.xe s₂) X.xe s₁) X.xe s:=by
 refine fz (ha pins s σ H _ I h) λv s1 ⟨x,H1,I1,r1,q1⟩=>?_;refine fz (hb pins s1 σ H1 _ I1 q1) λu s2 ⟨y,H2,I2,r2,q2⟩=>?_;exact hf v u s2 x y H2 I2 r1 r2 q2
def wW{op:wU}{r:R2}(ho:yJ X (kP op) r)(ha:PE X a ta)(hb:PE X b tb):PE X (.BinOp a op b pos) (ZC r ta tb):=by intro pins s σ H Q I h;exact wpAny_BinOp (ZD ha hb I h λv u s2 x y H2 I2 rx ry q=>ho pins s2 σ H2 x y v u Q I2 rx ry q)
def J3{op:UnaryOp}{r:V->Hp->VK->Prop}(ho:UnR X (DW op) r)(ha:PE X a ta):PE X (.UnaryOp op a pos) (tUn r ta):=by intro pins s σ H Q I h;exact UnaryOp_ (fz (ha pins s σ H _ I h) λv s1 ⟨x,H1,I1,r1,q1⟩=>ho pins s1 σ H1 x v Q I1 r1 q1)
def opI{f:ah->ah->Sem ah}{C:Int->Int->Prop}{g:Int->Int->Int}
  (pS:∀(i j:Int)(t u:Tok)(s:aj)(Q:ah->aj->Prop)(E:ah->aj->Prop),C i j->Q (.int (g i j) s.toks) {s with toks:=s.toks+1}->aA (az X.prog X.w) X.A (f (.int i t) (.int j u)) Q E s):
  yJ X f (rI C λi j=>.int (g i j)):=by
 intro pins s σ H x y v u Q I rx ry h;obtain⟨i,j,rfl,rfl,hc,q⟩:=h;obtain⟨t,rfl⟩:=rx;obtain⟨t',rfl⟩:=ry;exact pS i j t t' s _ _ hc ⟨.int (g i j),H,I.tok _,⟨_,rfl⟩,q⟩
def ZE{f:ah->ah->Sem ah}{g:Int->Int->Int}
  (pS:∀(i j:Int)(t u:Tok)(s:aj)(Q:ah->aj->Prop)(E:ah->aj->Prop),Q (.int (g i j) s.toks) {s with toks:=s.toks+1}->aA (az X.prog X.w) X.A (f (.int i t) (.int j u)) Q E s):
  yJ X f (J2 λi j=>.int (g i j)):=by
 intro pins s σ H x y v u Q I rx ry h;obtain⟨i,j,rfl,rfl,q⟩:=h;obtain⟨t,rfl⟩:=rx;obtain⟨t',rfl⟩:=ry;exact pS i j t t' s _ _ ⟨.int (g i j),H,I.tok _,⟨_,rfl⟩,q⟩
def ZF{f:ah->ah->Sem ah}{g:Int->Int->Bool}
  (pS:∀(i j:Int)(t u:Tok)(s:aj)(Q:ah->aj->Prop)(E:ah->aj->Prop),Q (.bool (g i j)) s->aA (az X.prog X.w) X.A (f (.int i t) (.int j u)) Q E s):
  yJ X f (J2 λi j=>.bl (g i j)):=by
 intro pins s σ H x y v u Q I rx ry h;obtain⟨i,j,rfl,rfl,q⟩:=h;obtain⟨t,rfl⟩:=rx;obtain⟨t',rfl⟩:=ry;exact pS i j t t' s _ _ ⟨.bl (g i j),H,I,rfl,q⟩
def ac4(i j:Int):Prop:=0<j/\j<1073741824
def Nm(i j:Int):Prop:=0<=j/\j<=1000000/\i.natAbs<2^64
def TF(i j:Int):Prop:=(-(2^64)<i/\i<2^64)\/(-(2^64)<j/\j<2^64)
def TF.ok {i j:Int}(h:TF i j):IntMulOk i j:=by
 rcases h with⟨h1,h2⟩|⟨h1,h2⟩
 ·exact .of_left (intBits_le_64 h1 h2)
 ·exact .of_right (intBits_le_64 h1 h2)
def l9:yJ X (kP .Add) (J2 λi j=>.int (i+j)):=ZE λ_ _ _ _ _ _ _ q=>add_int q
def eQ:yJ X (kP .Sub) (J2 λi j=>.int (i-j)):=ZE λ_ _ _ _ _ _ _ q=>sub_int q
def IA:yJ X (kP .Mult) (rI TF λi j=>.int (i*j)):=opI λ_ _ _ _ _ _ _ hc q=>mul_int q hc.ok
def wX:yJ X (kP .FloorDiv) (rI ac4 λi j=>.int (i/j)):=opI λi j _ _ _ _ _ hc q=>by have h1:(0:Int)<j:=hc.1;have h2:j<1073741824:=hc.2;exact floordiv_int (by lia) (by rw[Int.fdiv_eq_ediv_of_nonneg i (by lia)];exact q) (.inl (TH (by lia)))
def mf:yJ X (kP .Mod) (rI (λ_ j=>0<j) λi j=>.int (i%j)):=opI λi j _ _ _ _ _ hc q=>by have h1:(0:Int)<j:=hc;exact mod_int' (by lia) (by rw[Int.fmod_eq_emod_of_nonneg i (by lia)];exact q)
def ZG:yJ X (kP .Pow) (rI Nm λi j=>.int (i^j.toNat)):=opI λ_ _ _ _ _ _ _ hc q=>pow_int_small hc.1 hc.2.1 hc.2.2 q
def ZI:yJ X (kP .LShift) (rI Nm λi j=>.int (i*2^j.toNat)):=opI λ_ _ _ _ _ _ _ hc q=>lshift_int_small hc.1 hc.2.1 hc.2.2 q
def OV:yJ X (kP .BitAnd) (J2 λi j=>.int (Ka i j)):=ZE λ_ _ _ _ _ _ _ q=>and_int q
def unI{f:ah->Sem ah}{g:Int->Int}
  (pS:∀(i:Int)(t:Tok)(s:aj)(Q:ah->aj->Prop)(E:ah->aj->Prop),Q (.int (g i) s.toks) {s with toks:=s.toks+1}->aA (az X.prog X.w) X.A (f (.int i t)) Q E s):
  UnR X f (rU λi=>.int (g i)):=by
 intro pins s σ H x v Q I rx h;obtain⟨i,rfl,q⟩:=h;obtain⟨t,rfl⟩:=rx;exact pS i t s _ _ ⟨.int (g i),H,I.tok _,⟨_,rfl⟩,q⟩
def nG:UnR X (DW .USub) (rU λi=>.int (-i)):=unI λ_ _ _ _ _ q=>neg_int q
def OW:UnR X (DW .Invert) (rU λi=>.int (Kb i)):=unI λ_ _ _ _ _ q=>invert_int q
end
noncomputable def OY:V->V->Bool
 |.non,.non=>true|.non,.int _=>true|.int _,.non=>true|.non,.bl _=>true|.bl _,.non=>true|.non,.str _=>true|.str _,.non=>true
 |.int _,.int _=>true|.bl _,.bl _=>true|.str _,.str _=>true|.Om _,.Om _=>true
 |.int _,.str _=>true|.str _,.int _=>true|.bl _,.str _=>true|.str _,.bl _=>true
 |_,_=>false
def rEq:R2:=λx y H Q=>OY x y=true/\Q (.bl (decide (x=y))) H
def TJ{i j:Int}:decide (V.int i=V.int j)=(i==j):=by rw[wY];simp
def ZJ{i j:Bool}:decide (V.bl i=V.bl j)=(i==j):=by rw[wY];simp
def TN{i j:Str}:decide (V.str i=V.str j)=(i==j):=by rw[wY];simp
def TQ{i j:Array UInt8}:decide (V.Om i=V.Om j)=(i.toList==j.toList):=by rw[wY];cases i;cases j;simp
section
variable{X:Cx}{a b c:ao}{ta tb tc:TE}{pos:Pos}
def i7{pins:List (ae×Obj)}{σ:St}{H:Hp}{s:aj}{Q:VK}{k k':Bool}(I:Inv X pins σ H s)(q:Q (.bl k) H)(e:k=k'):EP X pins σ Q (.bool k') s:=by subst e;exact⟨.bl k,H,I,rfl,q⟩
def OZ:yJ X (jm .Eq) rEq:=by
 intro pins s σ H x y v u Q I rx ry h;obtain⟨hs,q⟩:=h;cases x with
 |non=>
  cases rx;cases y with
  |non=>cases ry;exact PySem.EqNone.eq_none_none (i7 I q (by simp))
  |bl j=>cases ry;exact PySem.EqNone.eq_none_bool (i7 I q (by simp))
  |int j=>obtain⟨t',rfl⟩:=ry;exact PySem.EqNone.eq_none_int (i7 I q (by simp))
  |str j=>obtain⟨t',rfl⟩:=ry;exact PySem.EqNone.eq_none_str (i7 I q (by simp))
  |_=>exact absurd (show false=true from hs) gE
 |bl i=>
  cases rx;cases y with
  |non=>cases ry;exact PySem.EqNone.eq_bool_none (i7 I q (by simp))
  |bl j=>cases ry;exact eq_bool (i7 I q ZJ)
  |str j=>obtain⟨t',rfl⟩:=ry;exact PySem.EqMixed.eq_bool_str (i7 I q (by simp))
  |_=>exact absurd (show false=true from hs) gE
 |int i=>
  obtain⟨t,rfl⟩:=rx;cases y with
  |non=>cases ry;exact PySem.EqNone.eq_int_none (i7 I q (by simp))
  |int j=>obtain⟨t',rfl⟩:=ry;exact eq_int (i7 I q TJ)
  |str j=>obtain⟨t',rfl⟩:=ry;exact PySem.EqMixed.eq_int_str (i7 I q (by simp))
  |_=>exact absurd (show false=true from hs) gE
 |str i=>
  obtain⟨t,rfl⟩:=rx;cases y with
  |non=>cases ry;exact PySem.EqNone.eq_str_none (i7 I q (by simp))
  |bl j=>cases ry;exact PySem.EqMixed.eq_str_bool (i7 I q (by simp))
  |int j=>obtain⟨t',rfl⟩:=ry;exact PySem.EqMixed.eq_str_int (i7 I q (by simp))
  |str j=>obtain⟨t',rfl⟩:=ry;exact eq_str (i7 I q TN)
  |_=>exact absurd (show false=true from hs) gE
 |Om i=>
  obtain⟨t,rfl⟩:=rx;cases y with
  |Om j=>obtain⟨t',rfl⟩:=ry;exact PySem.W.eq_bytes (i7 I q TQ)
  |_=>exact absurd (show false=true from hs) gE
 |_=>cases y<;>exact absurd (show false=true from hs) gE
def zy:yJ X (jm .Lt) (J2 λi j=>.bl (decide (i<j))):=ZF λ_ _ _ _ _ _ _ q=>lt_int q
def ac5:yJ X (jm .LtE) (J2 λi j=>.bl (decide (i<=j))):=ZF λ_ _ _ _ _ _ _ q=>le_int q
def qP:yJ X (jm .Gt) (J2 λi j=>.bl (decide (j<i))):=ZF λ_ _ _ _ _ _ _ q=>gt_int q
def ZK:yJ X (jm .Is) (λx y H Q=>y=.non/\Q (.bl (decide (x=.non))) H):=by
 intro pins s σ H x y v u Q I rx ry h;obtain⟨rfl,q⟩:=h;cases ry;refine is_none_gen (i7 I q ?_);cases x<;>first
  |(cases rx;rfl)
  |(obtain⟨t,rfl⟩:=rx;rfl)
def TR:yJ X (jm .IsNot) (λx y H Q=>y=.non/\Q (.bl (!decide (x=.non))) H):=by
 intro pins s σ H x y v u Q I rx ry h;obtain⟨rfl,q⟩:=h;cases ry;refine isnot_none_gen (i7 I q ?_);cases x<;>first
  |(cases rx;rfl)
  |(obtain⟨t,rfl⟩:=rx;rfl)
def bH(b:ao){op:rF}(h:op≠.In:=by decide)(h2:op≠.NotIn:=by decide):pQ op b=false:=by
 have e1:(op==CmpOp.In)=false:=by cases op<;>first|rfl|exact absurd rfl h
 have e2:(op==Tf)=false:=by cases op<;>first|rfl|exact absurd rfl h2
 cases b<;>simp[pQ,e1,e2]
def TU{op:rF}{r:R2}(ho:yJ X (jm op) r)(ha:PE X a ta)(hb:PE X b tb)(hm:pQ op b=false):PE X (.Compare a [op] [b] pos) (ZC r ta tb):=by intro pins s σ H Q I h;exact wpAny_Compare1 (ZD ha hb I h λv u s2 x y H2 I2 rx ry q=>ho pins s2 σ H2 x y v u Q I2 rx ry q) hm
def ac6(t:TE):TT:=λσ H Q=>t σ H λx H'=>∃k,x=.bl k/\Q k H'
def nV{op:rF}{r:R2}(ho:yJ X (jm op) r)(ha:PE X a ta)(hb:PE X b tb)(hm:pQ op b=false):PT X (.Compare a [op] [b] pos) (ac6 (ZC r ta tb)):=by
 intro pins s σ H Q I h;refine Tg (fz (ha pins s σ H _ I h) λv s1 ⟨x,H1,I1,r1,q1⟩=>fz (hb pins s1 σ H1 _ I1 q1) λu s2 ⟨y,H2,I2,r2,q2⟩=>
  fz (ho pins s2 σ H2 x y v u _ I2 r1 r2 q2) λc s3 ⟨z,H3,I3,r3,k,e,q3⟩=>?_) hm
 subst e;cases r3;exact DM ⟨H3,I3,q3⟩
def wu:(aH:Nat)<2^63:=by rw[Kc];decide
def vals1{x:V}{us:List ah}(r:Vals [x] us):∃u,us=[u]/\RelV x u:=by
 cases r with
 |cons r1 r2=>cases r2;exact⟨_,rfl,r1⟩
def vals2{x y:V}{us:List ah}(r:Vals [x,y] us):∃u w',us=[u,w']/\RelV x u/\RelV y w':=by
 cases r with
 |cons r1 r2=>
  cases r2 with
  |cons r3 r4=>cases r4;exact⟨_,_,rfl,r1,r3⟩
def F7:vY X (.builtin "abs") (λxs H Q=>∃i,xs=[.int i]/\Q (.int (if i<0 then-i else i)) H):=by intro pins s σ H xs us Q I r h;obtain⟨i,rfl,q⟩:=h;obtain⟨u,rfl,t,rfl⟩:=vals1 r;exact call_abs_int λu tk=>⟨.int (if i<0 then-i else i),H,I.tok _,⟨_,rfl⟩,q⟩
def Nn(hc:X.calm=true):vY X (.builtin "max") (λxs H Q=>∃i j,xs=[.int i,.int j]/\Q (.int (if j>i then j else i)) H):=by
 intro pins s σ H xs us Q I r h;obtain⟨i,j,rfl,q⟩:=h;obtain⟨u,w',rfl,⟨t,rfl⟩,⟨t',rfl⟩⟩:=vals2 r;refine max_two_ints (I.ok.hd hc) λh' tk k=>⟨_,H,I.kept k,?_,q⟩
 by_cases hj:j>i
 ·rw[if_pos hj,if_pos hj];exact⟨_,rfl⟩
 ·rw[if_neg hj,if_neg hj];exact⟨_,rfl⟩
def ac7(K:ak)(x:V)(H:Hp)(n:Nat):Prop:=
 match x with
 |.str y=>y.length<=aH/\n=y.length
 |.Om y=>y.size<=aH/\n=y.size
 |.ref p=>(∃xs,fG K H p xs/\n=xs.length)\/∃xs,Ck K H p xs/\n=xs.length
 |_=>False
def i9:vY X (.builtin "len") (λxs H Q=>∃x n,xs=[x]/\ac7 X.K x H n/\Q (.int n) H):=by
 intro pins s σ H xs us Q I r h;obtain⟨x,n,rfl,e,q⟩:=h;obtain⟨u,rfl,rx⟩:=vals1 r;have hl:=wu;have hs:aH=16777216:=Kc;cases x with
 |str y=>
  obtain⟨t,rfl⟩:=rx;obtain⟨hy,e'⟩:y.length<=aH/\n=y.length:=e;subst e';exact len_str (by lia) ⟨.int _,H,I.tok _,⟨_,rfl⟩,q⟩
 |Om y=>
  obtain⟨t,rfl⟩:=rx;obtain⟨hy,e'⟩:y.size<=aH/\n=y.size:=e;subst e';exact PySem.W.len_bytes (by lia) ⟨.int _,H,I.tok _,⟨_,rfl⟩,q⟩
 |ref p=>
  cases rx;have e':(∃xs,fG X.K H p xs/\n=xs.length)\/∃xs,Ck X.K H p xs/\n=xs.length:=e;rcases e' with⟨xs,hx,e'⟩|⟨xs,hx,e'⟩
  ·subst e'
   obtain⟨its,r',pl,hz⟩:=I.list hx;have hlen:=r'.length;exact TV pl.isList (by simp only [cR];lia) ⟨.int xs.length,H,I.tok _,⟨_,by simp only [cR];rw[hlen]⟩,q⟩
  ·subst e'
   obtain⟨its,r',pl,hz⟩:=I.tuple hx;have hlen:=r'.length;exact len_tuple pl (by simp only [cR];lia) ⟨.int xs.length,H,I.tok _,⟨_,by simp only [cR];rw[hlen]⟩,q⟩
 |_=>exact(show False from e).elim
end
end L2
namespace L2
open PySem PySem.Spec PyProof.Rows
structure IB(h:aC)(x dx C:ae)(mA:Str->Option ah):Prop where
 obj:h.get? x=aa (rD C dx)
 ns:h.Ns1 dx mA
 ne:dx≠x
def Np{h:aC}{dx:ae}{mA:Str->Option ah}(n:h.Ns1 dx mA):∃od,h.get? dx=aa od/\∀name,DX name od=aa (mA name):=by
 obtain⟨o,es,ep,ho,hd,hk,_,hm⟩:=n;refine⟨o,ho,λname=>?_⟩;have e:=hm name;unfold nsFind findBy at e;rw[<-Array.find?_toList]at e;unfold DX;rw[hd];dsimp only;split
 ·rename_i y q
  rw[q]at e;exact congrArg aa e
 ·rename_i q
  rw[q]at e;have a:es.toList.any (·.refKey)=false:=by rw[List.any_eq_false];intro y hy;obtain⟨z,t,hkey⟩:=hk y (Array.mem_toList_iff.mp hy);simp[DY.refKey,hkey]
  have a':¬es.toList.any (·.refKey)=true:=by rw[a];exact gE
  rw[if_neg a'];exact congrArg aa e
def IB.look {h:aC}{x dx C:ae}{mA:Str->Option ah}(I:IB h x dx C mA):∃od,PySem.W.InstAt h x (rD C dx) C (aa od)/\∀name,DX name od=aa (mA name):=
 let⟨od,ho,hl⟩:=Np I.ns
 ⟨od,⟨I.obj,rfl,rfl,ho⟩,hl⟩
section
variable{prog:aR}{w:aE}{A:bh}{E:ah->aj->Prop}{s:aj}{K:ak}{x dx C f:ae}{mA:Str->Option ah}{name:Str}{v:ah}
def get_map{expr:Bool}{Q:ah->aj->Prop}(X:K.In s.heap)(I:IB s.heap x dx C mA)(hg:Ah K C name=true)(hh:DZ K C=true)
  (ha:dW K (.ref C) name=aa none)(hv:mA name=aa v)(hv':TX v=true)(h:Q v {s with toks:=s.toks+1}):
  aA (az prog w) A (getAttr (.ref x) name expr) Q E s:=by
 obtain⟨od,J,hl⟩:=I.look;exact PySem.W.get_value X J (Kd hg).1 (PySem.W.findObj_own hh ha rfl (by rw[hl,hv])) hv' h
def O0{pl:Sem Bool}{Q:ah×List ah->aj->Prop}(X:K.In s.heap)(I:IB s.heap x dx C mA)(hg:Ah K C name=true)
  (hf:dW K (.ref C) name=aa (aa (.ref f)))(ht:D0 K (.ref f)=true)(hv:mA name=none)(h:Q (.ref f,[.ref x]) s):
  aA (az prog w) A (D6 (.ref x) name pl) Q E s:=by
 obtain⟨od,J,hl⟩:=I.look;exact PySem.W.method_fn X J (Kd hg).1 (Kd hg).2 hf (beq_iff_eq.mp ht) (by show(DX name od).map (·.isSome)=aa false;rw[hl,hv];rfl) h
def TY{ns:List Str}{Q:Unit->aj->Prop}(X:K.In s.heap)(I:IB s.heap x dx C mA)
  (hs:dW K (.ref C) "__setattr__"=aa (aa (.builtin "object.__setattr__")))(hp:Ke K C=true)(ht:Kf K C name=aa none)(hh:DZ K C=true)
  (hw:DC mA ns)(hsz:ns.length<=aH)
  (h:∀h',IB h' x dx C (λy=>if y=name then aa v else mA y)->DI dx s.heap h'->Q () {s with heap:=h',toks:=s.toks+2}):
  aA (az prog w) A (setAttr (.ref x) name v) Q E s:=by
 obtain⟨od,J,hl⟩:=I.look;refine PySem.W.set_plain X J hs (PySem.W.osa_open (s:={s with toks:=s.toks+1}) (r:=none) X J hp ht λb=>?_);obtain⟨cd,hc,S7⟩:=PySem.W.any_some hh;have hx:s.heap.get? x=aa ⟨.ref C,aa dx,.plain,#[]⟩:=I.obj;refine aV (ck (aV (aV (wpAny_loadPart hx (aV (Looks.here (s:={s with toks:=s.toks+1}) (PySem.W.looks_clsIn X hc) ?_))))));rw[S7];refine ck (a:=aa dx) (aV (ck (aV ?_)));refine wpAny_nsSet1 (s:={s with toks:=s.toks+1}) I.ns λh' hn2 hs2=>?_;obtain⟨oD,esD,epD,hoD,hdD,hcD⟩:=hn2.count (DC.cons name v hw);refine aV (wpAny_lookBehind hoD (by rw[hdD];exact pastItsLine_dict (iM hcD (by rw[bQ];lia))) ?_);exact ck (h _ ⟨(hs2.2 _ (Ne.symm I.ne)).trans I.obj,hn2,I.ne⟩ hs2)
def O1{R:Result->aj->Prop}{vs:List ah}{kw:List (Str×ah)}(X:K.In s.heap)(hm:Kg K C=true)
  (hi:dW K (.ref C) "__init__"=aa (aa (.ref f)))(hf:typeIn K (.ref f)=aa (.type "function"))
  (h:kQ (az prog w) (A.under (.builtin "type.__call__" ⟨.ref C::vs,kw⟩)) (.call (.ref f) ⟨.ref (s.heap.objs.size+1)::vs,kw⟩) (PySem.W.InitBack (s.heap.objs.size+1) R)
   {s with heap:=(s.heap.push pT).push (rD C s.heap.objs.size)}):
  kQ (az prog w) A (.call (.ref C) ⟨vs,kw⟩) R s:=by
 obtain⟨hh,g,d,t,os⟩:=s;exact PySem.W.make_core (PySem.W.makes_of X hm) (PySem.W.looks_findIn X hi) (λself=>PySem.W.bind_fn X self hf) (.inl rfl) h
end
def oM(f:Str)(v:V):List (Str×V)->List (Str×V)
 |[]=>[(f,v)]
 |(g,x)::r=>if g=f then(g,v)::r else(g,x)::oM f v r
theorem zA(f g:Str)(v:V):∀fs:List (Str×V),(oM f v fs).lookup g=if g=f then aa v else fs.lookup g
 |[]=>by
  show uX g [(f,v)]=_
  by_cases h:g=f
  ·have hb:(g==f)=true:=beq_iff_eq.mpr h
   simp only [uX,hb,if_pos h]
  ·have hb:(g==f)=false:=beq_eq_false_iff_ne.mpr h
   simp only [uX,hb,if_neg h]
 |(k,x)::r=>by
  have ih:=zA f g v r;rw[show oM f v ((k,x)::r)=(if k=f then(k,v)::r else(k,x)::oM f v r)from rfl]
  by_cases hk:k=f
  ·rw[if_pos hk]
   by_cases h:g=k
   ·have hb:(g==k)=true:=beq_iff_eq.mpr h
    simp only [uX,hb,if_pos (h.trans hk)]
   ·have hb:(g==k)=false:=beq_eq_false_iff_ne.mpr h
    simp only [uX,hb,if_neg (λe:g=f=>h (e.trans hk.symm))]
  ·rw[if_neg hk]
   by_cases h:g=k
   ·have hb:(g==k)=true:=beq_iff_eq.mpr h
    simp only [uX,hb,if_neg (λe:g=f=>hk (h.symm.trans e))]
   ·have hb:(g==k)=false:=beq_eq_false_iff_ne.mpr h
    simp only [uX,hb];exact ih
theorem yK(f:Str)(v:V):∀fs:List (Str×V),f∈(oM f v fs).map (·.1)/\∀g,g∈fs.map (·.1)->g∈(oM f v fs).map (·.1)
 |[]=>⟨by simp[oM],λg h=>by simp at h⟩
 |(k,x)::r=>by
  obtain⟨i1,i2⟩:=yK f v r;rw[show oM f v ((k,x)::r)=(if k=f then(k,v)::r else(k,x)::oM f v r)from rfl]
  by_cases hk:k=f
  ·rw[if_pos hk]
   subst hk;exact⟨by simp,λg h=>by simpa using h⟩
  ·rw[if_neg hk]
   refine⟨?_,λg h=>?_⟩
   ·rw[bu]
    exact bg _ i1
   ·rw[bu]at h⊢
    rcases aO.mp h with e|e
    ·exact aO.mpr (.inl e)
    ·exact bg _ (i2 g e)
theorem zB(f:Str)(v:V):∀fs:List (Str×V),(oM f v fs).length<=fs.length+1
 |[]=>by simp[oM]
 |(k,x)::r=>by
  have ih:=zB f v r;rw[show oM f v ((k,x)::r)=(if k=f then(k,v)::r else(k,x)::oM f v r)from rfl]
  by_cases hk:k=f
  ·rw[if_pos hk,bQ,bQ];lia
  ·rw[if_neg hk,bQ,bQ];lia
def tP.some_of {v:V}{o:Option ah}(r:tP (aa v) o):∃u,o=aa u/\RelV v u:=by
 cases o with
 |none=>exact(show False from r).elim
 |some u=>exact⟨u,rfl,r⟩
def tP.none_of {o:Option ah}(r:tP none o):o=none:=by
 cases o with
 |none=>rfl
 |some u=>exact(show False from r).elim
def Nq{v:V}{u:ah}(r:RelV v u):TX u=true:=by
 cases v with
 |non=>cases (show u=ah.none from r);rfl
 |bl b=>cases (show u=DB b from r);rfl
 |int i=>obtain⟨t,e⟩:=(show∃t,u=ah.int i t from r);cases e;rfl
 |str x=>obtain⟨t,e⟩:=(show∃t,u=Ab x t from r);cases e;rfl
 |Om b=>obtain⟨t,e⟩:=(show∃t,u=S4 b t from r);cases e;rfl
 |Zi b=>obtain⟨t,e⟩:=(show∃t,u=JN b t from r);cases e;rfl
 |ref a=>cases (show u=cP a from r);rfl
 |ty n=>cases (show u=rC n from r);rfl
section
variable{P:aR}{w:aE}{H H':Hp}{h h':aC}{a C dx:ae}{fs fs':List (Str×V)}
def Ai(hok:vO P w H h)(e:H a=aa (.ins C dx fs)):∃mA,IB h a dx C mA/\(∀f,tP (fs.lookup f) (mA f))/\DC mA (fs.map (·.1))/\fs.length<=1000/\H dx=aa (.own a):=by
 obtain⟨d,z,ne,ob,mA,n,r,q⟩:=(show gB P w H h a (.ins C dx fs)from hok a _ e)
 exact⟨mA,⟨ob,n,ne⟩,r,q,z,d⟩
end
structure O2(K:ak)(C:ae):Prop where
 pg:Ah K C Kh=true
 hd:DZ K C=true
 po:Ke K C=true
 sa:dW K (.ref C) "__setattr__"=aa (aa (.builtin "object.__setattr__"))
def O2.get {K:ak}{C:ae}(c:O2 K C)(f:Str):Ah K C f=true:=c.pg
def jE(K:ak)(C:ae)(f:Str):Prop:=dW K (.ref C) f=aa none
def jE.ac8 {K:ak}{C:ae}{f:Str}(n:jE K C f):Kf K C f=aa none:=by unfold Kf;rw[show dW K (.ref C) f=aa none from n];rfl
structure Meth(K:ak)(C:ae)(m:Str)(f:ae):Prop where
 at_:dW K (.ref C) m=aa (aa (.ref f))
 fn:D0 K (.ref f)=true
 kp:jP K (.ref f)=true
section
variable{X:Cx}{pins:List (ae×Obj)}{σ:St}{H:Hp}{s:aj}{a C dx:ae}{fs:List (Str×V)}{f:Str}{v:V}{A:bh}{E:ah->aj->Prop}
def IC{b:Bool}{Q:ah->aj->Prop}(I:Inv X pins σ H s)(e:H a=aa (.ins C dx fs))(c:O2 X.K C)(n:jE X.K C f)(l:fs.lookup f=aa v)
  (h:∀u s',Inv X pins σ H s'->RelV v u->Q u s'):aA (az X.prog X.w) A (getAttr (.ref a) f b) Q E s:=by
 obtain⟨mA,O,r,_,_,_⟩:=Ai I.hok e;obtain⟨u,hu,ru⟩:=tP.some_of (v:=v) (o:=mA f) (by rw[<-l];exact r f);exact get_map I.yH O (c.get f) c.hd n hu (Nq ru) (h u _ (I.tok _) ru)
def A7{m:Str}{g:ae}{pl:Sem Bool}{Q:ah×List ah->aj->Prop}(I:Inv X pins σ H s)(e:H a=aa (.ins C dx fs))(c:O2 X.K C)(k:Meth X.K C m g)(l:fs.lookup m=none)
  (h:Q (.ref g,[.ref a]) s):aA (az X.prog X.w) A (D6 (.ref a) m pl) Q E s:=by
 obtain⟨mA,O,r,_,_,_⟩:=Ai I.hok e;have hn:mA m=none:=tP.none_of (by rw[<-l];exact r m);exact O0 I.yH O (c.get m) k.at_ k.fn hn h
def ID{y:V}{u:ah}{Q:Unit->aj->Prop}(I:Inv X pins σ H s)(e:H a=aa (.ins C dx fs))(c:O2 X.K C)(n:jE X.K C f)(hl:fs.length<1000)(ry:RelV y u)
  (h:∀s',Inv X pins σ (upd H a (.ins C dx (oM f y fs))) s'->Q () s'):aA (az X.prog X.w) A (setAttr (.ref a) f u) Q E s:=by
 obtain⟨mA,O,r,wi,_,ho⟩:=Ai I.hok e;have hz:(fs.map (·.1)).length<=aH:=by rw[aG,Kc];lia
 refine TY I.yH O c.sa c.po n.ac8 c.hd wi hz λh' O' sb=>h _ ?_;have hd:∃o,h'.get? dx=aa o:=let⟨o,_,_,e',_⟩:=O'.ns;⟨o,e'⟩
 refine I.write (x:=a) (e:=dx) (by rw[e];exact mJ) (.inr ho) (λb q hb z=>(sb.2 b hb).trans z) hd ?_;refine⟨by rw[aB O.ne];exact ho,?_,O.ne,O'.obj,_,O'.ns,λg=>?_,λg hg=>?_⟩
 ·have:=zB f y fs;lia
 ·show tP ((oM f y fs).lookup g) (if g=f then aa u else mA g)
  rw[zA]
  by_cases q:g=f
  ·rw[if_pos q,if_pos q];exact ry
  ·rw[if_neg q,if_neg q];exact r g
 ·by_cases q:g=f
  ·rw[q];exact(yK f y fs).1
  ·refine(yK f y fs).2 g (wi g λz=>hg ?_)
   show(if g=f then aa u else mA g)=none;rw[if_neg q];exact z
def Inv.made (I:Inv X pins σ H s):Inv X pins σ (upd (upd H s.heap.objs.size (.own (s.heap.objs.size+1))) (s.heap.objs.size+1) (.ins C s.heap.objs.size []))
  {s with heap:=(s.heap.push pT).push (rD C s.heap.objs.size)}:=by
 have e1:(s.heap.push pT).get? s.heap.objs.size=aa pT:=iP s.heap rfl;have e2:((s.heap.push pT).push (rD C s.heap.objs.size)).get? (s.heap.objs.size+1)=aa (rD C s.heap.objs.size):=by
  have:=iP (s.heap.push pT) (o:=rD C s.heap.objs.size) rfl
  rwa [Aj]at this
 have e3:(s.heap.push pT).Ns s.heap.objs.size (λ_=>none):=⟨pT,#[],_,e1,rfl,(λe he=>absurd he (by simp)),λ_=>rfl⟩
 have I1:=I.laid (a:=s.heap.objs.size) (o:=.own (s.heap.objs.size+1)) (h':=s.heap.push pT) (t':=s.toks) (λb u q=>cQ _ q) (aY _) ⟨_,e1⟩;refine I1.laid (a:=s.heap.objs.size+1) (o:=.ins C s.heap.objs.size []) (t':=s.toks) (λb u q=>cQ _ q) (wZ (Aj _ _)) ?_;have ne:s.heap.objs.size≠s.heap.objs.size+1:=du (D7 _);refine⟨by rw[aB ne,aP],iR _,ne,e2,λ_=>none,(aC.Ns1.of_empty e3).at λo q=>cQ _ q,λ_=>mJ,λy hy=>absurd rfl hy⟩
def TZ{prog:aR}{w:aE}{env:Env}{e:ao}{f:Str}{pos:Pos}{s:aj}{Q:ah->aj->Prop}(hb:hU e f env (aw e env)=aw e env)
  (h:aA (az prog w) A (aw e env) (λo s₁=>aA (az prog w) A (getAttr o f true) Q E s₁) E s):aA (az prog w) A (aw (.Attribute e f pos) env) Q E s:=
 Attribute_any_ h (by rw[arm_eval_Attribute,hb])
end
def ac9(K:ak)(ta:TE)(f:Str):TE:=λσ H Q=>ta σ H λx H1=>∃a C dx fs v,x=.ref a/\H1 a=aa (.ins C dx fs)/\O2 K C/\jE K C f/\fs.lookup f=aa v/\Q v H1
def agM(K:ak)(ta tv:TE)(f:Str):TS:=λD σ H=>tv σ H λy H1=>ta σ H1 λx H2=>∃a C dx fs,x=.ref a/\H2 a=aa (.ins C dx fs)/\O2 K C/\jE K C f/\fs.length<1000/\
 D.nx σ (upd H2 a (.ins C dx (oM f y fs)))
section
variable{X:Cx}{o e value:ao}{f:Str}{pos pos' agN:Pos}{ta tv:TE}
def dw(he:PE X e ta)(hb:hU e f X.env (aw e X.env)=aw e X.env):PE X (.Attribute e f pos) (ac9 X.K ta f):=by intro pins s σ H Q I h;refine TZ hb (fz (he pins s σ H _ I h) λu s1 ⟨x,H1,I1,rx,a,C,dx,fs,v,ex,ea,c,n,l,q⟩=>?_);subst ex;obtain rfl:u=cP a:=rx;exact IC I1 ea c n l λu' s2 I2 ru=>⟨v,H1,I2,ru,q⟩
def qA(ha:PE X o ta)(hv:PE X value tv)(hs:fK value (aa (.Attribute o f pos')) pos.line X.env=aW false):PS X (.Assign [.Attribute o f pos'] value pos) (agM X.K ta tv f):=by intro pins s σ H D I h;refine plainObj_wpAny_Assign_Attribute (fz (hv pins s σ H _ I h) λu s1 ⟨y,H1,I1,ry,q⟩=>fz (ha pins s1 σ H1 _ I1 q) λov s2 ⟨x,H2,I2,rx,a,C,dx,fs,ex,ea,c,n,l,q2⟩=>?_) hs;subst ex;obtain rfl:ov=cP a:=rx;exact ID I2 ea c n l ry λs3 I3=>⟨σ,_,I3,q2⟩
end
section
variable{X:Cx}{pins:List (ae×Obj)}{σ:St}{H:Hp}{s:aj}{A:bh}{E:ah->aj->Prop}{Q:ah->aj->Prop}{c:ah}{b:Bool}
inductive zM (K:ak) (H:Hp):V->ah->Prop where
 |non:zM K H .non (.type "NoneType")
 |bl (x:Bool):zM K H (.bl x) (.type "bool")
 |int (i:Int):zM K H (.int i) (.type "int")
 |str (x:Str):zM K H (.str x) (.type "str")
 |Zi (x:UInt64):zM K H (.Zi x) (.type "float")
 |lst {a:ae} {xs:List V} (e:H a=aa (.lst xs)):zM K H (.ref a) (.type "list")
 |A0 {a:ae} {o:Obj} {xs:List V} (e:H a=aa (.A0 o (.lst xs))):zM K H (.ref a) (.type "list")
 |tup {a:ae} {xs:List V} (e:H a=aa (.tup xs)):zM K H (.ref a) (.type "tuple")
 |dK {a:ae} {kvs:List (Key×V)} (e:H a=aa (.dK kvs)):zM K H (.ref a) (.type "dict")
 |dT {a:ae} {kvs:List (List Key×V)} (e:H a=aa (.dT kvs)):zM K H (.ref a) (.type "dict")
 |ins {a C dx:ae} {fs:List (Str×V)} (e:H a=aa (.ins C dx fs)) (cl:O2 K C) (ha:dW K (.ref C) "__class__"=aa (aa (.builtin "object.__class__")))
   (hn:PySem.W.specialIn K (.builtin "object.__class__") "__get__"=aa (aa (.builtin "getset_descriptor.__get__"))) (htk:PySem.W.takesIn K (.builtin "object.__class__")=aa true)
   (hm:mroIn K C (.type "object")=aa true):zM K H (.ref a) (.ref C)
def uY{x:V}{u t:ah}(I:Inv X pins σ H s)(rx:RelV x u)(ty:zM X.K H x t)(e:Kj X.K t c=aa b)(h:∀tk,Q (.bool b) {s with toks:=tk}):
  aA (az X.prog X.w) A (call (.builtin "isinstance") [u,c]) Q E s:=by
 cases ty with
 |non=>cases (show u=ah.none from rx);exact jQ PySem.W.kitx_none I.yH mJ e (λz=>nomatch z) h
 |bl y=>cases (show u=DB y from rx);exact jQ PySem.W.kitx_bool I.yH mJ e (λz=>nomatch z) h
 |int i=>obtain⟨t,q⟩:=(show∃t,u=ah.int i t from rx);cases q;exact jQ PySem.W.kitx_int I.yH mJ e (λz=>nomatch z) h
 |str y=>obtain⟨t,q⟩:=(show∃t,u=Ab y t from rx);cases q;exact jQ PySem.W.kitx_str I.yH mJ e (λz=>nomatch z) h
 |Zi y=>obtain⟨t,q⟩:=(show∃t,u=JN y t from rx);cases q;exact jQ PySem.W.kitx_float I.yH mJ e (λz=>nomatch z) h
 | @lst a xs ea=>
  cases (show u=cP a from rx);obtain⟨_,_,n,_,h1⟩:=(show gB X.prog X.w H s.heap a (.lst xs)from I.hok a _ ea)
  exact jQ Kl I.yH ⟨_,h1,rfl⟩ e (λz=>nomatch z) h
 | @A0 a ob xs ea=>
  cases (show u=cP a from rx);obtain⟨_,_,_,n,_,h1⟩:=(show gB X.prog X.w H s.heap a (.A0 ob (.lst xs))from I.hok a _ ea)
  exact jQ Kl I.yH ⟨_,h1,rfl⟩ e (λz=>nomatch z) h
 | @tup a xs ea=>
  cases (show u=cP a from rx);obtain⟨_,_,_,p⟩:=(show gB X.prog X.w H s.heap a (.tup xs)from I.hok a _ ea)
  obtain⟨o,h1,h2,_⟩:=p;exact jQ T3 I.yH ⟨o,h1,h2⟩ e (λz=>nomatch z) h
 | @dK a kvs ea=>
  cases (show u=cP a from rx);obtain⟨_,_,vs,_,p⟩:=(show gB X.prog X.w H s.heap a (.dK kvs)from I.hok a _ ea)
  obtain⟨o,es,ep,h1,h2,_⟩:=p;exact jQ T4 I.yH ⟨o,h1,h2.1⟩ e (λz=>nomatch z) h
 | @dT a kvs ea=>
  cases (show u=cP a from rx);obtain⟨_,_,xs,_,o,es,ep,h1,h2,_⟩:=(show gB X.prog X.w H s.heap a (.dT kvs)from I.hok a _ ea)
  exact jQ T4 I.yH ⟨o,h1,h2.1⟩ e (λz=>nomatch z) h
 | @ins a C dx fs ea cl ha hn htk hm=>
  cases (show u=cP a from rx);obtain⟨mA,O,_⟩:=Ai I.hok ea;obtain⟨od,J,_⟩:=O.look;exact jQ (PySem.W.kitx_own (cl.get _) cl.hd ha hn htk hm) I.yH J e (λz=>nomatch z) h
end
end L2
namespace L2
open PySem PySem.Spec PyProof.Rows
structure cG(k:Nat)(A:bh):Prop where
 hd:A.handled=none
 dp:A.depth+3*k+5<recursionLimit
 un:A.units+16*k+200<gF
def cG.mono {j k:Nat}{A:bh}(r:cG k A)(h:j<=k:=by decide):cG j A:=⟨r.hd,by have:=r.dp;lia,by have:=r.un;lia⟩
theorem cG.deeper {k:Nat}{A:bh}(r:cG (k+1) A)(env:Env):cG k (A.deeper env):=
 ⟨r.hd,by have:=r.dp;show A.depth+1+3*k+5<_;lia,by have:=r.un;show A.units+3+16*k+200<_;lia⟩
def IE{A:bh}{C:ae}{us:List ah}{kw:List (Str×ah)}:(A.under (.builtin "type.__call__" ⟨.ref C::us,kw⟩)).depth=A.depth+1:=by first|rfl|simp[Km,rK.weight,rK.isCreation,rK.isGuard,rK.isCaller,T5,Kn,guardIds]
def IF{A:bh}{C:ae}{us:List ah}{kw:List (Str×ah)}:(A.under (.builtin "type.__call__" ⟨.ref C::us,kw⟩)).units=A.units+1:=by first|rfl|simp[Km,rK.cUnits,T5,Kn]
def cG.make {k:Nat}{A:bh}(r:cG (k+1) A)(C:ae)(us:List ah)(kw:List (Str×ah)):cG k (A.under (.builtin "type.__call__" ⟨.ref C::us,kw⟩)):=
 ⟨r.hd,by have:=r.dp;rw[IE];lia,by have:=r.un;rw[IF];lia⟩
theorem cG.depth {k:Nat}{A:bh}(r:cG k A):A.depth<recursionLimit:=by have:=r.dp;lia
theorem cG.units {k:Nat}{A:bh}(r:cG k A):A.units+64<gF:=by have:=r.un;lia
def O3:TA:=λ_ H Q=>Q [] H
def Ko(ta:TE)(tr:TA):TA:=λσ H Q=>ta σ H λx H1=>tr σ H1 λxs H2=>Q (x::xs) H2
section
variable{X:Cx}{e:ao}{es:List ao}{te:TE}{t:TA}{pos:Pos}
def bA:PA X [] O3:=λ_ _ _ _ H Q I h=>w6 ⟨[],H,I,.nil,h⟩
def aS(ha:PE X e te)(hr:PA X es t)(hs:ar (e::es) X.env=(false,aw e X.env)::ar es X.env:=by rfl):PA X (e::es) (Ko te t):=by intro pos pins s σ H Q I h;rw[hs];show aA _ _ (spliced ((false,aw e X.env)::bp pos (ar es X.env))) _ _ s;refine w9 (fz (ha pins s σ H _ I h) λu s1 ⟨x,H1,I1,r1,q1⟩=>?_);exact fz (hr pos pins s1 σ H1 _ I1 q1) λus s2 ⟨xs,H2,I2,r2,q2⟩=>⟨x::xs,H2,I2,.cons r1 r2,q2⟩
def agO(t:TA):TE:=λσ H Q=>t σ H λxs H1=>xs.length<=aH/\∀p,H1 p=none->Q (.ref p) (upd H1 p (.tup xs))
def agP(t:TA):TE:=λσ H Q=>t σ H λxs H1=>xs.length<=aH/\∀p,H1 p=none->Q (.ref p) (upd H1 p (.lst xs))
def wx{x1}(h:PA X es t):PE X (.Tuple es x1 pos) (agO t):=by intro pins s σ H Q I hq;refine wpAny_Tuple_spliced (fz (h pos pins s σ H _ I hq) λus s1 ⟨xs,H1,I1,r,z,q⟩=>⟨by rw[<-r.length];exact z,?_⟩);have hf:H1 s1.heap.objs.size=none:=I1.hok.fresh (aY _);refine⟨.ref s1.heap.objs.size,upd H1 s1.heap.objs.size (.tup xs),I1.laid (t':=s1.toks) (λb u e=>cQ _ e) (aY _) ?_,rfl,q _ hf⟩;exact⟨z,us,r,⟨_,iP _ rfl,rfl,_,rfl⟩⟩
def wy(h:PA X es t):PE X (.List es pos) (agP t):=by intro pins s σ H Q I hq;refine wpAny_List_spliced (fz (h pos pins s σ H _ I hq) λus s1 ⟨xs,H1,I1,r,z,q⟩=>⟨by rw[<-r.length];exact z,?_⟩);have hf:H1 s1.heap.objs.size=none:=I1.hok.fresh (aY _);refine⟨.ref s1.heap.objs.size,upd H1 s1.heap.objs.size (.lst xs),I1.laid (t':=s1.toks) (λb u e=>cQ _ e) (aY _) ?_,rfl,q _ hf⟩;exact⟨z,us,0,r,iP _ rfl⟩
end
abbrev Sp:=List V->Hp->VK->XK->Prop
abbrev Oo:=List Env->Hp->aj->XK->ah->aj->Prop
structure IG(P:aR)(w:aE)(K:ak)(mg:Str->Option ah)(base:aC)(A:bh)(outer:List Env)(s:aj)(H:Hp):Prop where
 frames:A.frames=aa outer
 mod:Mod K mg base
 bs:∀b o,base.get? b=aa o->s.heap.get? b=aa o/\H b=none
 Su:base.objs.size<=s.heap.objs.size
 yG:s.heap.FunFrames base outer
 Xl:∀b∈Ij outer,H b=none
 hok:vO P w H s.heap
 bare:nU s.gens
def CE(outer:List Env)(P:aR)(w:aE)(H:Hp)(s:aj)(Q:VK)(u:ah)(s':aj):Prop:=
 ∃v H',s'.os=s.os/\nU s'.gens/\Un (Ij outer) [] H H' s.heap s'.heap/\vO P w H' s'.heap/\RelV v u/\Q v H'
def CR(CX:Oo)(outer:List Env)(P:aR)(w:aE)(H:Hp)(s:aj)(Q:VK)(E:XK)(r:Result)(s':aj):Prop:=
 match r with
 |.ok (.ret u)=>CE outer P w H s Q u s'
 |.ok _=>False
 |.error e=>CX outer H s E e s'
structure fA(P:aR)(w:aE)(K:ak)(mg:Str->Option ah)(base:aC)(CX:Oo)(k:Nat)(f:ae)(fd:aL)(ps:List Str)(sp:Sp):Prop where
 len:∀vs H Q E,sp vs H Q E->vs.length=ps.length
 run:∀(A:bh)(outer:List Env)(s:aj)(H:Hp)(args:Args)(us:List ah)(vs:List V)(Q:VK)(E:XK),cG k A->IG P w K mg base A outer s H->uZ s fd args (ps.zip us)->Vals vs us->sp vs H Q E->
  kQ (az P w) A (.call (.ref f) args) (CR CX outer P w H s Q E) s
def IG.make {P:aR}{w:aE}{K:ak}{mg:Str->Option ah}{base:aC}{A:bh}{outer:List Env}{s:aj}{H:Hp}(e:IG P w K mg base A outer s H)(C:ae)(us:List ah)(kw:List (Str×ah)):
  IG P w K mg base (A.under (.builtin "type.__call__" ⟨.ref C::us,kw⟩)) outer s H:=⟨by first|exact e.frames|(simpa[Km,rK.envs,Kn,pushEnvs]using e.frames),e.mod,e.bs,e.Su,e.yG,e.Xl,e.hok,e.bare⟩
section
variable{X:Cx}{pins:List (ae×Obj)}{σ:St}{H:Hp}{s s':aj}
def Inv.ada (I:Inv X pins σ H s):IG X.prog X.w X.K X.mg X.base X.A X.stack s H:=
 ⟨I.ok.frames,I.ok.mod,I.bs,iM I.ok.Su I.sz,I.stack,I.JR,I.hok,I.bare⟩
def Inv.after {Q:VK}{u:ah}(I:Inv X pins σ H s)(h:CE X.stack X.prog X.w H s Q u s'):EP X pins σ Q u s':=by obtain⟨v,H',os,bare,un,hok,r,q⟩:=h;obtain⟨hh,g,d,t,os'⟩:=s';obtain rfl:os'=s.os:=os;exact⟨v,H',I.call (h':=hh) (g':=g) (d':=d) (t':=t) (ch:=[]) un hok bare (λb z=>absurd z (by simp)),r,q⟩
end
def adb(sp:Sp)(Co:List V)(E:XK)(t:TA):TE:=λσ H Q=>t σ H λvs H1=>sp (vs++Co) H1 Q E
def Xo(C:ae)(m:Str)(sp:Sp)(Co:List V)(E:XK)(ta:TE)(t:TA):TE:=λσ H Q=>ta σ H λx H1=>∃a dx fs,x=.ref a/\H1 a=aa (.ins C dx fs)/\fs.lookup m=none/\
 t σ H1 λvs H2=>sp (x::(vs++Co)) H2 Q E
def ade(C:ae)(sp:Sp)(Co:List V)(E:XK)(t:TA):TE:=λσ H Q=>t σ H λvs H1=>∀x dx,H1 x=none->H1 dx=none->dx≠x->
 sp (.ref x::(vs++Co)) (upd (upd H1 dx (.own x)) x (.ins C dx [])) (λv H2=>v=.non/\Q (.ref x) H2) E
def Binds(K:ak)(fd:aL)(ps:List Str)(ds:List ah):Prop:=
 ∀(s:aj)(us:List ah),K.In s.heap->(us++ds).length=ps.length->uZ s fd ⟨us,[]⟩ (ps.zip (us++ds))
def Binds.all {K:ak}{fd:aL}{ps:List Str}(h:∀us:List ah,us.length=ps.length->nW fd ⟨us,[]⟩=aW (ps.zip us)):Binds K fd ps []:=λs us _ hl=>by rw[bq]at hl⊢;exact .of_eq (h us hl)
def Passes(CX:Oo)(X:Cx)(E:XK):Prop:=∀(pins:List (ae×Obj))(σ:St)(H:Hp)(s:aj)(e:ah)(s':aj),Inv X pins σ H s->CX X.stack H s E e s'->X.xe e s'
section
variable{X:Cx}{CX:Oo}{k:Nat}{f C:ae}{fd:aL}{ps:List Str}{sp:Sp}{Co:List V}{ds:List ah}{E:XK}{x m:Str}{p pos apos:Pos}{e o:ao}{es:List ao}{ta:TE}{t:TA}
def II{pins:List (ae×Obj)}{σ:St}{H:Hp}{s:aj}{Q:VK}{us:List ah}{vs:List V}(F:fA X.prog X.w X.K X.mg X.base CX k f fd ps sp)(hr:cG k X.A)(hb:Binds X.K fd ps ds)(hd:Vals Co ds)(hx:Passes CX X E)
  (I:Inv X pins σ H s)(r:Vals vs us)(h:sp (vs++Co) H Q E):aA (az X.prog X.w) X.A (call (.ref f) us) (EP X pins σ Q) X.xe s:=by
 have r2:Vals (vs++Co) (us++ds):=r.append hd;have hl:(us++ds).length=ps.length:=by rw[<-r2.length];exact F.len _ _ _ _ h
 refine wpAny_call (D8 (F.run X.A X.stack s H ⟨us,[]⟩ (us++ds) (vs++Co) Q E hr I.ada (hb s us I.yH hl) r2 h) λr s' hq=>?_);cases r with
 |error e=>exact hx pins σ H s e s' I hq
 |ok fl=>
  cases fl with
  |ret u=>exact I.after hq
  |next=>exact jo hq
  |brk=>exact jo hq
  |cont=>exact jo hq
def ie(F:fA X.prog X.w X.K X.mg X.base CX k f fd ps sp)(hr:cG k X.A)(hg:Gl X x)(hm:X.mg x=aa (.ref f))(hk:jP X.K (.ref f)=true)(hb:Binds X.K fd ps ds)(hd:Vals Co ds)(hx:Passes CX X E)
  (ha:PA X (e::es) t)(hdb:(x==("__debug__":Str))=false:=by decide)(he:ar (e::es) X.env=(false,aw e X.env)::ar es X.env:=by rfl)(hpl:(bp pos (ar es X.env)).any (·.1)=false:=by rfl):
  PE X (.Call (.Name x p) (e::es) [] pos) (adb sp Co E t):=by
 intro pins s σ H Q I h;refine u9 (DK I hg hm ?_ hdb);refine Kq (h₀:=X.base) I.ok.mod.kin hk (fz (ha pos pins s σ H _ I h) λus s1 ⟨vs,H1,I1,r,q⟩=>⟨I1.yH,?_⟩) he hpl;exact II F hr hb hd hx I1 r q
def mK{pl:Sem Bool}(he:PE X o ta)(c:O2 X.K C)(hm:Meth X.K C m f)(F:fA X.prog X.w X.K X.mg X.base CX k f fd ps sp)(hr:cG k X.A)(hb:Binds X.K fd ps ds)(hd:Vals Co ds)(hx:Passes CX X E)(ha:PA X (e::es) t)
  (hst:ar (e::es) X.env=(false,aw e X.env)::ar es X.env:=by rfl)(hpl:(bp pos (ar es X.env)).any (·.1)=false:=by rfl)
  (ht:aw (.Call (.Attribute o m apos) (e::es) [] pos) X.env=(do
   let ov<-aw o X.env
   uS apos.atName
   let(f,first)<-jO [ov] (D6 ov m pl)
   callWith pos f first (bp pos (ar (e::es) X.env)) (kR pos (kT [] X.env))):=by rfl):
  PE X (.Call (.Attribute o m apos) (e::es) [] pos) (Xo C m sp Co E ta t):=by
 intro pins s σ H Q I h;refine T6 (pl:=pl) (fz (he pins s σ H _ I h) λu s1 ⟨x,H1,I1,rx,a,dx,fs,ex,ea,l,q⟩=>?_) ht;subst ex;obtain rfl:u=cP a:=rx;refine A7 I1 ea c hm l ?_;refine Kq (first:=[.ref a]) (h₀:=X.base) I.ok.mod.kin hm.kp (fz (ha pos pins s1 σ H1 _ I1 q) λus s2 ⟨vs,H2,I2,r,q2⟩=>⟨I2.yH,?_⟩) hst hpl;exact II (us:=.ref a::us) (vs:=.ref a::vs) F hr hb hd hx I2 (.cons rfl r) q2
def O4{pl:Sem Bool}(he:PE X o ta)(c:O2 X.K C)(hm:Meth X.K C m f)(F:fA X.prog X.w X.K X.mg X.base CX k f fd ps sp)(hr:cG k X.A)(hb:Binds X.K fd ps ds)(hd:Vals Co ds)(hx:Passes CX X E)
  (ht:aw (.Call (.Attribute o m apos) [] [] pos) X.env=(do
   let ov<-aw o X.env
   uS apos.atName
   let(f,first)<-jO [ov] (D6 ov m pl)
   callWith pos f first (bp pos (ar [] X.env)) (kR pos (kT [] X.env))):=by rfl):
  PE X (.Call (.Attribute o m apos) [] [] pos) (Xo C m sp Co E ta O3):=by
 intro pins s σ H Q I h;refine T6 (pl:=pl) (fz (he pins s σ H _ I h) λu s1 ⟨x,H1,I1,rx,a,dx,fs,ex,ea,l,q⟩=>?_) ht;subst ex;obtain rfl:u=cP a:=rx;refine A7 I1 ea c hm l ?_;exact PySem.W.callWith_K0 (first:=[.ref a]) I1.yH hm.kp (II (us:=[.ref a]) (vs:=[.ref a]) F hr hb hd hx I1 (.cons rfl .nil) q)
structure Mk(K:ak)(C f:ae):Prop where
 makes:Kg K C=true
 init:dW K (.ref C) "__init__"=aa (aa (.ref f))
 fn:D0 K (.ref f)=true
 kp:jP K (.ref C)=true
def O5{pins:List (ae×Obj)}{σ:St}{H:Hp}{s:aj}{Q:VK}{us:List ah}{vs:List V}(M:Mk X.K C f)(F:fA X.prog X.w X.K X.mg X.base CX k f fd ps sp)(hr:cG (k+1) X.A)(hb:Binds X.K fd ps ds)(hd:Vals Co ds)
  (hx:Passes CX X E)(I:Inv X pins σ H s)(r:Vals vs us)
  (h:∀x dx,H x=none->H dx=none->dx≠x->sp (.ref x::(vs++Co)) (upd (upd H dx (.own x)) x (.ins C dx [])) (λv H2=>v=.non/\Q (.ref x) H2) E):
  aA (az X.prog X.w) X.A (call (.ref C) us) (EP X pins σ Q) X.xe s:=by
 have hq:=h (s.heap.objs.size+1) s.heap.objs.size (I.hok.fresh (Kr _)) (I.hok.fresh (aY _)) (du (D7 _));have I2:=Inv.made (C:=C) I;have r2:Vals (V.ref (s.heap.objs.size+1)::(vs++Co)) (cP (s.heap.objs.size+1)::(us++ds)):=.cons rfl (r.append hd);have hl:(cP (s.heap.objs.size+1)::us++ds).length=ps.length:=by have e:=r2.length;rw[F.len _ _ _ _ hq]at e;exact e.symm
 refine wpAny_call (O1 (f:=f) I.yH M.makes M.init (beq_iff_eq.mp M.fn) (D8 (F.run _ X.stack _ _ ⟨cP (s.heap.objs.size+1)::us,[]⟩ (cP (s.heap.objs.size+1)::(us++ds)) _ _ E (hr.make C us [])
  (I2.ada.make C us []) (hb _ (cP (s.heap.objs.size+1)::us) I2.yH hl) r2 hq) λr s' Oq=>?_))
 cases r with
 |error e=>exact hx pins σ _ _ e s' I2 Oq
 |ok fl=>
  cases fl with
  |ret u=>
   obtain⟨v,H',I3,rv,ev,q3⟩:=I2.after Oq;subst ev;exact⟨rv,⟨V.ref (s.heap.objs.size+1),H',I3,rfl,q3⟩⟩
  |next=>exact jo Oq
  |brk=>exact jo Oq
  |cont=>exact jo Oq
def T7(M:Mk X.K C f)(F:fA X.prog X.w X.K X.mg X.base CX k f fd ps sp)(hr:cG (k+1) X.A)(hg:Gl X x)(hm:X.mg x=aa (.ref C))(hb:Binds X.K fd ps ds)(hd:Vals Co ds)(hx:Passes CX X E)
  (ha:PA X (e::es) t)(hdb:(x==("__debug__":Str))=false:=by decide)(he:ar (e::es) X.env=(false,aw e X.env)::ar es X.env:=by rfl)(hpl:(bp pos (ar es X.env)).any (·.1)=false:=by rfl):
  PE X (.Call (.Name x p) (e::es) [] pos) (ade C sp Co E t):=by
 intro pins s σ H Q I h;refine u9 (DK I hg hm ?_ hdb);refine Kq (h₀:=X.base) I.ok.mod.kin M.kp (fz (ha pos pins s σ H _ I h) λus s1 ⟨vs,H1,I1,r,q⟩=>⟨I1.yH,?_⟩) he hpl;exact O5 M F hr hb hd hx I1 r q
end
structure bc(N P:List Str)(sc:cU):Prop where
 kind:sc.kind=.function
 co:sc.isCoroutine=false
 gen:sc.isGenerator=false
 nd:N.Nodup
 pre:N.take P.length=P
 par:∀x∈P,sc.names.lookup x=aa .local\/sc.names.lookup x=aa .cell
 ZL:∀y∈sc.names,y.2≠.free
theorem CL{jq:Str->Option gG}{x:Str}:∀{binds:List (Str×ah)}{m:Str->Option ah},(∀v,(x,v)∉binds)->rL jq binds m x=m x
 |[],_,_=>rfl
 |(n,v)::r,m,h=>by
  unfold rL;rw[CL λw hw=>h w (bg _ hw)];split
  ·have:x≠n:=by rintro rfl;exact h v g8
   simp[this]
  ·rfl
theorem CM{jq:Str->Option gG}{x:Str}:∀{binds:List (Str×ah)}{m:Str->Option ah},(∀v,(x,v)∉binds)->rM jq binds m x=m x
 |[],_,_=>rfl
 |(n,v)::r,m,h=>by
  unfold rM;rw[CM λw hw=>h w (bg _ hw)];split
  ·rfl
  ·have:x≠n:=by rintro rfl;exact h v g8
   simp[this]
theorem CN{jq:Str->Option gG}{x:Str}{v:ah}:∀{P:List Str}{vs:List ah}{i:Nat}{m:Str->Option ah},P.Nodup->P[i]?=aa x->vs[i]?=aa v->jq x=aa .local->
  rL jq (P.zip vs) m x=aa v
 |[],_,_,_,_,h,_,_=>by simp at h
 |_::_,[],_,_,_,_,h,_=>by simp at h
 |p::P,w::vs,0,m,nd,h1,h2,hk=>by simp at h1 h2;subst h1;subst h2;show rL jq ((p,w)::P.zip vs) m p=_;unfold rL;rw[CL λv hv=>(eR.mp nd).1 (Ks hv).1,if_pos hk];simp
 |p::P,w::vs,i+1,m,nd,h1,h2,hk=>by show rL jq ((p,w)::P.zip vs) m x=_;unfold rL;exact CN (i:=i) (eR.mp nd).2 (by simpa using h1) (by simpa using h2) hk
theorem CO{jq:Str->Option gG}{x:Str}{v:ah}:∀{P:List Str}{vs:List ah}{i:Nat}{m:Str->Option ah},P.Nodup->P[i]?=aa x->vs[i]?=aa v->jq x≠aa .local->
  rM jq (P.zip vs) m x=aa v
 |[],_,_,_,_,h,_,_=>by simp at h
 |_::_,[],_,_,_,_,h,_=>by simp at h
 |p::P,w::vs,0,m,nd,h1,h2,hk=>by simp at h1 h2;subst h1;subst h2;show rM jq ((p,w)::P.zip vs) m p=_;unfold rM;rw[CM λv hv=>(eR.mp nd).1 (Ks hv).1,if_neg hk];simp
 |p::P,w::vs,i+1,m,nd,h1,h2,hk=>by show rM jq ((p,w)::P.zip vs) m x=_;unfold rM;exact CO (i:=i) (eR.mp nd).2 (by simpa using h1) (by simpa using h2) hk
def start(N:List Str)(vs:List V):St:=vs.map aa++bf (N.length-vs.length) none
noncomputable def ud(CX:Oo)(P:aR)(w:aE)(K:ak)(mg:Str->Option ah)(base:aC)(N:List Str)(qual:Str)(scope:cU)(f:ae)(cd:ah)(A:bh)(outer:List Env)(s:aj)(H:Hp)(E:XK):Cx where
 prog:=P
 w:=w
 K:=K
 mg:=mg
 base:=base
 A:=A.deeper (eT qual scope s.heap.objs.size f cd)
 N:=N
 s₀:=s
 H₀:=H
 env:=eT qual scope s.heap.objs.size f cd
 outer:=outer
 stack:=eT qual scope s.heap.objs.size f cd::outer
 ex:=[]
 calm:=true
 fn:=λ_=>true
 pn:=[]
 xe:=λe s'=>aA (az P w) (A.deeper (eT qual scope s.heap.objs.size f cd)) (leaving (eT qual scope s.heap.objs.size f cd) e) (λ_ s''=>CX outer H s E e s'') (λe' s''=>CX outer H s E e' s'') s'
def F8{sc:cU}{n:Nat}{x:Str}(h:sc.names.lookup x=aa .cell):∃c,(D9 n sc.names []).lookup x=aa c:=by have q:=T8 sc.names n [] (.inl h);exact T9.mp q
def Nr{CX:Oo}{P:aR}{w:aE}{K:ak}{mg:Str->Option ah}{base:aC}{N ps:List Str}{qual:Str}{scope:cU}{f:ae}{cd:ah}{A:bh}{outer:List Env}{s s1:aj}{H:Hp}{E:XK}{us:List ah}{vs:List V}
  (S:bc N ps scope)(hd:A.handled=none)(e0:IG P w K mg base A outer s H)(hl:vs.length=ps.length)(r:Vals vs us)
  (x:InCallC s s.heap.objs.size (rL (eT qual scope s.heap.objs.size f cd).kindOf (ps.zip us) λ_=>none) (D9 (s.heap.objs.size+1) scope.names []) (rM (eT qual scope s.heap.objs.size f cd).kindOf (ps.zip us) λ_=>none) s1):
  Inv (ud CX P w K mg base N qual scope f cd A outer s H E) [] (start N vs) H s1:=by
 have hpl:ps.length<=N.length:=by have:=congrArg length S.pre;rw[jR]at this;lia
 obtain⟨h1,tk,rfl,hk⟩:=x.done;have noA:∀b:ae,b∉(ud CX P w K mg base N qual scope f cd A outer s H E).ex:=λb z=>absurd (show b∈([]:List ae)from z) (by simp);refine⟨⟨e0.mod,S.kind,rfl,rfl,aY _,λy z c h1 h2=>?_,λy hy=>?_,λy c _ h=>?_,λ_=>hd,bh.frames_deeper e0.frames,.inr ⟨rfl,rfl⟩,λb z=>absurd z (noA b),e0.bs,e0.Su,λb _ _=>noA b,λb z=>absurd z (noA b),e0.yG,e0.Xl⟩,
  rfl,e0.bare,Un.kept hk,⟨_,x.toInCall.ns,λi y v h1 h2 h3=>?_⟩,λy c h=>⟨_,x.cell y c h⟩,e0.hok.fresh (aY _),λy c h=>?_,λp hp=>absurd (show p∈([]:List (ae×Obj))from hp) (by simp),e0.hok.kept hk,?_⟩
 ·exact name_of_addr x.apart (PySem.mem_of_lookup h1) (PySem.mem_of_lookup h2)
 ·have hy:scope.names.lookup y=aa .cell\/scope.names.lookup y=aa .free:=hy
  rcases hy with hy|hy
  ·exact F8 hy
  ·exact absurd rfl (S.ZL _ (PySem.mem_of_lookup hy))
 ·exact DG (x.above y c (PySem.mem_of_lookup h))
 ·have hi:i<vs.length:=by
   unfold start at h2
   by_cases hi:i<vs.length
   ·exact hi
   ·rw[iS (by simpa using hi)]at h2
    rw[mQ]at h2;split at h2<;>cases h2
  have ha:vs[i]?=aa v:=by
   unfold start at h2;rw[ed (by simpa using hi),bG]at h2;cases e:vs[i]? with
   |none=>rw[e]at h2;cases h2
   |some a=>rw[e]at h2;cases h2;rfl
  obtain⟨u,hu,rv⟩:=r.get ha;have hp:ps[i]?=aa y:=by rw[<-S.pre,List.getElem?_take_of_lt (by lia)];exact h1
  have ndP:ps.Nodup:=by rw[<-S.pre];exact S.nd.sublist (List.take_sublist _ _)
  refine⟨u,rv,?_⟩;rcases S.par y (dm hp)with k|k
  ·exact .inl ⟨k,CN ndP hp hu k⟩
  ·obtain⟨c,e⟩:=F8 (n:=s.heap.objs.size+1) k
   refine .inr ⟨.inl k,c,e,?_⟩;have q:=x.cell y c e;rw[CO ndP hp hu (by show scope.names.lookup y≠_;rw[k];decide)]at q;exact q
 ·exact e0.hok.fresh (DG (x.above y c (PySem.mem_of_lookup h)))
 ·unfold start
  show _=N.length;rw[b9,aG,Ea];lia
def adg{CX:Oo}{P:aR}{w:aE}{K:ak}{mg:Str->Option ah}{base:aC}{k:Nat}{f:ae}{name qual:Str}{params:Ak}{body:List aD}{scope:cU}{dV kV doc pm cdv ct oc:ah}{an od:Option ae}
  {Ot:Array (Option ah)}{N ps:List Str}{sp:Sp}(lk:K.lookup f=aa ⟨oc,od,.func (gf name qual params body scope dV kV doc pm an cdv ct),Ot⟩)(hcd:xf K cdv qual=true)(S:bc N ps scope)
  (len:∀vs H Q E,sp vs H Q E->vs.length=ps.length)
  (hbody:∀(A:bh)(outer:List Env)(s:aj)(H:Hp)(vs:List V)(Q:VK)(E:XK),cG k (A.deeper (eT qual scope s.heap.objs.size f cdv))->sp vs H Q E->
   ∃t,vP (ud CX P w K mg base N qual scope f cdv A outer s H E) body t/\t {nx:=λ_ H'=>Q .non H',rt:=Q} (start N vs) H):
  fA P w K mg base CX (k+1) f (gf name qual params body scope dV kV doc pm an cdv ct) ps sp:=by
 refine⟨len,λA outer s H args us vs Q E hr e0 hb r Cp=>?_⟩;have hl:=len _ _ _ _ Cp;have KX:K.In s.heap:=e0.mod.kin.keeps λb o e=>(e0.bs b o e).1;have lim:s.heap.NoLimit:=e0.mod.nolimit.keeps λb o e=>(e0.bs b o e).1;have hkind:∀y∈ps.zip us,scope.names.lookup y.1=aa .local\/(scope.names.lookup y.1=aa .cell/\((D9 (s.heap.objs.size+1) scope.names []).lookup y.1).isSome=true):=λ⟨n,v⟩ hy=>by
  rcases S.par n (Ks hy).1 with q|q
  ·exact .inl q
  ·exact .inr ⟨q,T8 _ _ _ (.inl q)⟩
 refine codeAny_call_function hr.depth (KX _ _ lk) rfl S.co S.gen rfl (PySem.W.codeRec_of KX hcd) (hb _ _ _ _ ?_);refine wpAny_newFunctionEnv_cells S.kind hkind λenv he s1 x=>?_;subst he;refine⟨lim.keeps x.toInCall.keep,codeAny_func ?_⟩;obtain⟨t,ht,hq⟩:=hbody A outer s H vs Q E (hr.deeper _) Cp;have I:Inv (ud CX P w K mg base N qual scope f cdv A outer s H E) [] (start N vs) H s1:=Nr S hr.hd e0 hl r x;refine kN (ht [] s1 (start N vs) H _ I hq) (λfl s' hs=>?_) λe s' hs=>hs;have fin:∀{σ':St}{H':Hp}{v:V}{u:ah},Inv (ud CX P w K mg base N qual scope f cdv A outer s H E) [] σ' H' s'->RelV v u->Q v H'->CE outer P w H s Q u s':=
  λ{σ' H' v u} J rv q=>⟨v,H',J.os,J.bare,J.base,J.hok,rv,q⟩
 cases fl with
 |ret u=>
  obtain⟨v,σ',H',J,rv,q⟩:=hs;exact fin J rv q
 |next=>
  obtain⟨σ',H',J,q⟩:=hs;exact fin (v:=V.non) (u:=ah.none) J rfl q
 |brk=>
  obtain⟨_,_,_,q⟩:=hs;exact jo q
 |cont=>
  obtain⟨_,_,_,q⟩:=hs;exact jo q
end L2
namespace L2
open PySem PySem.Spec PyProof.Rows
section
variable{X:Cx}{x:Str}{p pos:Pos}{e:ao}{es:List ao}{t:TA}{id T:String}{r:List V->Hp->VK->Prop}
def tCB(r:List V->Hp->VK->Prop)(t:TA):TE:=λσ H Q=>t σ H λvs H1=>r vs H1 Q
def nj(hc:vY X (.builtin id) r)(hg:Gl X x)(hm:X.mg x=none)(hv:eO x=aa (.builtin id))(ha:PA X (e::es) t)(hn:x≠"__name__":=by decide)(hdb:(x==("__debug__":Str))=false:=by decide)
  (he:ar (e::es) X.env=(false,aw e X.env)::ar es X.env:=by rfl)(hpl:(bp pos (ar es X.env)).any (·.1)=false:=by rfl):PE X (.Call (.Name x p) (e::es) [] pos) (tCB r t):=by
 intro pins s σ H Q I h;refine u9 (lZ I hg hm hv ?_ hn hdb);exact PyProof.Rows.callWith_builtin1 (fz (ha pos pins s σ H _ I h) λus s1 ⟨vs,H1,I1,r1,q1⟩=>hc pins s1 σ H1 vs us Q I1 r1 q1) he hpl
def vc(hc:vY X (.type T) r)(hg:Gl X x)(hm:X.mg x=none)(hv:eO x=aa (.type T))(ha:PA X (e::es) t)(hn:x≠"__name__":=by decide)(hdb:(x==("__debug__":Str))=false:=by decide)
  (he:ar (e::es) X.env=(false,aw e X.env)::ar es X.env:=by rfl)(hpl:(bp pos (ar es X.env)).any (·.1)=false:=by rfl):PE X (.Call (.Name x p) (e::es) [] pos) (tCB r t):=by
 intro pins s σ H Q I h;refine u9 (lZ I hg hm hv ?_ hn hdb);exact mH (fz (ha pos pins s σ H _ I h) λus s1 ⟨vs,H1,I1,r1,q1⟩=>hc pins s1 σ H1 vs us Q I1 r1 q1) he hpl
end
end L2
namespace HT
open PySem PyProof.Rows
section
open PySem.SeqAt
open PySem.AutoSeq1 (wpAny_loadPart')
open PySem.MeetsSeq PySem.MeetsSeq2 PySem.MeetsSeq3
end
section
variable{prog:aR}{w:aE}{A:bh}{E:ah->aj->Prop}{s:aj}
def A8(n d:Nat):Option Int->Nat
 |none=>d
 |some v=>if v<0 then(v+(n:Int)).toNat else min v.toNat n
def ue(n d:Nat):A8 n d none=d:=rfl
def nX(n d k:Nat):A8 n d (aa (k:Int))=min k n:=by show(if(k:Int)<0 then((k:Int)+(n:Int)).toNat else min (k:Int).toNat n)=min k n;rw[if_neg (by lia),bw]
end
end HT
namespace L2
open PySem PySem.Spec PyProof.Rows
abbrev TO:=St->Hp->(Option Int->Hp->Prop)->Prop
def PO(X:Cx)(e:Option ao)(t:TO):Prop:=
 ∀(pins:List (ae×Obj))(s:aj)(σ:St)(H:Hp)(Q:Option Int->Hp->Prop),Inv X pins σ H s->t σ H Q->
  aA (az X.prog X.w) X.A (evalPart e X.env) (λu s'=>∃o H',Inv X pins σ H' s'/\IsPart u o/\Q o H') X.xe s
def Ua:TO:=λ_ H Q=>Q none H
def adh(t:TE):TO:=λσ H Q=>t σ H λx H1=>∃i,x=.int i/\Q (aa i) H1
def intsAre_of{ns:List Int}:∀{us:List ah},Vals (ns.map V.int) us->ve us ns:=by
 induction ns with
 |nil=>intro us r;rw[pU]at r;cases r;exact .nil
 |cons n ns ih=>
  intro us r;rw[bu]at r;cases r with
  |cons r1 r2=>
   obtain⟨t,e⟩:=r1;subst e;exact .cons n t (ih r2)
section
variable{X:Cx}{e:ao}{te:TE}{lo hi:Option ao}{tl th:TO}{pos p2:Pos}
def Ku:PO X none Ua:=by intro pins s σ H Q I h;rw[evalPart_none];exact ck ⟨none,H,I,.none,h⟩
def Kv(h:PE X e te):PO X (aa e) (adh te):=by intro pins s σ H Q I hw;rw[evalPart_some];refine fz (h pins s σ H _ I hw) λu s1 ⟨x,H1,I1,r1,q1⟩=>?_;obtain⟨i,rfl,q⟩:=q1;obtain⟨t,rfl⟩:=r1;exact⟨aa i,H1,I1,.int i t,q⟩
noncomputable def SlR(X:Cx)(r:V->Option Int->Option Int->Hp->VK->Prop):Prop:=
 ∀(pins:List (ae×Obj))(s:aj)(σ:St)(H:Hp)(x:V)(v vl vu:ah)(lo hi:Option Int)(sl:ae)(Q:VK),Inv X pins σ H s->RelV x v->s.heap.IsSliceOf sl vl vu .none->IsPart vl lo->IsPart vu hi->r x lo hi H Q->
  ∃T id,typeLookup (.type T) "__getitem__"=aW (aa (.builtin id))/\s.TypeIs v T/\aA (az X.prog X.w) X.A (xg v (.ref sl)) (EP X pins σ Q) X.xe s
def tSl(r:V->Option Int->Option Int->Hp->VK->Prop)(te:TE)(tl th:TO):TE:=λσ H Q=>te σ H λx H1=>tl σ H1 λl H2=>th σ H2 λu H3=>r x l u H3 Q
def F9{r:V->Option Int->Option Int->Hp->VK->Prop}(hr:SlR X r)(he:PE X e te)(hl:PO X lo tl)(hu:PO X hi th):PE X (.Subscript e (.Slice lo hi none p2) pos) (tSl r te tl th):=by intro pins s σ H Q I h;refine Kx (fz (he pins s σ H _ I h) λv s1 ⟨x,H1,I1,r1,q1⟩=>?_);refine wpAny_Slice (fz (hl pins s1 σ H1 _ I1 q1) λvl s2 ⟨l,H2,I2,pl,q2⟩=>fz (hu pins s2 σ H2 _ I2 q2) λvu s3 ⟨u,H3,I3,pu,q3⟩=>?_);rw[evalPart_none];refine ck ?_;have I4:Inv X pins σ H3 {s3 with heap:=s3.heap.push {cls:=.type "slice",data:=.fields #[vl,vu,.none]}}:=I3.kept (t':=s3.toks) λb ob q=>cQ _ q;obtain⟨T,id,hT,ht,hg⟩:=hr pins {s3 with heap:=s3.heap.push {cls:=.type "slice",data:=.fields #[vl,vu,.none]}} σ H3 x v vl vu l u s3.heap.objs.size Q I4 r1 (aC.IsSliceOf.new ..) pl pu q3;show aA (az X.prog X.w) X.A (Ky e (.Slice lo hi none p2) v (.ref s3.heap.objs.size)) (EP X pins σ Q) X.xe {s3 with heap:=s3.heap.push {cls:=.type "slice",data:=.fields #[vl,vu,.none]}};exact tail_any (ops:=[.ref s3.heap.objs.size,v]) ht hT hg (by with_unfolding_all rfl)
def Cq(xs:List V)(lo hi:Option Int):List V:=(xs.drop (HT.A8 xs.length 0 lo)).take (HT.A8 xs.length xs.length hi-HT.A8 xs.length 0 lo)
def Ga(xs:List V)(lo hi:Option Int):(Cq xs lo hi).length<=xs.length:=by unfold Cq;rw[jR,nY];lia
end
end L2
namespace L2
open PySem PySem.Spec PyProof.Rows
def wN(n:Nat)(i:Int):Option Nat:=if 0<=i then(if i<n then aa i.toNat else none)else if-(n:Int)<=i then aa (i+n).toNat else none
def kU{α:Type}(xs:List α)(i:Int):Option α:=(wN xs.length i).bind λj=>xs[j]?
def Kz{n:Nat}{i:Int}{j:Nat}(h:wN n i=aa j):seqIndex? i n=aa j/\j<n/\ -(n:Int)<=i/\i<n:=by
 unfold wN at h
 by_cases h0:0<=i
 ·rw[if_pos h0]at h
  by_cases h1:i<n
  ·rw[if_pos h1]at h
   have e:i.toNat=j:=cj.inj h;exact⟨by rw[KA h0 h1,e],by lia,by lia,h1⟩
  ·rw[if_neg h1]at h;cases h
 ·rw[if_neg h0]at h
  by_cases h1: -(n:Int)<=i
  ·rw[if_pos h1]at h
   have e:(i+n).toNat=j:=cj.inj h;exact⟨by rw[KC (by lia) h1,e],by lia,h1,by lia⟩
  ·rw[if_neg h1]at h;cases h
def Eb{α:Type}{xs:List α}{i:Int}{v:α}(h:kU xs i=aa v):∃j,seqIndex? i xs.length=aa j/\xs[j]?=aa v/\j<xs.length/\ -(xs.length:Int)<=i/\i<xs.length:=by
 unfold kU at h;cases e:wN xs.length i with
 |none=>rw[e]at h;cases h
 |some j=>
  rw[e]at h;obtain⟨h1,h2,h3,h4⟩:=Kz e;exact⟨j,h1,h,h2,h3,h4⟩
def mR{α:Type}{xs:List α}{j:Nat}{v:α}(h:xs[j]?=aa v):kU xs (j:Int)=aa v:=by
 have hj:j<xs.length:=(bz.mp h).1;have e:wN xs.length (j:Int)=aa j:=by unfold wN;rw[if_pos (by lia),if_pos (by lia)];simp
 unfold kU;rw[e];exact h
def A9{α:Type}(xs:List α)(v:α):kU (xs++[v]) (-1)=aa v:=by
 have hl:(xs++[v]).length=xs.length+1:=by simp
 have e:wN (xs++[v]).length (-1)=aa xs.length:=by unfold wN;rw[hl,if_neg (by decide),if_pos (by lia)];congr 1;lia
 unfold kU;rw[e];show(xs++[v])[xs.length]?=aa v;simp
def rN(b:ao):Prop:=∀o i,Ec b false o i=operate [o,i] (xg o i)
noncomputable def Ub(X:Cx)(r:R2):Prop:=
 ∀(value slice:ao)(pins:List (ae×Obj))(s:aj)(σ:St)(H:Hp)(x y:V)(v u:ah)(Q:VK),Inv X pins σ H s->RelV x v->RelV y u->r x y H Q->
  Ec slice false v u=operate [v,u] (xg v u)->aA (az X.prog X.w) X.A (Ky value slice v u) (EP X pins σ Q) X.xe s
noncomputable def MtR(X:Cx)(id:String)(r:V->List V->Hp->VK->Prop):Prop:=
 ∀(pins:List (ae×Obj))(s:aj)(σ:St)(H:Hp)(x:V)(xs:List V)(v:ah)(us:List ah)(Q:VK),Inv X pins σ H s->RelV x v->Vals xs us->r x xs H Q->
  aA (az X.prog X.w) X.A (call (.builtin id) (v::us)) (EP X pins σ Q) X.xe s
section
variable{X:Cx}{a b:ao}{ta tb:TE}{pos:Pos}
def Ub.or {r r':R2}(h:Ub X r)(h':Ub X r'):Ub X (λx y H Q=>r x y H Q\/r' x y H Q):=by
 intro value slice pins s σ H x y v u Q I rx ry q hs;rcases q with q|q
 ·exact h value slice pins s σ H x y v u Q I rx ry q hs
 ·exact h' value slice pins s σ H x y v u Q I rx ry q hs
def ja{r:R2}(hr:Ub X r)(ha:PE X a ta)(hb:PE X b tb)(hs:rN b):PE X (.Subscript a b pos) (ZC r ta tb):=by intro pins s σ H Q I h;exact Kx (ZD ha hb I h λv u s2 x y H2 I2 rx ry q=>hr a b pins s2 σ H2 x y v u Q I2 rx ry q (hs _ _))
def ZM(K:ak):R2:=λx y H Q=>∃p xs i v,x=.ref p/\y=.int i/\fG K H p xs/\kU xs i=aa v/\Q v H
def Uc(K:ak):R2:=λx y H Q=>∃p xs i v,x=.ref p/\y=.int i/\Ck K H p xs/\kU xs i=aa v/\Q v H
def adi:R2:=λx y H Q=>∃z i c,x=.str z/\y=.int i/\z.length<=aH/\kU z.cps.toList i=aa c/\Q (.str ⟨#[c]⟩) H
def ig:Ub X (ZM X.K):=by
 intro value slice pins s σ H x y v u Q I rx ry h hs;obtain⟨p,xs,i,z,rfl,rfl,hq,he,q⟩:=h;cases rx;obtain⟨t,rfl⟩:=ry;obtain⟨its,r,pl,hz⟩:=I.list hq;obtain⟨j,h1,h2,h3,h4,h5⟩:=Eb he;obtain⟨w,ew,sX⟩:=r.get h2;have hl:=r.length;have hn:=wu;have fin:EP X pins σ Q w s:=⟨z,H,I,sX,q⟩
 by_cases h0:0<=i
 ·have hj:i.toNat=j:=by
   rw[KA h0 h5]at h1;exact cj.inj h1
  exact item_listR pl.isList h0 (by lia) (by rw[hj];simpa using ew) fin hs
 ·have hj:(i+(its.toArray.size:Int)).toNat=j:=by
   rw[KC (by lia) h4]at h1;rw[cR,<-hl];exact cj.inj h1
  exact Ud (x:=w) pl.isList.typeIs Ue.lookup
   (wpAny_getItem_list_neg (Q:=λr s'=>r=w/\EP X pins σ Q r s') pl.isList (by lia) (by rw[cR]<;>lia) (by lia) (by rw[hj];simpa using ew) ⟨rfl,fin⟩) hs
def uf:Ub X (Uc X.K):=by
 intro value slice pins s σ H x y v u Q I rx ry h hs;obtain⟨p,xs,i,z,rfl,rfl,hq,he,q⟩:=h;cases rx;obtain⟨t,rfl⟩:=ry;obtain⟨its,r,pl,hz⟩:=I.tuple hq;obtain⟨j,h1,h2,h3,h4,h5⟩:=Eb he;obtain⟨w,ew,sX⟩:=r.get h2;have hl:=r.length;have hn:=wu;have fin:EP X pins σ Q w s:=⟨z,H,I,sX,q⟩
 exact Ud (x:=w) pl.typeIs slot_tuple_getitem.lookup
  (getItem_tuple (j:=j) (Q:=λr s'=>r=w/\EP X pins σ Q r s') pl (by lia) (by lia) (by rw[cR,<-hl];exact h1) (by simpa using ew) ⟨rfl,fin⟩) hs
def ZN:Ub X adi:=by
 intro value slice pins s σ H x y v u Q I rx ry h hs;obtain⟨z,i,c,rfl,rfl,hz,he,q⟩:=h;obtain⟨t,rfl⟩:=rx;obtain⟨t',rfl⟩:=ry;obtain⟨j,h1,h2,h3,h4,h5⟩:=Eb he;have hl:z.cps.toList.length=z.length:=by simp[Str.length]
 rw[hl]at h1 h4 h5;have hn:=wu;exact tail_any (typeIs_str s z t) slot_str_getitem.lookup (getItem_str (c:=c) (by have e1:decide (i< -(2^63:Int))=false:=decide_eq_false (by lia);have e2:decide (i>=2^63)=false:=decide_eq_false (by lia);rw[e1,e2,Ug]) (by rw[h1];simpa using h2) ⟨.str ⟨#[c]⟩,H,I.tok _,⟨_,rfl⟩,q⟩) hs
def rIx(K:ak):R2:=λx y H Q=>ZM K x y H Q\/Uc K x y H Q\/adi x y H Q
def O6:Ub X (rIx X.K):=ig.or (uf.or ZN)
def IJ(its:List ah)(n j:Nat)(u:ah):vg (·.setIfInBounds j u) {cls:=.type "list",data:=.seq its.toArray n}={cls:=.type "list",data:=.seq (its.set j u).toArray n}:=by simp[vg]
theorem Inv.lst {pins:List (ae×Obj)}{σ:St}{H:Hp}{s:aj}{p:ae}{xs:List V}(I:Inv X pins σ H s)(h:H p=aa (.lst xs)):
  ∃(its:List ah)(n:Nat),Vals xs its/\s.heap.get? p=aa {cls:=.type "list",data:=.seq its.toArray n}/\xs.length<=aH:=by
 obtain⟨z,its,n,r,e⟩:=I.hok p _ h;exact⟨its,n,r,e,z⟩
def Inv.ZO {pins:List (ae×Obj)}{σ:St}{H:Hp}{s:aj}{p:ae}{xs ys:List V}{its its':List ah}{n n':Nat}{f:Obj->Obj}(I:Inv X pins σ H s)(h:H p=aa (.lst xs))
  (ho:s.heap.get? p=aa {cls:=.type "list",data:=.seq its.toArray n})(hf:f {cls:=.type "list",data:=.seq its.toArray n}={cls:=.type "list",data:=.seq its'.toArray n'})(r:Vals ys its')(hz:ys.length<=aH)(t:Nat):
  Inv X pins σ (upd H p (.lst ys)) {s with heap:=s.heap.update p f,toks:=t}:=by
 have e:(s.heap.update p f).get? p=aa {cls:=.type "list",data:=.seq its'.toArray n'}:=by rw[Uh f ho (by rw[hf]<;>rfl),hf]
 refine I.write (x:=p) (e:=p) (by rw[h];trivial) (.inl rfl) (λb u hb q=>(KD _ _ (Ne.symm hb)).trans q) ⟨_,e⟩ ?_;exact⟨hz,its',n',r,e⟩
def adj:V->V->V->Hp->(Hp->Prop)->Prop:=λo i v H Q=>∃p xs k j,o=.ref p/\i=.int k/\H p=aa (.lst xs)/\wN xs.length k=aa j/\Q (upd H p (.lst (xs.set j v)))
def set_list:acW X adj:=by
 intro pins s σ H o i v ov iv u Q I ro ri rv h;obtain⟨p,xs,k,j,rfl,rfl,hp,hj,q⟩:=h;cases ro;obtain⟨t,rfl⟩:=ri;obtain⟨its,n,r,ho,hz⟩:=I.lst hp;obtain⟨h1,h2,h3,h4⟩:=Kz hj;have hl:=r.length;have hn:=wu;have I':Inv X pins σ (upd H p (.lst (xs.set j v))) {s with heap:=s.heap.update p (vg (·.setIfInBounds j u))}:=
  I.ZO hp ho (IJ its n j u) (r.set rv j) (by rw[kW];exact hz) s.toks
 by_cases h0:0<=k
 ·have hk:k.toNat=j:=by
   rw[KA h0 h4]at h1;exact cj.inj h1
  exact PySem.W.ki_setAt ho h0 (by lia) (by rw[cR,<-hl];exact h4) (by rw[hk];exact⟨_,I',q⟩)
 ·have hk:(k+(its.toArray.size:Int)).toNat=j:=by
   rw[KC (by lia) h3]at h1;rw[cR,<-hl];exact cj.inj h1
  exact PySem.W.ki_setBack ho (by lia) (by rw[cR,<-hl];exact h3) (by lia) (by rw[hk];exact⟨_,I',q⟩)
def Ed(lo hi:Option Int)(n:Nat):(vh lo hi none n).1=((HT.A8 n 0 lo:Nat):Int)/\(vh lo hi none n).2.1=((HT.A8 n n hi:Nat):Int)/\(vh lo hi none n).2.2=1:=by
 refine⟨?_,?_,rfl⟩
 ·cases lo with
  |none=>simp[vh,HT.A8]
  |some i=>
   simp only [vh,HT.A8,Ui,show(1:Int)>0 by decide,if_true]
   by_cases h:i<0
   ·simp only [h,if_true]<;>lia
   ·simp only [h,if_false]<;>lia
 ·cases hi with
  |none=>simp[vh,HT.A8]
  |some i=>
   simp only [vh,HT.A8,Ui,show(1:Int)>0 by decide,if_true]
   by_cases h:i<0
   ·simp only [h,if_true]<;>lia
   ·simp only [h,if_false]<;>lia
def Cr(its:List ah)(lo hi:Option Int):slicePick its.toArray lo hi none=((its.drop (HT.A8 its.length 0 lo)).take (HT.A8 its.length its.length hi-HT.A8 its.length 0 lo)).toArray:=by obtain⟨h1,h2,h3⟩:=Ed lo hi its.toArray.size;unfold slicePick;rw[h1,h2,h3];simp only [sliceRange_one,pick_run,cR]<;>rfl
def agS(K:ak):V->Option Int->Option Int->Hp->VK->Prop:=λx lo hi H Q=>∃a xs,x=.ref a/\fG K H a xs/\∀p,H p=none->Q (.ref p) (upd H p (.lst (Cq xs lo hi)))
def KG:SlR X (agS X.K):=by intro pins s σ H x v vl vu lo hi sl Q I rx hs pl pu h;obtain⟨a,xs,rfl,hx,q⟩:=h;cases rx;obtain⟨its,r,ht,hz⟩:=I.list hx;have hlen:=r.length;refine⟨"list",_,Ue.lookup,ht.isList.typeIs,?_⟩;refine wpAny_getItem_list_slice ht.isList hs pl pu .none (by simp) ?_ (by rw[cR]<;>lia);rw[Cr,<-hlen];refine⟨.ref s.heap.objs.size,_,I.laid (t':=s.toks) (o:=.lst (Cq xs lo hi)) (λb ob q=>cQ _ q) (aY _) ?_,rfl,q _ (I.hok.fresh (aY _))⟩;exact⟨iM (Ga xs lo hi) hz,_,0,(r.drop (HT.A8 xs.length 0 lo)).take (HT.A8 xs.length xs.length hi-HT.A8 xs.length 0 lo),iP _ rfl⟩
def rO:vY X (.builtin "len") (λxs H Q=>∃p ys,xs=[.ref p]/\(fG X.K H p ys\/Ck X.K H p ys)/\Q (.int ys.length) H):=by
 intro pins s σ H xs us Q I r h;obtain⟨p,ys,rfl,hq,q⟩:=h;obtain⟨u,rfl,rx⟩:=vals1 r;cases rx;have hn:=wu;rcases hq with hq|hq
 ·obtain⟨its,r',pl,hz⟩:=I.list hq
  have hlen:=r'.length;exact TV pl.isList (by simp only [cR]<;>lia) ⟨.int ys.length,H,I.tok _,⟨s.toks+1,by rw[cR,hlen]⟩,q⟩
 ·obtain⟨its,r',pl,hz⟩:=I.tuple hq
  have hlen:=r'.length;exact len_tuple pl (by simp only [cR]<;>lia) ⟨.int ys.length,H,I.tok _,⟨s.toks+1,by rw[cR,hlen]⟩,q⟩
def rP:vY X (.type "list") (λxs H Q=>∃p ys,xs=[.ref p]/\(fG X.K H p ys\/Ck X.K H p ys)/\∀l,H l=none->Q (.ref l) (upd H l (.lst ys))):=by
 intro pins s σ H xs us Q I r h;obtain⟨p,ys,rfl,hq,q⟩:=h;obtain⟨u,rfl,rx⟩:=vals1 r;cases rx;have fin:∀(its:List ah),Vals ys its->ys.length<=aH->∀(h':aC)(c':Nat),(∀b o',s.heap.get? b=aa o'->h'.get? b=aa o')->
   h'.get? s.heap.objs.size=aa {cls:=.type "list",dict:=none,data:=.seq its.toArray c',slots:=#[]}->EP X pins σ Q (.ref s.heap.objs.size) {s with heap:=h'}:=λits r' hz h' c' kp e=>
  ⟨.ref s.heap.objs.size,_,I.laid (t':=s.toks) kp (aY _) (show gB X.prog X.w _ h' _ (.lst ys)from⟨hz,its,c',r',e⟩),rfl,q _ (I.hok.fresh (aY _))⟩
 rcases hq with hq|hq
 ·obtain⟨its,r',pl,hz⟩:=I.list hq
  have hlen:=r'.length;obtain⟨o,ho,hc,n,hd⟩:=pl.isList;exact call_list_seq p (.inl rfl) ho hc hd (λh' c' kp e=>fin its r' hz h' c' kp e) (by simp only [cR]<;>lia)
 ·obtain⟨its,r',pl,hz⟩:=I.tuple hq
  have hlen:=r'.length;obtain⟨o,ho,hc,n,hd⟩:=pl;exact call_list_seq p (.inr rfl) ho hc hd (λh' c' kp e=>fin its r' hz h' c' kp e) (by simp only [cR]<;>lia)
def Cs:vY X (.type "tuple") (λxs H Q=>∃p ys,xs=[.ref p]/\((fG X.K H p ys/\∀l,H l=none->Q (.ref l) (upd H l (.tup ys)))\/(Ck X.K H p ys/\Q (.ref p) H))):=by
 intro pins s σ H xs us Q I r h;obtain⟨p,ys,rfl,h⟩:=h;obtain⟨u,rfl,rx⟩:=vals1 r;cases rx;rcases h with⟨hq,q⟩|⟨hq,q⟩
 ·obtain⟨its,r',pl,hz⟩:=I.list hq
  have hlen:=r'.length;refine call_tuple_list pl.isList (λh' kp=>?_) (by simp only [cR]<;>lia);have I1:Inv X pins σ H {s with heap:=h'}:=I.kept (t':=s.toks) kp;have I2:Inv X pins σ (upd H h'.objs.size (.tup ys)) {s with heap:=h'.push {cls:=.type "tuple",data:=.seq its.toArray}}:=
   I1.laid (t':=s.toks) (λb o e=>cQ _ e) (aY _) (show gB X.prog X.w _ _ _ (.tup ys)from⟨hz,its,r',IsTup.new _ _⟩)
  exact⟨.ref h'.objs.size,_,I2,rfl,q _ (I1.hok.fresh (aY _))⟩
 ·obtain⟨its,r',pl,hz⟩:=I.tuple hq
  exact call_tuple_same pl ⟨.ref p,H,I,rfl,q⟩
noncomputable def tyV(K:ak)(T:String)(x:V)(H:Hp):Prop:=match x with
 |.str _=>T="str"
 |.int _=>T="int"
 |.ref p=>(T="list"/\∃xs,fG K H p xs)\/(T="tuple"/\∃o,K.lookup p=aa o/\o.cls=.type "tuple"/\o.dict=none)\/
   (T="dict"/\((∃kvs,H p=aa (.dK kvs))\/∃kvs,H p=aa (.dT kvs)))\/(T="set"/\∃S n,H p=aa (.set S n))
 |_=>False
def O7{pins:List (ae×Obj)}{σ:St}{H:Hp}{s:aj}{T:String}{x:V}{v:ah}(I:Inv X pins σ H s)(r:RelV x v)(ty:tyV X.K T x H):
  s.TypeIs v T/\∀a,v=.ref a->∃ob,s.heap.get? a=aa ob/\ob.dict=none:=by
 cases x with
 |str z=>
  obtain⟨t,rfl⟩:=r;cases (show T="str" from ty);exact⟨typeIs_str s z t,λ_ e=>nomatch e⟩
 |int i=>
  obtain⟨t,rfl⟩:=r;cases (show T="int" from ty);exact⟨KH s i t,λ_ e=>nomatch e⟩
 |ref p=>
  cases r;rcases ty with⟨rfl,xs,hq⟩|⟨rfl,o,hk,hc,hd⟩|⟨rfl,hk⟩|⟨rfl,S,n,hk⟩
  ·obtain⟨its,_,pl,_⟩:=I.list hq
   refine⟨pl.isList.typeIs,λa e=>?_⟩;cases e;obtain⟨o,n,e,c,hd,_⟩:=pl;exact⟨o,e,hd⟩
  ·refine⟨⟨o,I.yH p o hk,hc⟩,λa e=>?_⟩
   cases e;exact⟨o,I.yH _ o hk,hd⟩
  ·have z:∃o,s.heap.get? p=aa o/\o.ExactDict:=by
    rcases hk with⟨kvs,hk⟩|⟨kvs,hk⟩
    ·obtain⟨_,_,_,_,o,_,_,e,ex,_⟩:=I.hok p _ hk
     exact⟨o,e,ex⟩
    ·obtain⟨_,_,_,_,o,_,_,e,ex,_⟩:=I.hok p _ hk
     exact⟨o,e,ex⟩
   obtain⟨o,e,ex⟩:=z;refine⟨⟨o,e,ex.1⟩,λa e2=>?_⟩;cases e2;exact⟨o,e,ex.2.1⟩
  ·obtain⟨o,_,_,_,e,ex,_⟩:=I.hok p _ hk
   refine⟨⟨o,e,ex.1⟩,λa e2=>?_⟩;cases e2;exact⟨o,e,ex.2.1⟩
 |_=>exact jo ty
def agU(K:ak)(T:String)(r:V->List V->Hp->VK->Prop)(to:TE):TE:=λσ H Q=>to σ H λx H1=>tyV K T x H1/\r x [] H1 Q
def tBM(K:ak)(T:String)(r:V->List V->Hp->VK->Prop)(to:TE)(t:TA):TE:=λσ H Q=>to σ H λx H1=>tyV K T x H1/\t σ H1 λxs H2=>r x xs H2 Q
variable{o e:ao}{es:List ao}{to:TE}{t:TA}{name:Str}{apos cO:Pos}{T id:String}{r:V->List V->Hp->VK->Prop}
def Ef(pa:PlainAttrs T)(slot:Slot T name id)(hty:typeOf (.builtin id)=aW (.type "method_descriptor"))(hm:MtR X id r)(ho:PE X o to)
  (hbase:hU o name X.env (aw o X.env)=aw o X.env:=by rfl)(hline:(apos.endLine==cO.line)=true:=by rfl):PE X (.Call (.Attribute o name apos) [] [] cO) (agU X.K T r to):=by
 intro pins s σ H Q I h;refine wpAny_Call_method0_late hbase hline (fz (ho pins s σ H _ I h) λv s1 ⟨x,H1,I1,r1,ty,q1⟩=>?_);obtain⟨h1,h2⟩:=O7 I1 r1 ty;exact⟨T,id,pa,slot,hty,h1,h2,KI rfl (PySem.evalArgs_none (hm pins s1 σ H1 x [] v [] Q I1 r1 .nil q1))⟩
def ug(pa:PlainAttrs T)(slot:Slot T name id)(hty:typeOf (.builtin id)=aW (.type "method_descriptor"))(hm:MtR X id r)(ho:PE X o to)(ha:PA X (e::es) t)
  (hbase:hU o name X.env (aw o X.env)=aw o X.env:=by rfl)
  (hfew:((bp cO (ar (e::es) X.env)).all (λx=> !x.1)&&(kR cO (kT [] X.env)).all (λx=>x.1.isSome)
   &&decide ((e::es).length+([]:List eU).length+(if([]:List eU).isEmpty then 0 else 1)<30))=true:=by rfl)
  (hline:(apos.endLine==cO.line)=true:=by rfl)(hs:ar (e::es) X.env=(false,aw e X.env)::ar es X.env:=by rfl)(hplain:(bp cO (ar es X.env)).any (·.1)=false:=by rfl):
  PE X (.Call (.Attribute o name apos) (e::es) [] cO) (tBM X.K T r to t):=by
 intro pins s σ H Q I h;refine wpAny_Call_method_late hbase hfew hline rfl (fz (ho pins s σ H _ I h) λv s1 ⟨x,H1,I1,r1,ty,q1⟩=>?_);obtain⟨h1,h2⟩:=O7 I1 r1 ty;refine⟨T,id,pa,slot,hty,h1,h2,?_⟩;have hA:=ha cO pins s1 σ H1 _ I1 q1;rw[hs]at hA⊢;refine KI (by show(false||(bp cO (ar es X.env)).any (·.1))=false;rw[hplain]<;>rfl) (Uj ?_);exact fz hA λus s2 ⟨vs,H2,I2,r2,q2⟩=>hm pins s2 σ H2 x vs v us Q I2 r1 r2 q2
end
end L2
namespace L2
open PySem PySem.Spec PyProof.Rows
noncomputable def MtM(X:Cx)(id:String)(r:V->List V->Hp->VK->Prop):Prop:=
 ∀(pins:List (ae×Obj))(s:aj)(σ:St)(H:Hp)(x:V)(xs:List V)(v:ah)(us:List ah)(Q:VK),Inv X pins σ H s->RelV x v->Vals xs us->r x xs H Q->
  aA (az X.prog X.w) X.A (call (.builtin id) (v::us)) (EP X pins σ Q) X.xe s
def Vals.one:∀{x:V}{us:List ah},Vals [x] us->∃u,us=[u]/\RelV x u
 |_,_,.cons r .nil=>⟨_,rfl,r⟩
def Vals.zero:∀{us:List ah},Vals [] us->us=[]
 |_,.nil=>rfl
theorem Vals.dropLast {xs:List V}{us:List ah}(h:Vals xs us):Vals xs.dropLast us.dropLast:=by
 induction h with
 |nil=>exact .nil
 |cons r t ih=>
  cases t with
  |nil=>exact .nil
  |cons q t'=>exact .cons r ih
theorem Vals.reverse {xs:List V}{us:List ah}(h:Vals xs us):Vals xs.reverse us.reverse:=by
 induction h with
 |nil=>exact .nil
 |cons r t ih=>rw[kX,kX];exact Vals.append ih (.cons r .nil)
theorem Vals.rep {xs:List V}{us:List ah}(h:Vals xs us):∀k:Nat,Vals (bf k xs).flatten (bf k us).flatten
 |0=>.nil
 |k+1=>by rw[gH,gH,fM,fM];exact Vals.append h (Vals.rep h k)
def IK{α:Type}(l:List α):l.eraseIdx (l.length-1)=l.dropLast:=by
 induction l with
 |nil=>rfl
 |cons a r ih=>
  cases r with
  |nil=>rfl
  |cons b r=>
   have e:(a::b::r).length-1=((b::r).length-1)+1:=by have h1:(a::b::r).length=r.length+2:=rfl;have h2:(b::r).length=r.length+1:=rfl;lia
   rw[e,List.eraseIdx_cons_succ,ih]
   all_goals rfl
theorem foldl_rep(its:List ah):∀(k:Nat)(acc:List ah),
  KJ (λx1 x2=>x1++x2) acc.toArray (bf k its.toArray)=(acc++(bf k its).flatten).toArray
 |0,acc=>by simp
 |k+1,acc=>by
  have e:acc.toArray++its.toArray=(acc++its).toArray:=by simp
  have e2:(acc++its)++(bf k its).flatten=acc++(bf (k+1) its).flatten:=by rw[gH,fM,bC]
  rw[<-e2,<-foldl_rep its k (acc++its),<-e,gH,nZ]
section
variable{X:Cx}{pins:List (ae×Obj)}{σ:St}{H:Hp}{s:aj}{l b:ae}{xs ys zs:List V}
def Inv.ZP {its its':List ah}{n:Nat}{f:Array ah->Array ah}{t':Nat}(I:Inv X pins σ H s)(hH:H l=aa (.lst xs))
  (e:s.heap.get? l=aa {cls:=.type "list",data:=.seq its.toArray n})(hf:f its.toArray=its'.toArray)(hv:Vals ys its')(hz:ys.length<=aH):
  Inv X pins σ (upd H l (.lst ys)) {s with heap:=s.heap.update l (vg f),toks:=t'}:=by
 have q:=PySem.IsL.update e f;rw[hf]at q;refine I.write (x:=l) (e:=l) (by rw[hH];exact trivial) (.inl rfl) (λb' u hb hu=>(KD s.heap (vg f) (Ne.symm hb)).trans hu) ⟨_,q⟩ ?_;exact⟨hz,its',_,hv,q⟩
def Inv.adk {its:List ah}{t':Nat}(I:Inv X pins σ H s)(hv:Vals ys its)(hz:ys.length<=aH):
  Inv X pins σ (upd H s.heap.objs.size (.lst ys)) {s with heap:=s.heap.push {cls:=.type "list",data:=.seq its.toArray},toks:=t'}:=
 I.laid (λ_ _ q=>cQ _ q) (aY _) ⟨hz,its,0,hv,iP _ rfl⟩
theorem Inv.fresh (I:Inv X pins σ H s):H s.heap.objs.size=none:=I.hok.fresh (aY _)
def Inv.Uk (I:Inv X pins σ H s)(hH:H l=aa (.lst xs)):xs.length<=aH/\∃(its:List ah)(n:Nat),Vals xs its/\xs.length=its.length/\s.heap.get? l=aa {cls:=.type "list",data:=.seq its.toArray n}:=by obtain⟨z,its,n,r,e⟩:=I.hok l _ hH;exact⟨z,its,n,r,r.length,e⟩
def O8{n:Nat}(h:n<=aH):Al n=false:=by unfold Al;exact decide_eq_false (by lia)
end
section
variable{X:Cx}
def Eg:V->List V->Hp->VK->Prop:=λx vs H Q=>∃l xs y,x=.ref l/\vs=[y]/\H l=aa (.lst xs)/\xs.length<aH/\Q .non (upd H l (.lst (xs++[y])))
def fX:MtM X "list.append" Eg:=by intro pins s σ H x vs v us Q I rx rv h;obtain⟨l,xs,y,rfl,rfl,hH,hz,q⟩:=h;cases rx;obtain⟨u,rfl,ru⟩:=rv.one;obtain⟨z,its,n,r,hl,e⟩:=I.Uk hH;refine xh F.slot_list_append ⟨_,e,rfl⟩ F.entry_list_append (F.args_list_append_2 _ _) (PySem.list_append l its.toArray n u (by rw[cR];lia)) ⟨e,?_⟩;refine⟨.non,_,I.ZP (its':=its++[u]) hH e (by simp) (r.append (.cons ru .nil)) ?_,rfl,q⟩;rw[b9,pV];lia
def agX:V->List V->Hp->VK->Prop:=λx vs H Q=>∃l xs y,x=.ref l/\vs=[]/\H l=aa (.lst xs)/\xs[xs.length-1]?=aa y/\Q y (upd H l (.lst xs.dropLast))
def O9:MtM X "list.pop" agX:=by
 intro pins s σ H x vs v us Q I rx rv h;obtain⟨l,xs,y,rfl,rfl,hH,hy,q⟩:=h;cases rx;have hus:=rv.zero;subst hus;obtain⟨z,its,n,r,hl,e⟩:=I.Uk hH;obtain⟨u,hu,ru⟩:=r.get hy;have hy':its.toArray[its.toArray.size-1]?=aa u:=by show its.toArray[its.length-1]?=aa u;rw[<-Array.getElem?_toList,<-hl];exact hu
 refine xh F.slot_list_pop ⟨_,e,rfl⟩ F.entry_list_pop (F.args_list_pop_1 _) (MeetsSeq.list_pop_last l its.toArray n u hy' (by rw[cR];lia)) ⟨e,?_⟩;refine⟨y,_,I.ZP (its':=its.dropLast) hH e ?_ r.dropLast ?_,ru,q⟩
 ·show its.toArray.eraseIdxIfInBounds (its.toArray.size-1)=its.dropLast.toArray
  rw[cR,List.eraseIdxIfInBounds_toArray,IK]
 ·rw[KN]
  lia
def Pb:V->List V->Hp->VK->Prop:=λx vs H Q=>∃l xs,x=.ref l/\vs=[]/\H l=aa (.lst xs)/\Q .non (upd H l (.lst xs.reverse))
def IL:MtM X "list.reverse" Pb:=by intro pins s σ H x vs v us Q I rx rv h;obtain⟨l,xs,rfl,rfl,hH,q⟩:=h;cases rx;have hus:=rv.zero;subst hus;obtain⟨z,its,n,r,hl,e⟩:=I.Uk hH;refine xh F.slot_list_reverse ⟨_,e,rfl⟩ F.entry_list_reverse (F.args_list_reverse_1 _) (AutoSeq1.list_reverse_list_0 l its.toArray n (by rw[cR];lia)) ⟨e,?_⟩;refine⟨.non,_,I.ZP (its':=its.reverse) hH e (by simp) r.reverse ?_,rfl,q⟩;rw[bE];lia
def ag0:R2:=λx y H Q=>∃l k xs,x=.ref l/\y=.int k/\H l=aa (.lst xs)/\ -(2^63)<=k/\k<2^63/\xs.length*k.toNat<=aH/\
 ∀p,H p=none->Q (.ref p) (upd H p (.lst (bf k.toNat xs).flatten))
def len_rep{α:Type}(xs:List α)(k:Nat):(bf k xs).flatten.length=k*xs.length:=by
 induction k with
 |zero=>simp
 |succ k ih=>rw[gH,fM,b9,ih,Ul,Um]
def ZQ:yJ X (kP .Mult) ag0:=by
 intro pins s σ H x y v u Q I rx ry h;obtain⟨l,k,xs,rfl,rfl,hH,h1,h2,hz,q⟩:=h;cases rx;obtain⟨t,rfl⟩:=ry;obtain⟨z,its,n,r,hl,e⟩:=I.Uk hH;have hlen:its.toArray.size*k.toNat<=aH:=by rw[cR,<-hl];exact hz
 have ag1:¬its.toArray.size*k.toNat>(2^63-1)/8:=by
  have:(aH:Nat)<=(2^63-1)/8:=by decide
  lia
 have hfit:¬(!Builtin.List.listFitsIndex k)=true:=by rw[fitsIndex_both h1 h2];exact gE
 have adl:¬Al (its.toArray.size*k.toNat)=true:=by rw[O8 hlen];exact gE
 have hnew:KJ (λx1 x2=>x1++x2) #[] (bf (if its.toArray.isEmpty=true then 0 else k.toNat) its.toArray)=(bf k.toNat its).flatten.toArray:=by
  have f0:∀m:Nat,KJ (λx1 x2=>x1++x2) #[] (bf m its.toArray)=(bf m its).flatten.toArray:=λm=>by have:=foldl_rep its m [];rw[jS]at this;exact this
  rw[f0];cases its with
  |nil=>simp
  |cons a r'=>rw[if_neg (by simp)]
 refine wpAny_binaryOp_repeat_ref (T:="list") (U:="int") (by decide) ⟨_,e,rfl⟩ (λs'=>KH s' k t) noFill_list_mul F.fills_int_mul Uo repeat_list F.slot_int_index.lookup
  (xh Uo (KH s k t) F.entry_int_rmul (F.args_int_rmul_2 _ _) (int___rmul___int_list k t l its.toArray n)
   ⟨e,rfl,⟨_,e,rfl⟩,xh F.slot_list_mul ⟨_,e,rfl⟩ F.entry_list_mul (F.args_list_mul_2 _ _) (AutoListH.list___mul___list_int_3 l its.toArray n k t hfit ag1 adl) ⟨e,?_⟩⟩)
 rw[hnew];exact⟨.ref _,_,I.adk (t':=s.toks) (r.rep k.toNat) (by rw[len_rep,Nat.mul_comm];exact hz),rfl,q _ I.fresh⟩
end
section
variable{prog:aR}{w:aE}{A:bh}{E:ah->aj->Prop}{s:aj}
set_option maxRecDepth 100000 in
end
end L2
namespace Att
open PySem PySem.W PySem.Calls PyProof.Rows
def zN{P:kY}{h:aC}:∀(ns:List Int)(vs:List ah),WellAll P h vs (ns.map WData.int)->ve vs ns:=by
 intro ns
 induction ns with
 |nil=>
  intro vs w;rw[pU]at w;cases w;exact .nil
 |cons n ns ih=>
  intro vs w;rw[bu]at w;cases w with
  |cons a b=>
   cases a;exact .cons _ _ (ih _ b)
def Nt{l:OpenLaw}{n:Nat}(hn:l.most=aa n){P:kY}{h:aC}{args:List WData}{vals:List ah}
  (hpre:l.row.toRowW.claim.pre args=true)(hwl:WellAll P h vals args):
  ∃a vs ns,vals=[cP a]/\args=[WData.list (ns.map WData.int)]/\h.get? a=aa {cls:=.type "list",data:=.seq vs.toArray}/\ve vs ns/\ns.length<=n:=by
 have hsh:WShape.hasAll [] args [.list .int]=true:=(pre_splitW hpre).1;have hc:l.pre.holds [] {args:=args}=true:=(pre_splitW hpre).2;obtain⟨d,r,rfl,h1,h2⟩:=hasAllW_cons hsh;obtain rfl:=hasAllW_nil h2;obtain⟨xs,rfl,h3⟩:=hasW_list h1;obtain⟨ns,rfl⟩:=items_int h3;have hlen:ns.length<=n:=by
  unfold OpenLaw.pre at hc;have h4:(WTm.not (.lt (.lit (.int (n:Int))) (.len (.arg 0)))).holds [] {args:=[.list (ns.map .int)]}=true:=by have h4:=(holds_andW hc).1;rw[hn]at h4;exact h4
  have h5:=condW_of h4 (w_not (w_lt w_lit (w_len_list (w_arg rfl))));rw[aG]at h5;refine KO λq=>?_;have q':(n:Int)<((ns.length:Nat):Int):=by lia
  first
   |(rw[decide_eq_true q']at h5;exact absurd h5 (by decide))
   |(simp at h5;lia)
 cases hwl with
 |cons w1 w2=>
  cases w2;cases w1 with
  |list ho hall=>exact⟨_,_,ns,rfl,rfl,ho,zN ns _ hall,hlen⟩
def Nu(l:OpenLaw)(args:List WData):l.row.toRowW.claim.post args (.bool true) args=true:=
 postW_of (r:=l.row.toRowW) (X:=(true==true))
  (show WShape.has [] (.bool true) .bool=true by first|rfl|decide|simp[WShape.has,WShape.arms,WShape.armsAll])
  (show(WTm.eq .res (.lit (.bool true))).value [] {args:=args,res:=aa (.bool true),after:=args}=aa (.bool (true==true))from w_eq_bool (w_res rfl) w_lit) rfl
def Gb{l:OpenLaw}{n:Nat}{q:aR}{loose:List Str}{XP:(Str->Option ah)->aC->Prop}{YP:aE->aC->Prop}{d:DefRec}
  (hn:l.most=aa n)(hdf:d.params.defaults=[])
  (call:∀(w:aE)(s₀ s₁:aj)(mg mb:Str->Option ah)(fa:ae)(o:Obj)(pm cd doc:ah)(a:ae)(vs:List ah)(ns:List Int),
   Ground q loose [] XP w s₀ mg mb s₁.heap->YP w s₁.heap->
   s₁.heap.get? fa=aa o->o.data=.func (docDef d.name d.params d.body d.scope pm cd doc)->s₁.heap.CodeRec cd d.name->mg d.name=aa (.ref fa)->
   s₁.heap.get? a=aa {cls:=.type "list",data:=.seq vs.toArray}->ve vs ns->ns.length<=n->s₁.gens=#[]->
   kQ (az l.prog w) vj (.call (.ref fa) ⟨[.ref a],[]⟩) (λr s'=>r=.ok (.ret (.bool true))/\OldK s₁.heap s'.heap/\s'.os=s₁.os/\nU s'.gens) s₁):
  WalkO q loose XP YP l.row.toRowW d [] (λf vs=>PySem.call f vs):=by
 intro w s₀ s₁ mg mb G Y fa o pm cd doc dV kV ho hd hcd hD hmg hg args vals as hpre hlay hrd hwl hlo;obtain rfl:dV=.none:=Dflts.none hD hdf;obtain rfl:kV=.none:=Dflts.noKw hD;obtain⟨a,vs,ns,rfl,rfl,hobj,hints,hlen⟩:=Nt hn hpre hwl;refine enter_call (D8 (call w s₀ s₁ mg mb fa o pm cd doc a vs ns G Y ho (fd_plain hd) hcd hmg hobj hints hlen hg) λr s' hq=>?_);obtain⟨rfl,h2,h3,h4⟩:=hq;exact⟨.inl ⟨.bool true,.bool true,[],rfl,λ_=>rfl,.bool true,Nu l _,λ_=>⟨Up.nil,λ_ hm=>(nomatch hm)⟩⟩,h2,h3,h4⟩
section
variable{prog:aR}{w:aE}{A:bh}{E:ah->aj->Prop}{s:aj}{K:Frag}
def ledger(h:aC)(L d:ae):List (ae×Obj):=(bZ h.objs.size).filterMap λa=>if a=L\/a=d then none else(h.get? a).map λo=>(a,o)
end
end Att
namespace L2
open PySem PySem.Spec PyProof.Rows
theorem yL:∀{vs:List ah}{ns:List Int},ve vs ns->Vals (ns.map V.int) vs
 |_,_,.nil=>.nil
 |_,_,.cons n t h=>.cons ⟨t,rfl⟩ (yL h)
def ZR(H:Hp):Prop:=∀b,H b=none\/∃o xs,H b=aa (.A0 o (.lst xs))
def Pd{P:aR}{w:aE}{K:ak}{mg mb:Str->Option ah}{CX:Oo}{k:Nat}{fa a:ae}{fd:aL}{x:Str}{sp:Sp}{s₁:aj}{vs:List ah}{ns:List Int}
  (KX:K.In s₁.heap)(hns:s₁.heap.Ns dH mg)(hb:s₁.heap.Ns JP mb)(hbb:∀x:Str,x≠"__name__"->mb x=eO x)(hlim:s₁.heap.NoLimit)(hg:s₁.gens=#[])
  (ha:s₁.heap.get? a=aa {cls:=.type "list",data:=.seq vs.toArray})(hi:ve vs ns)(hl:ns.length<=aH)(hr:cG k vj)
  (F:∀base:aC,K.In base->base.Ns dH mg->fA P w K mg base CX k fa fd [x] sp)(hbind:∀(s:aj)(u:ah),uZ s fd ⟨[u],[]⟩ [(x,u)])
  (Cp:∀H:Hp,ZR H->fG K H a (ns.map V.int)->sp [.ref a] H (λv _=>v=.bl true) λ_ _ _=>False)
  (hCX:∀H e s',CX [] H s₁ (λ_ _ _=>False) e s'->False):
  kQ (az P w) vj (.call (.ref fa) ⟨[.ref a],[]⟩) (λr s'=>r=.ok (.ret (.bool true))/\OldK s₁.heap s'.heap/\s'.os=s₁.os/\nU s'.gens) s₁:=by
 have rv:=yL hi;have ag4:=hi.length;have core:∀H:Hp,ZR H->fG K H a (ns.map V.int)->vO P w H s₁.heap->(∀b,H b≠none->b=a)->(H a≠none->K.lookup a=none)->
   kQ (az P w) vj (.call (.ref fa) ⟨[.ref a],[]⟩) (λr s'=>r=.ok (.ret (.bool true))/\OldK s₁.heap s'.heap/\s'.os=s₁.os/\nU s'.gens) s₁:=by
  intro H hO hS hok hA hK;have KP:∀{b:ae}{o:Obj},s₁.heap.get? b=aa o->H b=none->(DF s₁.heap H).get? b=aa o:=λe n=>OE e n;have noA:∀{b:ae}{o:Obj}{es:Array DY}{ep:Nat},s₁.heap.get? b=aa o->o.data=.dict es ep->H b=none:=λ{b o es ep} e d=>by
   cases q:H b with
   |none=>rfl
   |some u=>
    have e':b=a:=hA b (by rw[q];simp);subst e';rw[ha]at e;cases e;have d':Data.seq vs.toArray _=Data.dict es ep:=d;cases d'
  have nsK:∀{b:ae}{m:Str->Option ah},s₁.heap.Ns b m->(DF s₁.heap H).Ns b m:=λ{b m}⟨o,es,ep,e,d,r⟩=>⟨o,es,ep,KP e (noA e d),d,r⟩
  have hKb:K.In (DF s₁.heap H):=λb o e=>KP (KX b o e) (by
   cases q:H b with
   |none=>rfl
   |some u=>
    have e':b=a:=hA b (by rw[q];simp);subst e';rw[hK (by rw[q];simp)]at e;cases e)
  have hM:Mod K mg (DF s₁.heap H):=⟨hKb,nsK hns,⟨mb,nsK hb,hbb⟩,let⟨mc,h1,h2⟩:=hlim;⟨mc,nsK h1,h2⟩⟩
  have e0:IG P w K mg (DF s₁.heap H) vj [] s₁ H:=⟨rfl,hM,λb o e=>S5 e,wZ (Nb _ _),trivial,λb hb=>absurd (show b∈([]:List ae)from hb) (by simp),hok,.of_eq hg⟩
  refine D8 ((F _ hKb (nsK hns)).run vj [] s₁ H ⟨[.ref a],[]⟩ [.ref a] [.ref a] _ _ hr e0 (hbind s₁ (.ref a)) (.cons rfl .nil) (Cp H hO hS)) λr s' h=>?_;cases r with
  |error e=>exact(hCX H e s' h).elim
  |ok fl=>
   cases fl with
   |next=>exact jo h
   |brk=>exact jo h
   |cont=>exact jo h
   |ret u=>
    obtain⟨v,H',os,bare,un,ag5,r',q⟩:=h;have q':v=.bl true:=q;subst q';obtain rfl:u=DB true:=r';refine⟨rfl,OldK.of_keep λb o e=>?_,os,bare⟩;cases q:H b with
    |none=>exact un.keep b o e q (by intro z;exact absurd (show b∈([]:List ae)from z) (by simp)) (by simp)
    |some u=>
     rcases hO b with z|⟨ob,xs,z⟩
     ·rw[q]at z;cases z
     ·have z2:=un.DD b ob _ z
      obtain⟨e1,_⟩:=hok b _ z;obtain⟨e2,_⟩:=ag5 b _ z2;rw[e]at e1;cases e1;exact e2
 cases hk:K.lookup a with
 |some o=>
  have e:=KX a o hk;rw[ha]at e;cases e;refine core (λ_=>none) (λ_=>.inl rfl) (.inr ⟨_,vs.toArray,_,hk,rfl,rfl,rfl,by rw[cR,ag4];exact hl,by simpa using rv⟩) (λb u z=>by have z':(none:Option HO)=aa u:=z;cases z') (λb z=>absurd rfl z) λz=>absurd rfl z
 |none=>
  refine core (λb=>if b=a then aa (.A0 {cls:=.type "list",data:=.seq vs.toArray} (.lst (ns.map V.int)))else none) (λb=>?_) (.inl (.inr ⟨{cls:=.type "list",data:=.seq vs.toArray},if_pos rfl⟩)) (λb u z=>?_) (λb z=>?_) λ_=>hk
  ·by_cases hb:b=a
   ·exact .inr ⟨_,_,if_pos hb⟩
   ·exact .inl (if_neg hb)
  ·by_cases hb:b=a
   ·have z':=(if_pos hb).symm.trans z
    cases z';subst hb;exact⟨ha,by rw[aG];exact hl,vs,_,rv,ha⟩
   ·have z':=(if_neg hb).symm.trans z
    cases z'
  ·by_cases hb:b=a
   ·exact hb
   ·exact absurd (if_neg hb) z
end L2
namespace L2
open PySem PySem.Spec PyProof.Rows
abbrev KOf{K:ak}{h:aC}(_:K.In h):ak:=K
def Uq{l:KQ}{n k:Nat}{q:aR}{loose:List Str}{XP:(Str->Option ah)->aC->Prop}{YP:aE->aC->Prop}{d:DefRec}{K:kY->ak}{CX:aE->Oo}{sp:aE->Sp}{x:Str}
  (hn:l.most=aa n)(hn2:n<=aH)(hdf:d.params.defaults=[])(hr:cG k vj)
  (hY:∀(w:aE)(h:aC),YP w h->(K w.params).In h)
  (F:∀(w:aE)(mg:Str->Option ah)(fa:ae)(h:aC),(K w.params).In h->h.Ns dH mg->mg d.name=aa (.ref fa)->
   ∃fd:aL,(∀(s:aj)(u:ah),uZ s fd ⟨[u],[]⟩ [(x,u)])/\
    ∀base:aC,(K w.params).In base->base.Ns dH mg->fA l.prog w (K w.params) mg base (CX w) k fa fd [x] (sp w))
  (Cp:∀(w:aE)(H:Hp)(a:ae)(ns:List Int),ns.length<=n->ZR H->fG (K w.params) H a (ns.map V.int)->sp w [.ref a] H (λv _=>v=.bl true) λ_ _ _=>False)
  (hCX:∀(w:aE)(H:Hp)(s:aj)(e:ah)(s':aj),CX w [] H s (λ_ _ _=>False) e s'->False):
  Ur q loose XP YP l.row.toRowW d [] (λf vs=>PySem.call f vs):=by
 refine Att.Gb hn hdf λw s₀ s₁ mg mb fa o pm cd doc a vs ns G Y ho hd hcd hmg hobj hints hlen hg=>?_;have KX:=hY w _ Y;obtain⟨fd,hb,hF⟩:=F w mg fa _ KX G.T.g hmg;exact Pd KX G.T.g G.T.b G.T.builtins G.T.nolimit hg hobj hints (iM hlen hn2) hr hF hb (λH hO hS=>Cp w H a ns hlen hO hS) λH e s'=>hCX w H s₁ e s'
end L2
namespace L2
open PySem PySem.Spec PyProof.Rows
def inClass(s:aD)(j:Nat):aD:=match s with
 |.ClassDef _ _ _ body _ _ _ _ _ _ _=>body.getD j (.Pass ⟨0,0,0,0⟩)
 |_=>.Pass ⟨0,0,0,0⟩
def iT(s:aD):Ak:=match s with
 |.FunctionDef _ a _ _ _ _ _ _ _ _=>a
 |_=>{posonlyargs:=[],args:=[],vararg:=none,kwonlyargs:=[],kw_defaults:=[],kwarg:=none,defaults:=[]}
def dq(s:aD):List aD:=match s with
 |.FunctionDef _ _ b _ _ _ _ _ _ _=>b
 |_=>[]
def au(s:aD):cU:=match s with
 |.FunctionDef _ _ _ _ _ _ sc _ _ _=>sc
 |_=>{kind:=.function,names:=[],isGenerator:=false,isCoroutine:=false}
abbrev oN:Oo:=λ_ _ _ _ _ _=>False
abbrev E0:XK:=λ_ _ _=>False
def sY{X:Cx}:Passes oN X E0:=λ_ _ _ _ _ _ _ h=>h.elim
structure Gd(K:ak)(x qual:Str)(st:aD)(f:ae)(fd:aL):Prop where
 ex:∃(oc:ah)(od:Option ae)(kV doc pm:ah)(an:Option ae)(cdv ct:ah)(Ot:Array (Option ah)),
  fd=gf x qual (iT st) (dq st) (au st) .none kV doc pm an cdv ct/\K.lookup f=aa ⟨oc,od,.func fd,Ot⟩/\xf K cdv qual=true
 kp:jP K (.ref f)=true
section
variable{P:aR}{w:aE}{K:ak}{mg:Str->Option ah}{base:aC}
def Gd.ok {x qual:Str}{st:aD}{f:ae}{fd:aL}{N ps:List Str}{k:Nat}{sp:Sp}(F:Gd K x qual st f fd)(S:bc N ps (au st))(len:∀vs H Q E,sp vs H Q E->vs.length=ps.length)
  (hbody:∀(cdv:ah)(A:bh)(outer:List Env)(s:aj)(H:Hp)(vs:List V)(Q:VK)(E:XK),cG k (A.deeper (eT qual (au st) s.heap.objs.size f cdv))->sp vs H Q E->
   ∃t,vP (ud oN P w K mg base N qual (au st) f cdv A outer s H E).JW (dq st) t/\t {nx:=λ_ H'=>Q .non H',rt:=Q} (start N vs) H):fA P w K mg base oN (k+1) f fd ps sp:=by
 obtain⟨oc,od,kV,doc,pm,an,cdv,ct,Ot,rfl,lk,hcd⟩:=F.ex;refine adg lk hcd S len λA outer s H vs Q E hr Cp=>?_;obtain⟨t,h,q⟩:=hbody cdv A outer s H vs Q E hr Cp;exact⟨t,h.JW,q⟩
def Gd.binds {x qual:Str}{st:aD}{f:ae}{fd:aL}{ps:List Str}(F:Gd K x qual st f fd)
  (h:∀(kV doc pm:ah)(an:Option ae)(cdv ct:ah)(us:List ah),us.length=ps.length->nW (gf x qual (iT st) (dq st) (au st) .none kV doc pm an cdv ct) ⟨us,[]⟩=aW (ps.zip us)):Binds K fd ps []:=by
 obtain⟨oc,od,kV,doc,pm,an,cdv,ct,Ot,rfl,lk,hcd⟩:=F.ex;exact .all (h kV doc pm an cdv ct)
def IM{x qual:Str}{st:aD}{f:ae}{oc:ah}{od an:Option ae}{Ot:Array (Option ah)}{kV doc pm cdv ct:ah}(l:K.lookup f=aa ⟨oc,od,.func (gf x qual (iT st) (dq st) (au st) .none kV doc pm an cdv ct),Ot⟩)
  (c:xf K cdv qual=true)(k:jP K (.ref f)=true):Gd K x qual st f (gf x qual (iT st) (dq st) (au st) .none kV doc pm an cdv ct):=⟨⟨oc,od,kV,doc,pm,an,cdv,ct,Ot,rfl,l,c⟩,k⟩
end
def xj{A:bh}{k:Nat}(hr:cG k A):A.units+1<gF:=xm (Nat.add_le_add_left (by decide:1<=64) _) hr.units
section
variable{X:Cx}
def pv(i:Nat){x:Str}{pos:Pos}(hN:X.N[i]?=aa x:=by rfl)(hv:yF X.env.scope x:=by omega)(hd:(x==("__debug__":Str))=false:=by decide)
  (hcd:(x==("__classdict__":Str))=false:=by decide):PE X (.Name x pos) (DJ i):=gx hN hv hd hcd
end
def yM{A B:Prop}(h:B):if false=true then A else B:=by rw[if_neg gE];exact h
def zO{A B:Prop}(h:A):if true=true then A else B:=by rw[if_pos rfl];exact h
def bD(H H':Hp):Prop:=∀b o,H b=aa o->H' b=aa o
def bD.refl (H:Hp):bD H H:=λ_ _ h=>h
def bD.trans {H H1 H2:Hp}(a:bD H H1)(b:bD H1 H2):bD H H2:=λc o h=>b c o (a c o h)
def bD.free {H H':Hp}(e:bD H H'){l:ae}(h:H' l=Option.none):H l=Option.none:=by
 cases q:H l with
 |none=>rfl
 |some o=>
  rw[e l o q]at h;cases h
def bD.seq {K:ak}{H H':Hp}{a:ae}{xs:List V}(e:bD H H')(h:fG K H a xs):fG K H' a xs:=by
 rcases h with(h|⟨o,h⟩)|h
 ·exact .inl (.inl (e _ _ h))
 ·exact .inl (.inr ⟨o,e _ _ h⟩)
 ·exact .inr h
end L2
set_option maxHeartbeats 4000000
namespace L2
open PySem PySem.Spec PyProof.Rows
section
variable{κ:Type}[DecidableEq κ]
def gP(kvs:List (κ×V))(k:κ):Option V:=(kvs.find? λkv=>decide (kv.1=k)).map (·.2)
def putK(kvs:List (κ×V))(k:κ)(v:V):List (κ×V):=
 if(kvs.any λkv=>decide (kv.1=k))=true then kvs.map (λkv=>if kv.1=k then(kv.1,v)else kv)else kvs++[(k,v)]
def am1(kvs:List (κ×V))(k:κ):List (κ×V):=kvs.filter λkv=>decide (kv.1≠k)
def jb{p:κ×V}{r:List (κ×V)}{k:κ}(e:p.1=k):gP (p::r) k=aa p.2:=by simp[gP,xn,e]
def jc{p:κ×V}{r:List (κ×V)}{k:κ}(e:¬p.1=k):gP (p::r) k=gP r k:=by simp[gP,xn,e]
theorem xo(k:κ):∀kvs:List (κ×V),(kvs.any λkv=>decide (kv.1=k))=(gP kvs k).isSome
 |[]=>rfl
 |p::r=>by
  rw[KR]
  by_cases e:p.1=k
  ·simp only [jb e,decide_eq_true e,Bool.true_or,Option.isSome_some]
  ·rw[jc e,decide_eq_false e,Bool.false_or];exact xo k r
theorem Ge(k j:κ)(y:V):∀kvs:List (κ×V),gP (kvs.map λkv=>if kv.1=k then(kv.1,y)else kv) j=(gP kvs j).map λx=>if j=k then y else x
 |[]=>rfl
 |p::r=>by
  have ih:=Ge k j y r;rw[bu]
  by_cases h:p.1=k
  ·rw[if_pos h]
   by_cases e:p.1=j
   ·rw[jb (p:=(p.1,y)) e,jb e,pW,if_pos (e.symm.trans h)]
   ·rw[jc (p:=(p.1,y)) e,jc e,ih]
  ·rw[if_neg h]
   by_cases e:p.1=j
   ·rw[jb (p:=p) e,jb e,pW,if_neg (λz=>h (e.trans z))]
   ·rw[jc (p:=p) e,jc e,ih]
theorem CP(k j:κ)(y:V):∀kvs:List (κ×V),gP kvs k=none->gP (kvs++[(k,y)]) j=if j=k then aa y else gP kvs j
 |[],_=>by
  by_cases e:k=j
  ·rw[if_pos e.symm];exact jb (p:=(k,y)) e
  ·rw[if_neg (λz=>e z.symm)];exact jc (p:=(k,y)) e
 |p::r,hn=>by
  rw[gI];have hk:¬p.1=k:=λz=>by rw[jb z]at hn;cases hn
  rw[jc hk]at hn;have ih:=CP k j y r hn
  by_cases e:p.1=j
  ·rw[jb e,jb e,if_neg (λz=>hk (e.trans z))]
  ·rw[jc e,jc e,ih]
def oO(kvs:List (κ×V))(k j:κ)(y:V):gP (putK kvs k y) j=if j=k then aa y else gP kvs j:=by
 unfold putK
 by_cases a:(kvs.any λkv=>decide (kv.1=k))=true
 ·rw[if_pos a,Ge]
  rw[xo]at a
  by_cases e:j=k
  ·obtain⟨x,hx⟩:=T9.mp a
   rw[if_pos e,e,hx,pW,if_pos rfl]
  ·rw[if_neg e]
   cases gP kvs j with
   |none=>rfl
   |some x=>rw[pW,if_neg e]
 ·rw[if_neg a]
  refine CP k j y kvs ?_;rw[xo]at a;cases q:gP kvs k with
  |none=>rfl
  |some x=>rw[q]at a;exact(a rfl).elim
def ky(kvs:List (κ×V))(k:κ)(v:V):(putK kvs k v).length<=kvs.length+1:=by
 unfold putK;split
 ·rw[aG];lia
 ·rw[b9,bQ,gJ];lia
def tP.yN {o:Option V}{u:Option ah}(r:tP o u):o.isSome=u.isSome:=by
 cases o with
 |none=>cases u with
  |none=>rfl
  |some _=>exact(show False from r).elim
 |some _=>cases u with
  |none=>exact(show False from r).elim
  |some _=>rfl
theorem tP.getD {o:Option V}{u:Option ah}{d:V}{d':ah}(r:tP o u)(rd:RelV d d'):RelV (o.getD d) (u.getD d'):=by
 cases o with
 |none=>cases u with
  |none=>exact rd
  |some _=>exact(show False from r).elim
 |some _=>cases u with
  |none=>exact(show False from r).elim
  |some _=>exact r
def KV.val {kvs:List (κ×V)}{vs:List (κ×ah)}(r:KV kvs vs)(k:κ):tP (gP kvs k) (vk vs k):=by
 unfold KV at r
 induction r with
 |nil=>exact mJ
 | @cons p q ps qs h t ih=>
  obtain⟨h1,h2⟩:=h
  by_cases e:p.1=k
  ·have e':q.1=k:=h1.symm.trans e
   have b:vk (q::qs) k=aa q.2:=by simp[vk,xn,e']
   rw[jb e,b];exact h2
  ·have e':¬q.1=k:=λz=>e (h1.trans z)
   have b:vk (q::qs) k=vk qs k:=by simp[vk,xn,e']
   rw[jc e,b];exact ih
theorem KV.any {kvs:List (κ×V)}{vs:List (κ×ah)}(r:KV kvs vs)(k:κ):(kvs.any λkv=>decide (kv.1=k))=vs.any λkv=>decide (kv.1=k):=by
 unfold KV at r
 induction r with
 |nil=>rfl
 |cons h t ih=>rw[KR,KR,ih,h.1]
def KV.ZS {kvs:List (κ×V)}{vs:List (κ×ah)}(r:KV kvs vs)(k:κ){y:V}{u:ah}(ry:RelV y u):
  KV (kvs.map λkv=>if kv.1=k then(kv.1,y)else kv) (vs.map λkv=>if kv.1=k then(kv.1,u)else kv):=by
 unfold KV at r⊢
 induction r with
 |nil=>exact .nil
 | @cons p q ps qs h t ih=>
  rw[bu,bu];refine .cons ?_ ih;obtain⟨h1,h2⟩:=h
  by_cases e:p.1=k
  ·rw[if_pos e,if_pos (h1.symm.trans e)];exact⟨h1,ry⟩
  ·rw[if_neg e,if_neg (λz=>e (h1.trans z))];exact⟨h1,h2⟩
def KV.put {kvs:List (κ×V)}{vs:List (κ×ah)}(r:KV kvs vs)(k:κ){y:V}{u:ah}(ry:RelV y u):KV (putK kvs k y) (stored vs k u):=by
 unfold putK stored;rw[r.any k]
 by_cases e:(vs.any λkv=>decide (kv.1=k))=true
 ·rw[if_pos e,if_pos e];exact r.ZS k ry
 ·rw[if_neg e,if_neg e];exact Paired.snoc r ⟨rfl,ry⟩
theorem KV.length {kvs:List (κ×V)}{vs:List (κ×ah)}(r:KV kvs vs):kvs.length=vs.length:=Paired.length r
end
def Gf{P:aR}{w:aE}{k:Key}{u:ah}(r:RelV (kV k) u):(gD P w).is k u=true:=by
 cases k with
 |inl i=>obtain⟨t,e⟩:=(show∃t,u=ah.int i t from r);subst e;exact F0 P w i t
 |inr x=>obtain⟨t,e⟩:=(show∃t,u=Ab x t from r);subst e;exact F3 P w x t
theorem CQ{P:aR}{w:aE}:∀{ks:List Key}{us:List ah},Vals (ks.map kV) us->ItemsAre (gD P w) ks us
 |[],_,r=>by rw[pU]at r;cases r;exact .nil
 |k::ks,_,r=>by
  rw[bu]at r;cases r with
  |cons h t=>exact .cons (Gf h) (CQ t)
abbrev KT(H:Hp):List (List Key×V)->List (List Key×ae×ah)->Prop:=Paired λp q=>p.1=q.1/\H q.2.1=aa (.tup (p.1.map kV))/\RelV p.2 q.2.2
def KT.val {H:Hp}{kvs:List (List Key×V)}{xs:List (List Key×ae×ah)}(r:KT H kvs xs)(k:List Key):tP (gP kvs k) ((pX xs k).map (·.2)):=by
 induction r with
 |nil=>exact mJ
 | @cons p q ps qs h t ih=>
  obtain⟨h1,_,h2⟩:=h
  by_cases e:p.1=k
  ·have e':q.1=k:=h1.symm.trans e
   have b:pX (q::qs) k=aa q.2:=by simp[pX,xn,e']
   rw[jb e,b];exact h2
  ·have e':¬q.1=k:=λz=>e (h1.trans z)
   have b:pX (q::qs) k=pX qs k:=by simp[pX,xn,e']
   rw[jc e,b];exact ih
def KT.ZS {H:Hp}{kvs:List (List Key×V)}{xs:List (List Key×ae×ah)}(r:KT H kvs xs)(k:List Key){y:V}{u:ah}(ry:RelV y u):
  KT H (kvs.map λkv=>if kv.1=k then(kv.1,y)else kv) (xs.map (putAt k u)):=by
 induction r with
 |nil=>exact .nil
 | @cons p q ps qs h t ih=>
  rw[bu,bu];refine .cons ?_ ih;obtain⟨h1,h2,h3⟩:=h;unfold putAt
  by_cases e:p.1=k
  ·rw[if_pos e,if_pos (h1.symm.trans e)];exact⟨h1,h2,ry⟩
  ·rw[if_neg e,if_neg (λz=>e (h1.trans z))];exact⟨h1,h2,h3⟩
def KT.put {H:Hp}{kvs:List (List Key×V)}{xs:List (List Key×ae×ah)}(r:KT H kvs xs)(k:List Key){b:ae}{y:V}{u:ah}(hb:H b=aa (.tup (k.map kV)))(ry:RelV y u):
  KT H (putK kvs k y) (storedH xs k b u):=by
 have e:(kvs.any λkv=>decide (kv.1=k))=(pX xs k).isSome:=by rw[xo,(r.val k).yN,Us]
 unfold putK storedH;rw[e]
 by_cases q:(pX xs k).isSome=true
 ·rw[if_pos q,if_pos q];exact r.ZS k ry
 ·rw[if_neg q,if_neg q];exact Paired.snoc r ⟨rfl,hb,ry⟩
def KT.keeps {H H':Hp}{kvs:List (List Key×V)}{xs:List (List Key×ae×ah)}(r:KT H kvs xs)(ht:∀b ys,H b=aa (.tup ys)->H' b=aa (.tup ys)):KT H' kvs xs:=
 Paired.Zk r λ_ _ z=>⟨z.1,ht _ _ z.2.1,z.2.2⟩
section
variable{P:aR}{w:aE}{H:Hp}{h:aC}{a:ae}
def Xp{u:HO}(ok:vO P w H h)(e:Rd H a u):gB P w H h a u:=e.ok ok
def CS{kvs:List (Key×V)}(ok:vO P w H h)(e:Rd H a (.dK kvs)):kvs.length<=aH/\(a==mG)=false/\∃vs,KV kvs vs/\h.DictOf (gD P w) a vs:=
 show gB P w H h a (.dK kvs)from Xp ok e
def ado{kvs:List (Key×V)}(ok:vO P w H h)(e:H a=aa (.dK kvs)):kvs.length<=aH/\(a==mG)=false/\∃vs,KV kvs vs/\h.DictOf (gD P w) a vs:=CS ok (.inl e)
def Ba{ks:List Key}(ok:vO P w H h)(e:H a=aa (.tup (ks.map kV))):(uR (gD P w)).is h ks a:=by
 obtain⟨_,its,r,o,h1,h2,n,h3⟩:=(show gB P w H h a (.tup (ks.map kV))from ok a _ e)
 exact⟨o,its.toArray,n,h1,h2,h3,by simpa using CQ r⟩
def Bb{kvs:List (List Key×V)}(ok:vO P w H h)(e:Rd H a (.dT kvs)):kvs.length<=aH/\(a==mG)=false/\
  ∃xs,KT H kvs xs/\h.DictOfH (uR (gD P w)) a xs:=by
 obtain⟨z,y,xs,r,o,es,ep,h1,h2,h3,h4,h5⟩:=(show gB P w H h a (.dT kvs)from Xp ok e)
 refine⟨z,y,xs,r,o,es,ep,h1,h2,h3,h4,λx hx=>?_,h5⟩;have all:∀{l:List (List Key×V)}{m:List (List Key×ae×ah)},KT H l m->∀x∈m,(uR (gD P w)).is h x.1 x.2.1:=by
  intro l m q
  induction q with
  |nil=>intro x hx;exact nomatch hx
  | @cons p q ps qs hq t ih=>
   intro x hx;rcases aO.mp hx with e|hx
   ·subst e
    exact Ba ok (by rw[<-hq.1];exact hq.2.1)
   ·exact ih x hx
 exact all r x hx
def adp{kvs:List (List Key×V)}(ok:vO P w H h)(e:H a=aa (.dT kvs)):kvs.length<=aH/\(a==mG)=false/\
  ∃xs,KT H kvs xs/\h.DictOfH (uR (gD P w)) a xs:=Bb ok (.inl e)
end
def rQ(H:Hp)(a:ae)(y:V)(r:Option V):Prop:=
 (∃kvs k,Rd H a (.dK kvs)/\y=kV k/\r=gP kvs k)\/∃kvs k b,Rd H a (.dT kvs)/\y=.ref b/\H b=aa (.tup (k.map kV))/\r=gP kvs k
def Gg(H:Hp)(a:ae)(y v:V)(H':Hp):Prop:=
 (∃kvs k,H a=aa (.dK kvs)/\y=kV k/\kvs.length<aH/\H'=upd H a (.dK (putK kvs k v)))\/
 ∃kvs k b,H a=aa (.dT kvs)/\y=.ref b/\H b=aa (.tup (k.map kV))/\kvs.length<aH/\H'=upd H a (.dT (putK kvs k v))
def rQ.t {H:Hp}{a b:ae}{kvs:List (List Key×V)}{k:List Key}(e:H a=aa (.dT kvs))(eb:H b=aa (.tup (k.map kV))):rQ H a (.ref b) (gP kvs k):=.inr ⟨kvs,k,b,.inl e,rfl,eb,rfl⟩
def Gg.t {H:Hp}{a b:ae}{kvs:List (List Key×V)}{k:List Key}{v:V}(e:H a=aa (.dT kvs))(eb:H b=aa (.tup (k.map kV)))(hl:kvs.length<aH):
  Gg H a (.ref b) v (upd H a (.dT (putK kvs k v))):=.inr ⟨kvs,k,b,e,rfl,eb,hl,rfl⟩
section
variable{X:Cx}{pins:List (ae×Obj)}{σ:St}{H:Hp}{s:aj}{a:ae}{y v:V}{u r:ah}{o:Option V}{A:bh}{E:ah->aj->Prop}
def Inv.big (I:Inv X pins σ H s):mG<s.heap.objs.size:=by have h:dH<s.heap.objs.size:=(I.mod.glob.keeps I.bk).lt;exact KS (by decide) h
def Nv{Q:ah->aj->Prop}(hu:A.units+1<gF)(I:Inv X pins σ H s)(g:rQ H a y (aa v))(ry:RelV y u)(h:∀w' s',Inv X pins σ H s'->RelV v w'->Q w' s'):
  aA (az X.prog X.w) A (xg (.ref a) u) Q E s:=by
 rcases g with⟨kvs,k,e,ey,l⟩|⟨kvs,k,b,e,ey,eb,l⟩
 ·subst ey
  obtain⟨z,hd,vs,rel,dd⟩:=CS I.hok e;obtain⟨w',hw,sX⟩:=tP.some_of (v:=v) (o:=vk vs k) (by rw[l];exact rel.val k);exact wpAny_getItem_of (Gf ry) dd.mapOf hw (h w' _ (I.tok _) sX)
 ·subst ey
  cases (show u=cP b from ry);obtain⟨z,hd,xs,rel,dd⟩:=Bb I.hok e;obtain⟨w',hw,sX⟩:=tP.some_of (v:=v) (o:=(pX xs k).map (·.2)) (by rw[l];exact rel.val k);obtain⟨p,hp,hp2⟩:=Option.map_eq_some_iff.mp hw;refine wpAny_getItem_heap (Eh hu) (Ba I.hok eb) dd hp ?_;rw[hp2];exact h w' _ (I.tok _) sX
def Ut{Q:ah->aj->Prop}(hu:A.units+1<gF)(I:Inv X pins σ H s)(g:rQ H a y o)(ry:RelV y u)(h:∀s',Inv X pins σ H s'->Q (.bool (!o.isSome)) s'):
  aA (az X.prog X.w) A (jm .NotIn u (.ref a)) Q E s:=by
 rcases g with⟨kvs,k,e,ey,l⟩|⟨kvs,k,b,e,ey,eb,l⟩
 ·subst ey
  obtain⟨z,hd,vs,rel,dd⟩:=CS I.hok e;refine wpAny_notIn_of (Gf ry) hd dd.mapOf ?_;rw[<-(rel.val k).yN,<-l];exact h _ (I.tok _)
 ·subst ey
  cases (show u=cP b from ry);obtain⟨z,hd,xs,rel,dd⟩:=Bb I.hok e;refine wpAny_notIn_heap (Eh hu) (Ba I.hok eb) hd dd ?_;have q:=(rel.val k).yN;rw[Us]at q;rw[<-q,<-l];exact h _ (I.tok _)
def KU{h':aC}{t':Nat}{ob:HO}(I:Inv X pins σ H s)(mu:Mut (H a))(hs:DI a s.heap h')(he:∃q,h'.get? a=aa q)(new:gB X.prog X.w (upd H a ob) h' a ob):
  Inv X pins σ (upd H a ob) {s with heap:=h',toks:=t'}:=
 I.write (x:=a) (e:=a) mu (.inl rfl) (λb q hb z=>(hs.2 b hb).trans z) he new
def ZT{P:aR}{w:aE}{H':Hp}{h':aC}{kvs:List (Key×V)}{vs:List (Key×ah)}(z:kvs.length<=aH)(hd:(a==mG)=false)(rel:KV kvs vs)(dd:h'.DictOf (gD P w) a vs):
  gB P w H' h' a (.dK kvs):=⟨z,hd,vs,rel,dd⟩
def Nx{H':Hp}{Q:Unit->aj->Prop}(hu:A.units+1<gF)(I:Inv X pins σ H s)(g:Gg H a y v H')(ry:RelV y u)(rv:RelV v r)(h:∀s',Inv X pins σ H' s'->Q () s'):
  aA (az X.prog X.w) A (Ac (.ref a) u r) Q E s:=by
 rcases g with⟨kvs,k,e,ey,l,eH⟩|⟨kvs,k,b,e,ey,eb,l,eH⟩
 ·subst ey eH
  obtain⟨z,hd,vs,rel,dd⟩:=ado I.hok e;have hz:vs.length<=aH:=by rw[<-rel.length];exact z
  have hl:(putK kvs k v).length<=aH:=by have:=ky kvs k v;lia
  refine wpAny_setItem_pairs (hsz:=hz) (Gf ry) dd λh' dd' hs=>h _ ?_;have he:∃q,h'.get? a=aa q:=let⟨q,_,_,hq,_⟩:=dd';⟨q,hq⟩
  exact KU I (by rw[e];exact mJ) hs he (ZT hl hd (rel.put k rv) dd')
 ·subst ey eH
  cases (show u=cP b from ry);obtain⟨z,hd,xs,rel,dd⟩:=adp I.hok e;have hz:xs.length<=aH:=by rw[<-Paired.length rel];exact z
  have hl:(putK kvs k v).length<=aH:=by have:=ky kvs k v;lia
  refine wpAny_setItem_heap (hsz:=hz) (Eh hu) (Ba I.hok eb) dd λh' dd' hs=>h _ ?_;obtain⟨q,es,ep,hq,h2,h3,h4,_,h5⟩:=dd';refine KU I (by rw[e];exact mJ) hs ⟨q,hq⟩ ⟨hl,hd,_,(rel.put k eb rv).keeps λc ys ec=>?_,q,es,ep,hq,h2,h3,h4,h5⟩;rw[aB (dE ec e (λz=>nomatch z))];exact ec
end
def adq(i:ao):Prop:=∀ov iv,Ec i false ov iv=operate [ov,iv] (xg ov iv)
def Uu{prog:aR}{w:aE}{A:bh}{E:ah->aj->Prop}{s:aj}{env:Env}{value slice:ao}{pos:Pos}{T id:String}{Q:ah->aj->Prop}
  (hl:typeLookup (.type T) "__getitem__"=aW (aa (.builtin id)))(hs:adq slice)
  (h:aA (az prog w) A (aw value env) (λo s₁=>aA (az prog w) A (aw slice env) (λi s₂=>s₂.TypeIs o T/\aA (az prog w) A (xg o i) Q E s₂) E s₁) E s):
  aA (az prog w) A (aw (.Subscript value slice pos) env) Q E s:=by
 refine Kx (kN h (λo s₁ h₁=>kN h₁ (λi s₂ h₂=>?_) λ_ _ x=>x) λ_ _ x=>x);obtain⟨hT,h₂⟩:=h₂;unfold Ky;refine aV ?_;rw[getitemInPython_of_ne hT.not_modules];refine aV (Ei hT hl ?_);have fin:aA (az prog w) A (Ec slice false o i) (λr s₃=>aA (az prog w) A (letTemporaryGo value o r>>=λ_=>aW r) Q E s₃) E s₂:=by rw[hs o i];exact wpAny_operating (kN h₂ (λr s₃ h₃=>aV (wpAny_letTemporaryGo (ck h₃))) λ_ _ x=>x)
 first
  |exact ck (aV fin)
  |exact aV (ck (aV fin))
  |exact aV fin
def Gi{X:Cx}{pins:List (ae×Obj)}{σ:St}{H:Hp}{s:aj}{a:ae}{y:V}{o:Option V}(I:Inv X pins σ H s)(g:rQ H a y o):s.TypeIs (.ref a) "dict":=by
 rcases g with⟨kvs,k,e,_,_⟩|⟨kvs,k,b,e,_,_,_⟩
 ·obtain⟨_,_,vs,_,dd⟩:=CS I.hok e
  exact dd.typeIs
 ·obtain⟨_,_,xs,_,dd⟩:=Bb I.hok e
  exact dd.typeIs
def adt(td ty:TE):TE:=λσ H Q=>td σ H λx H1=>ty σ H1 λy H2=>∃a v,x=.ref a/\rQ H2 a y (aa v)/\Q v H2
def Uv(ty td:TE):TE:=λσ H Q=>ty σ H λy H1=>td σ H1 λx H2=>∃a o,x=.ref a/\rQ H2 a y o/\Q (.bl (!o.isSome)) H2
def adu(td ty tv:TE):TS:=λD σ H=>tv σ H λv H1=>td σ H1 λx H2=>ty σ H2 λy H3=>∃a H4,x=.ref a/\Gg H3 a y v H4/\D.nx σ H4
section
variable{X:Cx}{o i e value:ao}{pos pos' agN:Pos}{td ty tv:TE}
def Ej(hu:X.A.units+1<gF)(ho:PE X o td)(hi:PE X i ty)(hs:adq i):PE X (.Subscript o i pos) (adt td ty):=by intro pins s σ H Q I h;refine Uu PySem.F.slot_dict_getitem.lookup hs (fz (ho pins s σ H _ I h) λu s1 ⟨x,H1,I1,rx,q1⟩=>fz (hi pins s1 σ H1 _ I1 q1) λiv s2 ⟨y,H2,I2,ry,a,v,ex,g,q2⟩=>?_);subst ex;obtain rfl:u=cP a:=rx;exact⟨Gi I2 g,Nv hu I2 g ry λw' s3 I3 sX=>⟨v,H2,I3,sX,q2⟩⟩
def yO(hu:X.A.units+1<gF)(hi:PE X i ty)(ho:PE X o td):PC X .NotIn i o (Uv ty td):=by intro pins s σ H Q I h;refine fz (hi pins s σ H _ I h) λiv s1 ⟨y,H1,I1,ry,q1⟩=>fz (ho pins s1 σ H1 _ I1 q1) λu s2 ⟨x,H2,I2,rx,a,ov,ex,g,q2⟩=>?_;subst ex;obtain rfl:u=cP a:=rx;exact Ut hu I2 g ry λs3 I3=>⟨.bl (!ov.isSome),H2,I3,rfl,q2⟩
def Am(hu:X.A.units+1<gF)(ho:PE X o td)(hi:PE X i ty)(hv:PE X value tv)(hs:fK value (aa (.Subscript o i pos')) pos.line X.env=aW false):
  PS X (.Assign [.Subscript o i pos'] value pos) (adu td ty tv):=by
 intro pins s σ H D I h;refine wpAny_Assign_Subscript (fz (hv pins s σ H _ I h) λr s1 ⟨v,H1,I1,rv,q1⟩=>fz (ho pins s1 σ H1 _ I1 q1) λu s2 ⟨x,H2,I2,rx,q2⟩=>fz (hi pins s2 σ H2 _ I2 q2) λiv s3 ⟨y,H3,I3,ry,a,H4,ex,g,q3⟩=>?_) hs;subst ex;obtain rfl:u=cP a:=rx;exact Nx hu I3 g ry rv λs4 I4=>⟨σ,H4,I4,q3⟩
end
def Pe{P:aR}{w:aE}{H:Hp}(h:aC)(hb:mG<h.objs.size):gB P w H (h.push {cls:=.type "dict",data:=.dict #[]}) h.objs.size (.dT []):=
 ⟨iR _,beq_eq_false_iff_ne.mpr (Ne.symm (du hb)),[],.nil,_,#[],0,iP _ rfl,⟨rfl,rfl,rfl⟩,rfl,rfl,Uw⟩
def ZU:TE:=λ_ H Q=>∀p,H p=none->Q (.ref p) (upd H p (.dT []))
section
variable{X:Cx}{pos:Pos}
def xp:PE X (.Dict [] [] pos) ZU:=λpins s σ H Q I h=>
 wpAny_Dict_empty ⟨.ref s.heap.objs.size,_,I.laid (a:=s.heap.objs.size) (o:=.dT []) (t':=s.toks) (λ_ _ q=>cQ _ q) (aY _) (Pe s.heap I.big),rfl,h _ (I.hok.fresh (aY _))⟩
end
end L2
namespace L2
open PySem PySem.Spec PyProof.Rows
variable{X:Cx}
structure M1(X:Cx)(o:ao)(m:Str)(apos:Pos)(e:ao)(cO:Pos):Prop where
 base:hU o m X.env (aw o X.env)=aw o X.env
 few:((bp cO (ar [e] X.env)).all (λx=> !x.1)&&(kR cO (kT [] X.env)).all (λx=>x.1.isSome)
  &&decide (([e]:List ao).length+([]:List eU).length+(if([]:List eU).isEmpty then 0 else 1)<30))=true
 line:(apos.endLine==cO.line)=true
 trees:bp cO (ar [e] X.env)=[(false,aw e X.env)]
def IsD(H:Hp)(a:ae):Prop:=(∃kvs,Rd H a (.dK kvs))\/∃kvs,Rd H a (.dT kvs)
def ZV{X:Cx}{pins:List (ae×Obj)}{σ:St}{H:Hp}{s:aj}{a:ae}(I:Inv X pins σ H s)(d:IsD H a):
  s.TypeIs (.ref a) "dict"/\(∀b,cP a=.ref b->∃ob,s.heap.get? b=aa ob/\ob.dict=none)/\(a==mG)=false:=by
 rcases d with⟨kvs,e⟩|⟨kvs,e⟩
 ·obtain⟨_,hd,vs,_,dd⟩:=CS I.hok e
  refine⟨dd.typeIs,λb q=>?_,hd⟩;cases q;obtain⟨ob,_,_,h1,h2,_⟩:=dd;exact⟨ob,h1,h2.2.1⟩
 ·obtain⟨_,hd,xs,_,dd⟩:=Bb I.hok e
  refine⟨dd.typeIs,λb q=>?_,hd⟩;cases q;obtain⟨ob,_,_,h1,h2,_⟩:=dd;exact⟨ob,h1,h2.2.1⟩
section
variable{X:Cx}{pins:List (ae×Obj)}{σ:St}{H:Hp}{s:aj}{a:ae}{y d:V}{u r:ah}{o:Option V}{A:bh}{E:ah->aj->Prop}
def ZW{Q:ah->aj->Prop}(hu:A.units+1<gF)(I:Inv X pins σ H s)(g:rQ H a y o)(ry:RelV y u)(h:∀w' s',Inv X pins σ H s'->RelV (o.getD .non) w'->Q w' s'):
  aA (az X.prog X.w) A (call (.builtin "dict.get") [.ref a,u]) Q E s:=by
 rcases g with⟨kvs,k,e,ey,l⟩|⟨kvs,k,b,e,ey,eb,l⟩
 ·subst ey
  obtain⟨z,hd,vs,rel,dd⟩:=CS I.hok e;refine KW KY dd.typeIs Ux (Uy _ _) (meets_dict_get (gD X.prog X.w) a (Gf ry) hd) ⟨_,dd.mapOf,h _ _ (I.tok _) ?_⟩;rw[l];exact(rel.val k).getD rfl
 ·subst ey
  cases (show u=cP b from ry);obtain⟨z,hd,xs,rel,dd⟩:=Bb I.hok e;refine KW KY dd.typeIs Ux (Uy _ _) (meetsH_dict_get (uR (gD X.prog X.w)) a b hd) ⟨Eh hu,k,xs,Ba I.hok eb,dd,h _ _ (I.tok _) ?_⟩;rw[l];exact(rel.val k).getD rfl
end
def ZX(td ty:TE):TE:=λσ H Q=>td σ H λx H1=>∃a,x=.ref a/\IsD H1 a/\ty σ H1 λy H2=>∃o,rQ H2 a y o/\Q (o.getD .non) H2
section
variable{X:Cx}{o e f:ao}{apos cO:Pos}{td ty tx:TE}
def Pf(hu:X.A.units+1<gF)(ho:PE X o td)(he:PE X e ty)(m:M1 X o "get" apos e cO):PE X (.Call (.Attribute o "get" apos) [e] [] cO) (ZX td ty):=by intro pins s σ H Q I h;refine wpAny_Call_method m.base m.few m.line PySem.F.plainAttrs_dict KY PySem.F.type_dict_get (fz (ho pins s σ H _ I h) λu s1 ⟨x,H1,I1,rx,a,ex,d,q1⟩=>?_);subst ex;obtain rfl:u=cP a:=rx;obtain⟨t1,t2,_⟩:=ZV I1 d;refine⟨t1,t2,?_⟩;rw[m.trees];refine KI rfl (Uj (w9 (fz (he pins s1 σ H1 _ I1 q1) λiv s2 ⟨y,H2,I2,ry,ov,g,q2⟩=>w6 ?_)));exact ZW hu I2 g ry λw' s3 I3 sX=>⟨_,H2,I3,sX,q2⟩
end
end L2
namespace DL
open PySem PySem.Spec PyProof.Rows L2
abbrev St:=L2.St
inductive D where
 |non|bl (b:Bool)|int (i:Int)|str (x:Str)|lst (xs:List D)|tup (xs:List D)|exc (n:Str)|fn (n:Str)
 deriving Inhabited
inductive R (α:Type) where
 |ok (a:α)|err (c:Str)|bad
def R.bind {α β:Type}(r:R α)(f:α->R β):R β:=match r with
 |.ok a=>f a
 |.err c=>.err c
 |.bad=>.bad
def R.of {α:Type}:Option α->R α
 |some a=>.ok a
 |none=>.bad
def R.cD {α β:Type}(a:α)(f:α->R β):(R.ok a).bind f=f a:=rfl
def R.pY {α:Type}(a:α):R.of (aa a)=.ok a:=rfl
def Good{α:Type}(E:Str->Hp->Prop)(H₀:Hp)(r:R α)(post:α->Prop):Prop:=match r with
 |.ok a=>post a
 |.err c=>∀H',bD H₀ H'->E c H'
 |.bad=>False
theorem Good.bind {α β:Type}{E:Str->Hp->Prop}{H₀:Hp}{r:R α}{k:α->R β}{post:β->Prop}(h:Good E H₀ (r.bind k) post):Good E H₀ r (λa=>Good E H₀ (k a) post):=by
 cases r with
 |ok a=>exact h
 |err c=>exact h
 |bad=>exact h
def Good.mono {α:Type}{E:Str->Hp->Prop}{H₀:Hp}{r:R α}{p q:α->Prop}(h:Good E H₀ r p)(w:∀a,r=.ok a->p a->q a):Good E H₀ r q:=by
 cases r with
 |ok a=>exact w a rfl h
 |err c=>exact h
 |bad=>exact h
def Good.KZ {α β:Type}{E:Str->Hp->Prop}{H₀:Hp}{r:R α}{k:α->R β}{p:α->Prop}{q:β->Prop}(h:Good E H₀ r p)(w:∀a,r=.ok a->p a->Good E H₀ (k a) q):Good E H₀ (r.bind k) q:=by
 cases r with
 |ok a=>exact w a rfl h
 |err c=>exact h
 |bad=>exact h
theorem Good.of {α:Type}{E:Str->Hp->Prop}{H₀:Hp}{o:Option α}{p:α->Prop}(h:Good E H₀ (R.of o) p):∃a,o=aa a/\p a:=by
 cases o with
 |none=>exact jo h
 |some a=>exact⟨a,rfl,h⟩
def KL(K:ak)(a:ae)(xs:List V):Prop:=∃(o:Obj)(its:Array ah)(n:Nat),K.lookup a=aa o/\o.cls=.type "list"/\o.dict=none/\o.data=.seq its n/\its.size<=aH/\Vals xs its.toList
def KT(K:ak)(a:ae)(xs:List V):Prop:=∃(o:Obj)(its:Array ah)(n:Nat),K.lookup a=aa o/\o.cls=.type "tuple"/\o.data=.seq its n/\its.size<=aH/\Vals xs its.toList
def zP(K:ak)(P:ae->Prop)(H:Hp)(a:ae)(vs:List V):Prop:=(P a/\Rd H a (.lst vs))\/KL K a vs
def Ny(K:ak)(P:ae->Prop)(H:Hp)(a:ae)(vs:List V):Prop:=(P a/\Rd H a (.tup vs))\/KT K a vs
def zP.sq {K:ak}{P:ae->Prop}{H:Hp}{a:ae}{vs:List V}(h:zP K P H a vs):fG K H a vs:=h.elim (λz=>.inl z.2) .inr
def Ny.sq {K:ak}{P:ae->Prop}{H:Hp}{a:ae}{vs:List V}(h:Ny K P H a vs):Ck K H a vs:=h.elim (λz=>.inl z.2) .inr
def zP.any {K:ak}{H:Hp}{a:ae}{vs:List V}(h:fG K H a vs):zP K (λ_=>True) H a vs:=h.elim (λz=>.inl ⟨trivial,z⟩) .inr
def ag6(a C:ae):aC->Prop:=λh=>∃vs,h.get? a=aa {cls:=.ref C,data:=.fields vs}
noncomputable def Is(K:ak)(P:ae->Prop)(H:Hp):D->V->Prop
 |.non,v=>v=.non
 |.bl b,v=>v=.bl b
 |.int i,v=>v=.int i
 |.str x,v=>v=.str x
 |.lst ds,v=>∃a vs,v=.ref a/\zP K P H a vs/\IsL ds vs
 |.tup ds,v=>∃a vs,v=.ref a/\Ny K P H a vs/\IsL ds vs
 |.exc n,v=>∃a C,v=.ref a/\P a/\rR K dH n=aa (aa (.ref C))/\H a=aa (.ext (ag6 a C))
 |.fn n,v=>∃a,v=.ref a/\rR K dH n=aa (aa (.ref a))
where
 IsL:List D->List V->Prop
 |[],vs=>vs=[]
 |d::ds,vs=>∃v r,vs=v::r/\Is K P H d v/\IsL ds r
abbrev IsL(K:ak)(P:ae->Prop)(H:Hp):List D->List V->Prop:=Is.IsL K P H
section
variable{K:ak}{P P':ae->Prop}{H H':Hp}
structure Ext(P P':ae->Prop)(H H':Hp):Prop where
 p:∀a o,P a->H a=aa o->P' a
 h:∀a o,P a->H a=aa o->H' a=aa o
def Ext.rd (e:Ext P P' H H'){a:ae}{u:HO}(p:P a)(r:Rd H a u):P' a/\Rd H' a u:=by
 rcases r with r|⟨o,r⟩
 ·exact⟨e.p a _ p r,.inl (e.h a _ p r)⟩
 ·exact⟨e.p a _ p r,.inr ⟨o,e.h a _ p r⟩⟩
def zP.ext (e:Ext P P' H H'){a:ae}{vs:List V}(h:zP K P H a vs):zP K P' H' a vs:=h.elim (λz=>.inl (e.rd z.1 z.2)) .inr
def Ny.ext (e:Ext P P' H H'){a:ae}{vs:List V}(h:Ny K P H a vs):Ny K P' H' a vs:=h.elim (λz=>.inl (e.rd z.1 z.2)) .inr
mutual
theorem Is.ext (e:Ext P P' H H'):∀(d:D)(v:V),Is K P H d v->Is K P' H' d v
 |.non,_,h=>h
 |.bl _,_,h=>h
 |.int _,_,h=>h
 |.str _,_,h=>h
 |.lst ds,_,⟨a,vs,e1,l,q⟩=>⟨a,vs,e1,l.ext e,IsL.ext e ds vs q⟩
 |.tup ds,_,⟨a,vs,e1,l,q⟩=>⟨a,vs,e1,l.ext e,IsL.ext e ds vs q⟩
 |.exc n,_,⟨a,C,e1,p,c,q⟩=>⟨a,C,e1,e.p a _ p q,c,e.h a _ p q⟩
 |.fn _,_,h=>h
theorem IsL.ext (e:Ext P P' H H'):∀(ds:List D)(vs:List V),IsL K P H ds vs->IsL K P' H' ds vs
 |[],_,h=>h
 |d::ds,_,⟨v,r,e1,p,q⟩=>⟨v,r,e1,Is.ext e d v p,IsL.ext e ds r q⟩
end
def Ext.same (s:bD H H'):Ext P P H H':=⟨λ_ _ p _=>p,λa o _ h=>s a o h⟩
theorem Is.same (s:bD H H'){d:D}{v:V}(h:Is K P H d v):Is K P H' d v:=Is.ext (.same s) d v h
theorem IsL.same (s:bD H H'){d:List D}{v:List V}(h:IsL K P H d v):IsL K P H' d v:=IsL.ext (.same s) d v h
def Is.weak {d:D}{v:V}(h:Is K P H d v):Is K (λ_=>True) H d v:=Is.ext ⟨λ_ _ _ _=>trivial,λ_ _ _ q=>q⟩ d v h
def IsL.weak {d:List D}{v:List V}(h:IsL K P H d v):IsL K (λ_=>True) H d v:=IsL.ext ⟨λ_ _ _ _=>trivial,λ_ _ _ q=>q⟩ d v h
def toV:D->Option V
 |.non=>aa .non
 |.bl b=>aa (.bl b)
 |.int i=>aa (.int i)
 |.str x=>aa (.str x)
 |_=>none
def Is.sc {d:D}{z:V}(h:toV d=aa z):Is K P H d z:=by
 cases d with
 |non=>cases h;rfl
 |bl b=>cases h;rfl
 |int b=>cases h;rfl
 |str b=>cases h;rfl
 |lst b=>cases h
 |exc _=>cases h
 |fn _=>cases h
 |tup b=>cases h
def Is.Xq {d:D}{z v:V}(h:toV d=aa z)(i:Is K P H d v):v=z:=by
 cases d with
 |non=>cases h;exact i
 |bl b=>cases h;exact i
 |int b=>cases h;exact i
 |str b=>cases h;exact i
 |lst b=>cases h
 |exc _=>cases h
 |fn _=>cases h
 |tup b=>cases h
theorem IsL.length:∀{ds:List D}{vs:List V},IsL K P H ds vs->vs.length=ds.length
 |[],_,h=>by subst h;rfl
 |d::ds,_,⟨v,r,e,_,q⟩=>by subst e;simp[IsL.length q]
theorem IsL.get:∀{ds:List D}{vs:List V}{i:Nat}{d:D},IsL K P H ds vs->ds[i]?=aa d->∃v,vs[i]?=aa v/\Is K P H d v
 |[],_,_,_,_,e=>by simp at e
 |d::ds,_,0,_,⟨v,r,e,p,q⟩,e2=>by subst e;simp at e2;subst e2;exact⟨v,rfl,p⟩
 |d::ds,_,i+1,_,⟨v,r,e,p,q⟩,e2=>by subst e;obtain⟨v',h1,h2⟩:=IsL.get (i:=i) q (by simpa using e2);exact⟨v',by simpa using h1,h2⟩
theorem IsL.app:∀{ds es:List D}{vs ws:List V},IsL K P H ds vs->IsL K P H es ws->IsL K P H (ds++es) (vs++ws)
 |[],_,_,_,h,q=>by have h':_=[]:=h;subst h';exact q
 |d::ds,_,_,_,⟨v,r,e,p,q⟩,q2=>by subst e;exact⟨v,_,rfl,p,IsL.app q q2⟩
def IsL.one {d:D}{v:V}(h:Is K P H d v):IsL K P H [d] [v]:=⟨v,[],rfl,h,rfl⟩
def IsL.cons {d:D}{v:V}{ds:List D}{vs:List V}(h:Is K P H d v)(q:IsL K P H ds vs):IsL K P H (d::ds) (v::vs):=⟨v,vs,rfl,h,q⟩
theorem IsL.drop:∀{ds:List D}{vs:List V}(n:Nat),IsL K P H ds vs->IsL K P H (ds.drop n) (vs.drop n)
 |_,_,0,h=>h
 |[],_,n+1,h=>by have h':_=[]:=h;subst h';exact rfl
 |d::ds,_,n+1,⟨v,r,e,p,q⟩=>by subst e;exact IsL.drop n q
theorem IsL.take:∀{ds:List D}{vs:List V}(n:Nat),IsL K P H ds vs->IsL K P H (ds.take n) (vs.take n)
 |_,_,0,_=>rfl
 |[],_,n+1,h=>by have h':_=[]:=h;subst h';exact rfl
 |d::ds,_,n+1,⟨v,r,e,p,q⟩=>by subst e;exact⟨v,_,rfl,p,IsL.take n q⟩
theorem IsL.set:∀{ds:List D}{vs:List V}{d:D}{v:V}(i:Nat),IsL K P H ds vs->Is K P H d v->IsL K P H (ds.set i d) (vs.set i v)
 |[],_,_,_,_,h,_=>by have h':_=[]:=h;subst h';exact rfl
 |d::ds,_,_,_,0,⟨v,r,e,p,q⟩,h=>by subst e;exact⟨_,_,rfl,h,q⟩
 |d::ds,_,_,_,i+1,⟨v,r,e,p,q⟩,h=>by subst e;exact⟨v,_,rfl,p,IsL.set i q h⟩
end
abbrev Uz:=Int×Int×List Int
inductive Ct where
 |ls (nss:List (List Int))|tp (nss:List (List Int))|dk (ks:List Int)|tq (n:Int) (ns:List Int)|tr (ts:List Uz)|tv (ds:List D) (ns:List Int)|tf (h:Int) (nss:List (List Int))
instance:Coe (List (List Int)) Ct:=⟨Ct.ls⟩
inductive Sl where
 |no|val (d:D)|own (xs:List D)|raw (v:V)|deep (c:Ct)
abbrev DE:=List Sl
structure Gh where
 P₀:ae->Prop
 H₀:Hp
def Gh.P (g:Gh)(os:List ae)(a:ae):Prop:=(g.P₀ a\/g.H₀ a=none)/\a∉os
structure Bc(hd:List V->HO)(H:Hp)(os:List ae)(a:ae)(as:List ae)(nss:List (List Int)):Prop where
 ma:a∈os
 ha:H a=aa (hd (as.map V.ref))
 len:as.length=nss.length
 nd:(a::as).Nodup
 it:∀(k:Nat)(b:ae)(ns:List Int),as[k]?=aa b->nss[k]?=aa ns->b∈os/\H b=aa (.lst (ns.map V.int))
def Bc.mem {hd:List V->HO}{H:Hp}{os:List ae}{a:ae}{as:List ae}{nss:List (List Int)}(d:Bc hd H os a as nss):∀x∈a::as,x∈os/\∃o,H x=aa o:=λx hx=>by
 rcases aO.mp hx with rfl|hx
 ·exact⟨d.ma,_,d.ha⟩
 ·obtain⟨k,hk,rfl⟩:=pZ hx
  have UA:k<nss.length:=by rw[<-d.len];exact hk
  have q:=d.it k _ _ (aQ hk) (aQ UA);exact⟨q.1,_,q.2⟩
def Bc.to {hd:List V->HO}{H H':Hp}{os os':List ae}{a:ae}{as:List ae}{nss:List (List Int)}(d:Bc hd H os a as nss)(h:∀x∈a::as,x∈os'/\H' x=H x):Bc hd H' os' a as nss:=
 ⟨(h a (by simp)).1,by rw[(h a (by simp)).2];exact d.ha,d.len,d.nd,λk b ns e1 e2=>by have q:=d.it k b ns e1 e2;have hb:=h b (bg _ (dm e1));exact⟨hb.1,by rw[hb.2];exact q.2⟩⟩
def TrI(H:Hp)(as:List ae)(t:Uz)(v:V):Prop:=∃b c,v=.ref b/\b∈as/\c∈as/\H b=aa (.tup [.int t.1,.int t.2.1,.ref c])/\H c=aa (.lst (t.2.2.map V.int))
structure ZY(H:Hp)(os:List ae)(a:ae)(as:List ae)(ts:List Uz):Prop where
 ma:a∈os
 na:a∉as
 mem:∀x∈as,x∈os/\∃o,H x=aa o
 at_:∃vs,H a=aa (.lst vs)/\vs.length=ts.length/\∀(k:Nat)(t:Uz)(v:V),ts[k]?=aa t->vs[k]?=aa v->TrI H as t v
def TrI.to {H H':Hp}{as as':List ae}{t:Uz}{v:V}(d:TrI H as t v)(h:∀x∈as,x∈as'/\H' x=H x):TrI H' as' t v:=by obtain⟨b,c,e,h1,h2,h3,h4⟩:=d;exact⟨b,c,e,(h b h1).1,(h c h2).1,by rw[(h b h1).2];exact h3,by rw[(h c h2).2];exact h4⟩
theorem ZY.to {H H':Hp}{os os':List ae}{a:ae}{as:List ae}{ts:List Uz}(d:ZY H os a as ts)(h:∀x∈a::as,x∈os'/\H' x=H x):ZY H' os' a as ts:=by
 obtain⟨vs,h1,h2,h3⟩:=d.at_
 refine⟨(h a (by simp)).1,d.na,λx hx=>?_,vs,by rw[(h a (by simp)).2];exact h1,h2,λk t v e1 e2=>(h3 k t v e1 e2).to λx hx=>⟨hx,(h x (bg _ hx)).2⟩⟩;obtain⟨q1,o,q2⟩:=d.mem x hx;have q:=h x (bg _ hx);exact⟨q.1,o,by rw[q.2];exact q2⟩
def kvT(ks:List Int):List (Key×V):=ks.map λk=>(gC k,V.bl true)
abbrev Dp(K:ak)(H:Hp)(os:List ae)(a:ae)(as:List ae)(c:Ct):Prop:=match c with
 |.ls nss=>Bc HO.lst H os a as nss
 |.tp nss=>Bc HO.tup H os a as nss
 |.dk ks=>a∈os/\as=[]/\H a=aa (.dK (kvT ks))
 |.tq n ns=>∃b,as=[b]/\a∈os/\b∈os/\a≠b/\H a=aa (.tup [.int n,.ref b])/\H b=aa (.lst (ns.map V.int))
 |.tr ts=>ZY H os a as ts
 |.tf h nss=>∃m bs,as=m::bs/\a∈os/\a∉as/\H a=aa (.tup [.int h,.ref m])/\Bc HO.lst H os m bs nss
 |.tv ds ns=>∃b m ws,b∈as/\m∈as/\m≠b/\a∉as/\(∀x∈a::as,x∈os/\∃o,H x=aa o)/\H a=aa (.tup [.ref m,.ref b])/\H b=aa (.lst (ns.map V.int))/\H m=aa (.lst ws)/\IsL K (λc=>c∈as/\c≠b/\c≠m) H ds ws
theorem Dp.mem {K:ak}{H:Hp}{os:List ae}{a:ae}{as:List ae}{c:Ct}(d:Dp K H os a as c):∀x∈a::as,x∈os/\∃o,H x=aa o:=by
 cases c with
 |ls nss=>exact Bc.mem d
 |tp nss=>exact Bc.mem d
 |dk ks=>
  obtain⟨h1,rfl,h2⟩:=d;intro x hx;rcases aO.mp hx with rfl|hx
  ·exact⟨h1,_,h2⟩
  ·cases hx
 |tq n ns=>
  obtain⟨b,rfl,h1,h2,h3,h4,h5⟩:=d;intro x hx;rcases aO.mp hx with rfl|hx
  ·exact⟨h1,_,h4⟩
  ·rcases aO.mp hx with rfl|hx
   ·exact⟨h2,_,h5⟩
   ·cases hx
 |tr ts=>
  have d':ZY H os a as ts:=d;intro x hx;rcases aO.mp hx with rfl|hx
  ·obtain⟨vs,h1,_⟩:=d'.at_
   exact⟨d'.ma,_,h1⟩
  ·exact d'.mem x hx
 |tv ds ns=>
  obtain⟨b,m,ws,_,_,_,_,h,_⟩:=d;exact h
 |tf h nss=>
  obtain⟨m,bs,rfl,h1,_,h3,h4⟩:=d;intro x hx;rcases aO.mp hx with rfl|hx
  ·exact⟨h1,_,h3⟩
  ·exact Bc.mem h4 x hx
theorem Dp.to {K:ak}{H H':Hp}{os os':List ae}{a:ae}{as:List ae}{c:Ct}(d:Dp K H os a as c)(h:∀x∈a::as,x∈os'/\H' x=H x):Dp K H' os' a as c:=by
 cases c with
 |ls nss=>exact Bc.to d h
 |tp nss=>exact Bc.to d h
 |dk ks=>
  obtain⟨h1,rfl,h2⟩:=d;exact⟨(h a (by simp)).1,rfl,by rw[(h a (by simp)).2];exact h2⟩
 |tq n ns=>
  obtain⟨b,rfl,h1,h2,h3,h4,h5⟩:=d;exact⟨b,rfl,(h a (by simp)).1,(h b (by simp)).1,h3,by rw[(h a (by simp)).2];exact h4,by rw[(h b (by simp)).2];exact h5⟩
 |tr ts=>exact ZY.to d h
 |tf k nss=>
  obtain⟨m,bs,rfl,h1,h2,h3,h4⟩:=d;exact⟨m,bs,rfl,(h a (by simp)).1,h2,by rw[(h a (by simp)).2];exact h3,h4.to λx hx=>h x (bg _ hx)⟩
 |tv ds ns=>
  obtain⟨b,m,ws,h1,h2,h3,h4,h5,h6,h7,h8,h9⟩:=d;have hb:=h b (bg _ h1);have hm:=h m (bg _ h2);refine⟨b,m,ws,h1,h2,h3,h4,λx hx=>?_,by rw[(h a (by simp)).2];exact h6,by rw[hb.2];exact h7,by rw[hm.2];exact h8,IsL.ext ⟨λc o p _=>p,λc o p q=>by rw[(h c (bg _ p.1)).2];exact q⟩ _ _ h9⟩;obtain⟨_,o,q⟩:=h5 x hx;exact⟨(h x hx).1,o,by rw[(h x hx).2];exact q⟩
theorem Dp.ma {K:ak}{H:Hp}{os:List ae}{a:ae}{as:List ae}{nss:List (List Int)}(d:Dp K H os a as (.ls nss)):a∈os:=Bc.ma d
theorem Dp.ha {K:ak}{H:Hp}{os:List ae}{a:ae}{as:List ae}{nss:List (List Int)}(d:Dp K H os a as (.ls nss)):H a=aa (.lst (as.map V.ref)):=Bc.ha d
theorem Dp.len {K:ak}{H:Hp}{os:List ae}{a:ae}{as:List ae}{nss:List (List Int)}(d:Dp K H os a as (.ls nss)):as.length=nss.length:=Bc.len d
theorem Dp.nd {K:ak}{H:Hp}{os:List ae}{a:ae}{as:List ae}{nss:List (List Int)}(d:Dp K H os a as (.ls nss)):(a::as).Nodup:=Bc.nd d
theorem Dp.it {K:ak}{H:Hp}{os:List ae}{a:ae}{as:List ae}{nss:List (List Int)}(d:Dp K H os a as (.ls nss)):∀(k:Nat)(b:ae)(ns:List Int),as[k]?=aa b->nss[k]?=aa ns->b∈os/\H b=aa (.lst (ns.map V.int)):=Bc.it d
structure Dps(K:ak)(A:Nat->List ae)(env:DE)(σ:St)(H:Hp)(os:List ae):Prop where
 dp:∀(i:Nat)(nss:Ct),env[i]?=aa (.deep nss)->∃a as,A i=a::as/\σ[i]?=aa (aa (.ref a))/\Dp K H os a as nss
 ow:∀(i:Nat)(nss:Ct)(j:Nat)(xs:List D)(b:ae),env[i]?=aa (.deep nss)->env[j]?=aa (.own xs)->σ[j]?=aa (aa (.ref b))->b∉A i
 dj:∀(i j:Nat)(nss pL:Ct),i≠j->env[i]?=aa (.deep nss)->env[j]?=aa (.deep pL)->∀x∈A i,x∉A j
theorem Dps.mem {K:ak}{A:Nat->List ae}{env:DE}{σ:St}{H:Hp}{os:List ae}(d:Dps K A env σ H os){i:Nat}{nss:Ct}(e:env[i]?=aa (.deep nss)):∀x∈A i,x∈os/\∃o,H x=aa o:=λx hx=>by obtain⟨a,as,h1,_,h3⟩:=d.dp i nss e;rw[h1]at hx;exact h3.mem x hx
theorem Dps.to {K:ak}{A:Nat->List ae}{env env':DE}{σ σ':St}{H H':Hp}{os os':List ae}(d:Dps K A env σ H os)
  (hd:∀(j:Nat)(nss:Ct),env'[j]?=aa (.deep nss)->env[j]?=aa (.deep nss)/\σ'[j]?=σ[j]?)
  (ho:∀(j:Nat)(xs:List D)(b:ae),env'[j]?=aa (.own xs)->σ'[j]?=aa (aa (.ref b))->(∃ys,env[j]?=aa (.own ys)/\σ[j]?=aa (aa (.ref b)))\/b∉os)
  (hH:∀(i:Nat)(nss:Ct),env[i]?=aa (.deep nss)->∀x∈A i,x∈os'/\H' x=H x):Dps K A env' σ' H' os' where
 dp i nss e:=by obtain⟨e',q⟩:=hd i nss e;obtain⟨a,as,h1,h2,h3⟩:=d.dp i nss e';exact⟨a,as,h1,by rw[q];exact h2,h3.to λx hx=>hH i nss e' x (by rw[h1];exact hx)⟩
 ow i nss j xs b e1 e2 e3:=by
  obtain⟨UB,_⟩:=hd i nss e1;rcases ho j xs b e2 e3 with⟨ys,q1,q2⟩|q
  ·exact d.ow i nss j ys b UB q1 q2
  ·exact λz=>q (d.mem UB b z).1
 dj i j nss pL hij e1 e2:=d.dj i j nss pL hij (hd i nss e1).1 (hd j pL e2).1
def Gj(K:ak)(env:DE)(σ:St)(H:Hp)(os:List ae):Prop:=∃A,Dps K A env σ H os
def Gj.none {K:ak}{env:DE}{σ:St}{H:Hp}{os:List ae}(h:∀(i:Nat)(nss:Ct),env[i]?≠aa (.deep nss)):Gj K env σ H os:=
 ⟨λ_=>[],λi nss e=>(h i nss e).elim,λi nss _ _ _ e=>(h i nss e).elim,λi _ nss _ _ e=>(h i nss e).elim⟩
structure Rel(K:ak)(g:Gh)(env:DE)(σ:St)(H:Hp)(os:List ae):Prop where
 len:σ.length=env.length
 ext:bD g.H₀ H
 val:∀(i:Nat)(d:D),env[i]?=aa (.val d)->∃v,σ[i]?=aa (aa v)/\Is K (g.P os) H d v
 own:∀(i:Nat)(xs:List D),env[i]?=aa (.own xs)->∃a vs,σ[i]?=aa (aa (.ref a))/\a∈os/\H a=aa (.lst vs)/\IsL K (g.P os) H xs vs
 inj:∀(i j:Nat)(xs ys:List D)(a:ae),env[i]?=aa (.own xs)->env[j]?=aa (.own ys)->σ[i]?=aa (aa (.ref a))->σ[j]?=aa (aa (.ref a))->i=j
 new:∀a∈os,g.H₀ a=none/\∃o,H a=aa o
 raw:∀(i:Nat)(v:V),env[i]?=aa (.raw v)->σ[i]?=aa (aa v)
 Gk:Gj K env σ H os
section
variable{K:ak}{g:Gh}{env:DE}{σ:St}{H H':Hp}{os:List ae}
theorem Rel.same (r:Rel K g env σ H os)(s:bD H H'):Rel K g env σ H' os:=
 ⟨r.len,r.ext.trans s,λi d e=>let⟨v,h1,h2⟩:=r.val i d e;⟨v,h1,h2.same s⟩,
  λi xs e=>let⟨a,vs,h1,h2,h3,h4⟩:=r.own i xs e;⟨a,vs,h1,h2,s a _ h3,h4.same s⟩,r.inj,λa ha=>⟨(r.new a ha).1,let⟨o,h⟩:=(r.new a ha).2;⟨o,s a o h⟩⟩,r.raw,by
  obtain⟨A,d⟩:=r.Gk;exact⟨A,d.to (λj nss e=>⟨e,rfl⟩) (λj xs b e q=>.inl ⟨xs,e,q⟩) λi nss e x hx=>by obtain⟨q1,o,q2⟩:=d.mem e x hx;exact⟨q1,by rw[s x o q2,q2]⟩⟩⟩
def Rel.fresh (r:Rel K g env σ H os){a:ae}(h:H a=none):g.P os a:=by refine⟨.inr (r.ext.free h),λhm=>?_⟩;obtain⟨o,e⟩:=(r.new a hm).2;rw[h]at e;cases e
def bF{p:ae}(h:H p=none)(o:HO):bD H (upd H p o):=λb u q=>by rw[aB (aX q h)];exact q
theorem Rel.set (r:Rel K g env σ H os)(i:Nat){d:D}{v:V}(h:Is K (g.P os) H d v):Rel K g (env.set i (.val d)) (σ.set i (aa v)) H os:=by
 refine⟨by simp[r.len],r.ext,λj d' e=>?_,λj xs e=>?_,λj k xs ys a e1 e2 e3 e4=>?_,r.new,λj w e=>?_,?_⟩
 ·by_cases hj:i=j
  ·subst hj
   have hi:i<env.length:=by have:=(bz.mp e).1;simpa using this
   rw[iN hi]at e;cases e;exact⟨v,by rw[iN (by rw[r.len];exact hi)],h⟩
  ·rw[aJ hj]at e
   obtain⟨v',h1,h2⟩:=r.val j d' e;exact⟨v',by rw[aJ hj];exact h1,h2⟩
 ·by_cases hj:i=j
  ·subst hj
   have hi:i<env.length:=by have:=(bz.mp e).1;simpa using this
   rw[iN hi]at e;cases e
  ·rw[aJ hj]at e
   obtain⟨a,vs,h1,h2⟩:=r.own j xs e;exact⟨a,vs,by rw[aJ hj];exact h1,h2⟩
 ·have f:∀(j:Nat)(xs:List D),(env.set i (Sl.val d))[j]?=aa (.own xs)->i≠j:=λj xs e hj=>by
   subst hj;have hi:i<env.length:=by have:=(bz.mp e).1;simpa using this
   rw[iN hi]at e;cases e
  have hj:=f j xs e1;have hk:=f k ys e2;rw[aJ hj]at e1 e3;rw[aJ hk]at e2 e4;exact r.inj j k xs ys a e1 e2 e3 e4
 ·by_cases hj:i=j
  ·subst hj
   have hi:i<env.length:=by have:=(bz.mp e).1;simpa using this
   rw[iN hi]at e;cases e
  ·rw[aJ hj]at e⊢
   exact r.raw j w e
 ·obtain⟨A,dd⟩:=r.Gk
  have f:∀(j:Nat)(sl:Sl),(env.set i (Sl.val d))[j]?=aa sl->(∀d',sl≠.val d')->i≠j/\env[j]?=aa sl:=λj sl q hn=>by
   by_cases hj:i=j
   ·subst hj
    have hi:i<env.length:=by have:=(bz.mp q).1;simpa using this
    rw[iN hi]at q;exact(hn d (cj.inj q).symm).elim
   ·rw[aJ hj]at q
    exact⟨hj,q⟩
  refine⟨A,dd.to (λj nss q=>?_) (λj xs b q z=>?_) λj nss q x hx=>⟨(dd.mem q x hx).1,rfl⟩⟩
  ·obtain⟨hj,q⟩:=f j _ q (λ_ z=>nomatch z)
   exact⟨q,by rw[aJ hj]⟩
  ·obtain⟨hj,q⟩:=f j _ q (λ_ z=>nomatch z)
   rw[aJ hj]at z;exact .inl ⟨xs,q,z⟩
def Rel.apart (r:Rel K g env σ H os){a:ae}(s:bD H H')(hn:H a=none):Ext (g.P os) (g.P (a::os)) H H':=
 ⟨λb o p e=>⟨p.1,λhm=>by
  rcases aO.mp hm with z|z
  ·rw[z,hn]at e;cases e
  ·exact p.2 z⟩,λb o _ e=>s b o e⟩
def bR{α:Type}{l:List α}{i:Nat}{x y:α}(e:(l.set i x)[i]?=aa y):y=x:=by
 have hi:i<l.length:=by have:=(bz.mp e).1;simpa using this
 rw[iN hi]at e;cases e;rfl
def yP{α:Type}{l:List α}{i j:Nat}{x y:α}(e:(l.set i x)[j]?=aa y):j<l.length:=by have:=(bz.mp e).1;simpa using this
def Rel.adw (r:Rel K g env σ H os)(s:bD H H')(i:Nat){xs:List D}{vs:List V}{a:ae}(hn:H a=none)(hH:H' a=aa (.lst vs))(h:IsL K (g.P (a::os)) H' xs vs):
  Rel K g (env.set i (.own xs)) (σ.set i (aa (.ref a))) H' (a::os):=by
 have ap:=r.apart s hn;have old:∀(j:Nat)(ys:List D),env[j]?=aa (.own ys)->σ[j]?=aa (aa (.ref a))->False:=λj ys e q=>by obtain⟨b,ws,h1,h2,h3,_⟩:=r.own j ys e;rw[q]at h1;cases h1;rw[hn]at h3;cases h3
 refine⟨by simp[r.len],r.ext.trans s,λj d' e=>?_,λj ys e=>?_,λj k ys zs b e1 e2 e3 e4=>?_,λb hb=>?_,λj w e=>?_,?_⟩
 ·by_cases hj:i=j
  ·subst hj
   exact nomatch bR e
  ·rw[aJ hj]at e
   obtain⟨v,h1,h2⟩:=r.val j d' e;exact⟨v,by rw[aJ hj];exact h1,Is.ext ap _ _ h2⟩
 ·by_cases hj:i=j
  ·subst hj
   have hi:=yP e;have e':=bR e;cases e';exact⟨a,vs,by rw[iN (by rw[r.len];exact hi)],by simp,hH,h⟩
  ·rw[aJ hj]at e
   obtain⟨b,ws,h1,h2,h3,h4⟩:=r.own j ys e;exact⟨b,ws,by rw[aJ hj];exact h1,bg _ h2,s _ _ h3,IsL.ext ap _ _ h4⟩
 ·by_cases hj:i=j
  ·subst hj
   by_cases hk:i=k
   ·exact hk
   ·have e3':=bR e3
    cases e3';rw[aJ hk]at e2 e4;exact(old k zs e2 e4).elim
  ·by_cases hk:i=k
   ·subst hk
    have e4':=bR e4;cases e4';rw[aJ hj]at e1 e3;exact(old j ys e1 e3).elim
   ·rw[aJ hj]at e1 e3
    rw[aJ hk]at e2 e4;exact r.inj j k ys zs b e1 e2 e3 e4
 ·rcases aO.mp hb with rfl|hb
  ·exact⟨r.ext.free hn,_,hH⟩
  ·obtain⟨h1,o,h2⟩:=r.new b hb
   exact⟨h1,o,s _ _ h2⟩
 ·by_cases hj:i=j
  ·subst hj
   exact nomatch bR e
  ·rw[aJ hj]at e⊢
   exact r.raw j w e
 ·obtain⟨A,dd⟩:=r.Gk
  have f:∀(j:Nat)(sl:Sl),(env.set i (Sl.own xs))[j]?=aa sl->i≠j->env[j]?=aa sl:=λj sl q hj=>by rwa [aJ hj]at q
  refine⟨A,dd.to (λj nss q=>?_) (λj ys b q z=>?_) λj nss q x hx=>?_⟩
  ·by_cases hj:i=j
   ·subst hj
    exact nomatch bR q
   ·exact⟨f j _ q hj,by rw[aJ hj]⟩
  ·by_cases hj:i=j
   ·subst hj
    have z':=bR z;cases z';exact .inr λhm=>by obtain⟨o,ho⟩:=(r.new a hm).2;rw[hn]at ho;cases ho
   ·rw[aJ hj]at z
    exact .inl ⟨ys,f j _ q hj,z⟩
  ·obtain⟨q1,o,q2⟩:=dd.mem q x hx
   exact⟨bg _ q1,by rw[s x o q2,q2]⟩
def Rel.mut (r:Rel K g env σ H os){i:Nat}{xs xs':List D}{K0:List V}{a:ae}(e:env[i]?=aa (.own xs))(hσ:σ[i]?=aa (aa (.ref a)))(ha:a∈os)(h:IsL K (g.P os) H xs' K0):
  Rel K g (env.set i (.own xs')) σ (upd H a (.lst K0)) os:=by
 have ex:Ext (g.P os) (g.P os) H (upd H a (.lst K0)):=⟨λ_ _ p _=>p,λb o p q=>by rw[aB (λz=>p.2 (by rw[z];exact ha))];exact q⟩
 refine⟨by simp[r.len],λb o q=>?_,λj d' e'=>?_,λj ys e'=>?_,λj k ys zs b e1 e2 e3 e4=>?_,λb hb=>?_,λj w e'=>?_,?_⟩
 ·rw[aB (λz=>by rw[z,(r.new a ha).1]at q;cases q)]
  exact r.ext b o q
 ·by_cases hj:i=j
  ·subst hj
   exact nomatch bR e'
  ·rw[aJ hj]at e'
   obtain⟨v,h1,h2⟩:=r.val j d' e';exact⟨v,h1,Is.ext ex _ _ h2⟩
 ·by_cases hj:i=j
  ·subst hj
   have e2:=bR e';cases e2;exact⟨a,K0,hσ,ha,aP,IsL.ext ex _ _ h⟩
  ·rw[aJ hj]at e'
   obtain⟨b,ws,h1,h2,h3,h4⟩:=r.own j ys e';have hb:b≠a:=λz=>by subst z;exact hj (r.inj i j xs ys b e e' hσ h1)
   exact⟨b,ws,h1,h2,by rw[aB hb];exact h3,IsL.ext ex _ _ h4⟩
 ·have f:∀(j:Nat)(ys:List D),(env.set i (Sl.own xs'))[j]?=aa (.own ys)->∃ys',env[j]?=aa (.own ys'):=λj ys q=>by
   by_cases hj:i=j
   ·subst hj;exact⟨xs,e⟩
   ·rw[aJ hj]at q;exact⟨ys,q⟩
  obtain⟨y1,f1⟩:=f j ys e1;obtain⟨y2,f2⟩:=f k zs e2;exact r.inj j k y1 y2 b f1 f2 e3 e4
 ·obtain⟨h1,o,h2⟩:=r.new b hb
  refine⟨h1,?_⟩
  by_cases z:b=a
  ·exact⟨_,by rw[z];exact aP⟩
  ·exact⟨o,by rw[aB z];exact h2⟩
 ·by_cases hj:i=j
  ·subst hj
   exact nomatch bR e'
  ·rw[aJ hj]at e'
   exact r.raw j w e'
 ·obtain⟨A,dd⟩:=r.Gk
  refine⟨A,dd.to (λj nss q=>?_) (λj ys b q z=>?_) λj nss q x hx=>⟨(dd.mem q x hx).1,?_⟩⟩
  ·by_cases hj:i=j
   ·subst hj
    exact nomatch bR q
   ·rw[aJ hj]at q
    exact⟨q,rfl⟩
  ·by_cases hj:i=j
   ·subst hj
    exact .inl ⟨xs,e,z⟩
   ·rw[aJ hj]at q
    exact .inl ⟨ys,q,z⟩
  ·have hxa:x≠a:=λz=>dd.ow j nss i xs a q e hσ (by rw[<-z];exact hx)
   rw[aB hxa]
def Rel.UC (r:Rel K g env σ H os){i:Nat}{xs:List D}(e:env[i]?=aa (.own xs)):∃os',Rel K g (env.set i (.val (.lst xs))) σ H os'/\∀a∈os',a∈os:=by
 obtain⟨a,vs,h1,h2,h3,h4⟩:=r.own i xs e;have ex:Ext (g.P os) (g.P (os.filter (·≠a))) H H:=⟨λb o p _=>⟨p.1,λz=>p.2 (kM.mp z).1⟩,λ_ _ _ q=>q⟩
 refine⟨os.filter (·≠a),⟨by simp[r.len],r.ext,λj d' e'=>?_,λj ys e'=>?_,λj k ys zs b e1 e2 e3 e4=>?_,λb hb=>r.new b (kM.mp hb).1,λj w e'=>?_,?_⟩,λb hb=>(kM.mp hb).1⟩
 ·by_cases hj:i=j
  ·subst hj
   have e2:=bR e';cases e2;exact⟨.ref a,h1,a,vs,rfl,.inl ⟨⟨.inr (r.new a h2).1,λz=>by simpa using(kM.mp z).2⟩,.inl h3⟩,IsL.ext ex _ _ h4⟩
  ·rw[aJ hj]at e'
   obtain⟨v,q1,q2⟩:=r.val j d' e';exact⟨v,q1,Is.ext ex _ _ q2⟩
 ·by_cases hj:i=j
  ·subst hj
   exact nomatch bR e'
  ·rw[aJ hj]at e'
   obtain⟨b,ws,q1,q2,q3,q4⟩:=r.own j ys e';have hb:b≠a:=λz=>by subst z;exact hj (r.inj i j xs ys b e e' h1 q1)
   exact⟨b,ws,q1,kM.mpr ⟨q2,by simpa using hb⟩,q3,IsL.ext ex _ _ q4⟩
 ·have f:∀(j:Nat)(ys:List D),(env.set i (Sl.val (.lst xs)))[j]?=aa (.own ys)->env[j]?=aa (.own ys):=λj ys q=>by
   by_cases hj:i=j
   ·subst hj;exact nomatch bR q
   ·rw[aJ hj]at q;exact q
  exact r.inj j k ys zs b (f j ys e1) (f k zs e2) e3 e4
 ·by_cases hj:i=j
  ·subst hj;exact nomatch bR e'
  ·rw[aJ hj]at e'
   exact r.raw j w e'
 ·obtain⟨A,dd⟩:=r.Gk
  refine⟨A,dd.to (λj nss q=>?_) (λj ys b q z=>?_) λj nss q x hx=>⟨kM.mpr ⟨(dd.mem q x hx).1,?_⟩,rfl⟩⟩
  ·by_cases hj:i=j
   ·subst hj
    exact nomatch bR q
   ·rw[aJ hj]at q
    exact⟨q,rfl⟩
  ·by_cases hj:i=j
   ·subst hj
    exact nomatch bR q
   ·rw[aJ hj]at q
    exact .inl ⟨ys,q,z⟩
  ·have:x≠a:=λz=>dd.ow j nss i xs a q e h1 (z▸hx)
   simpa using this
end
section
variable(K:ak)(E:Str->Hp->Prop)
def tD(f:DE->R D):TE:=λσ H Q=>∃g env os,Rel K g env σ H os/\Good E g.H₀ (f env) λd=>∀v H',bD H H'->Is K (g.P os) H' d v->Q v H'
def tB(f:DE->R D):TE:=λσ H Q=>∃g env os,Rel K g env σ H os/\Good E g.H₀ (f env) λd=>∀v H',bD H H'->Is K (λ_=>True) H' d v->Q v H'
def tF(f:DE->R (List D)):TE:=λσ H Q=>∃g env os,Rel K g env σ H os/\Good E g.H₀ (f env) λxs=>∀a vs H',bD H H'->H a=none->H' a=aa (.lst vs)->IsL K (g.P (a::os)) H' xs vs->Q (.ref a) H'
def tL(f:DE->R (List D)):TE:=λσ H Q=>∃g env os,Rel K g env σ H os/\Good E g.H₀ (f env) λxs=>∀a vs H',bD H H'->fG K H' a vs->IsL K (g.P os) H' xs vs->Q (.ref a) H'
def tT(f:DE->R Bool):TT:=λσ H Q=>∃g env os,Rel K g env σ H os/\Good E g.H₀ (f env) λb=>∀H',bD H H'->Q b H'
def Ou(f:DE->R (List D)):TA:=λσ H Q=>∃g env os,Rel K g env σ H os/\Good E g.H₀ (f env) λds=>∀vs H',bD H H'->IsL K (g.P os) H' ds vs->Q vs H'
def xq(f:DE->R (List D)):TA:=λσ H Q=>∃g env os,Rel K g env σ H os/\Good E g.H₀ (f env) λds=>∀vs H',bD H H'->IsL K (λ_=>True) H' ds vs->Q vs H'
end
inductive Out where
 |nx (e:DE)|bk (e:DE)|ct (e:DE)|rt (d:D)|vm (xs:List D)|Ik (nss:List (List Int))|Ov (nss:List (List Int))|Pg (q:Int×List Int)|Cu (c:Ct)
structure yA(H:Hp)(os:List ae)(H':Hp)(os':List ae):Prop where
 own:∀a∈os',a∈os\/H a=none
 grow:∀a,H' a=none->H a=none
 keep:∀a o,a∉os->H a=aa o->H' a=aa o
def yA.refl (H:Hp)(os:List ae):yA H os H os:=⟨λ_ h=>.inl h,λ_ h=>h,λ_ _ _ h=>h⟩
def yA.same {H H':Hp}(s:bD H H')(os:List ae):yA H os H' os:=⟨λ_ h=>.inl h,λ_ h=>s.free h,λ_ _ _ h=>s _ _ h⟩
def yA.trans {H H1 H2:Hp}{os os1 Xs:List ae}(a:yA H os H1 os1)(b:yA H1 os1 H2 Xs):yA H os H2 Xs where
 own:=λx h=>(b.own x h).elim (λz=>a.own x z) λz=>.inr (a.grow x z)
 grow:=λx h=>a.grow x (b.grow x h)
 keep:=λx o hn h=>b.keep x o (λz=>(a.own x z).elim hn λq=>by rw[h]at q;cases q) (a.keep x o hn h)
def yA.ext {g:Gh}{H H':Hp}{os os':List ae}(s:yA H os H' os'):Ext (g.P os) (g.P os') H H':=
 ⟨λa o p h=>⟨p.1,λz=>(s.own a z).elim p.2 λq=>by rw[h]at q;cases q⟩,λa o p h=>s.keep a o p.2 h⟩
structure Ph(hd:List V->HO)(H₀ H:Hp)(a:ae)(as:List ae)(nss:List (List Int)):Prop where
 fr:∀b∈a::as,H₀ b=none
 nd:(a::as).Nodup
 len:as.length=nss.length
 ha:H a=aa (hd (as.map V.ref))
 it:∀(k:Nat)(b:ae)(ns:List Int),as[k]?=aa b->nss[k]?=aa ns->H b=aa (.lst (ns.map V.int))
def Ph.back {hd:List V->HO}{H₀ H1 H:Hp}{a:ae}{as:List ae}{nss:List (List Int)}(d:Ph hd H1 H a as nss)(s:bD H₀ H1):Ph hd H₀ H a as nss:=⟨λb hb=>s.free (d.fr b hb),d.nd,d.len,d.ha,d.it⟩
abbrev ZZ:=Ph HO.lst
abbrev ag8:=Ph HO.tup
structure ag9(H₀ H:Hp)(a b:ae)(q:Int×List Int):Prop where
 fa:H₀ a=none
 fb:H₀ b=none
 ne:a≠b
 ha:H a=aa (.tup [.int q.1,.ref b])
 hb:H b=aa (.lst (q.2.map V.int))
def Cw(K:ak)(H₀ H:Hp)(a:ae)(c:Ct):Prop:=∃as,(∀x∈a::as,H₀ x=none)/\Dp K H (a::as) a as c
def Cw.back {K:ak}{H₀ H1 H:Hp}{a:ae}{c:Ct}(d:Cw K H1 H a c)(s:bD H₀ H1):Cw K H₀ H a c:=by obtain⟨as,h1,h2⟩:=d;exact⟨as,λx hx=>s.free (h1 x hx),h2⟩
def aha(K:ak)(g:Gh)(H:Hp)(a:ae)(ds:List D)(ns:List Int):Prop:=∃b m ws,g.H₀ a=none/\g.H₀ b=none/\g.H₀ m=none/\a≠b/\a≠m/\m≠b/\H a=aa (.tup [.ref m,.ref b])/\H b=aa (.lst (ns.map V.int))/\H m=aa (.lst ws)/\IsL K (g.P [a,b,m]) H ds ws
def ahb(K:ak)(g:Gh)(H:Hp)(a:ae):Ct->Prop
 |.tv ds ns=>aha K g H a ds ns
 |c=>Cw K g.H₀ H a c
noncomputable def jd(K:ak)(g:Gh)(H:Hp)(os:List ae)(De:Ends):Out->Prop
 |.nx e=>∀σ' H' os',Rel K g e σ' H' os'->yA H os H' os'->De.nx σ' H'
 |.bk e=>∀σ' H' os',Rel K g e σ' H' os'->yA H os H' os'->De.bk σ' H'
 |.ct e=>∀σ' H' os',Rel K g e σ' H' os'->yA H os H' os'->De.ct σ' H'
 |.rt d=>∀v H',bD g.H₀ H'->Is K (g.P []) H' d v->De.rt v H'
 |.vm xs=>∀a vs H',bD g.H₀ H'->g.H₀ a=none->H' a=aa (.lst vs)->IsL K (g.P [a]) H' xs vs->De.rt (.ref a) H'
 |.Ov nss=>∀(a:ae)(as:List ae)(H':Hp),bD g.H₀ H'->ag8 g.H₀ H' a as nss->De.rt (.ref a) H'
 |.Pg q=>∀(a b:ae)(H':Hp),bD g.H₀ H'->ag9 g.H₀ H' a b q->De.rt (.ref a) H'
 |.Ik nss=>∀(a:ae)(as:List ae)(H':Hp),bD g.H₀ H'->ZZ g.H₀ H' a as nss->De.rt (.ref a) H'
 |.Cu c=>∀(a:ae)(H':Hp),bD g.H₀ H'->ahb K g H' a c->De.rt (.ref a) H'
def jd.step {K:ak}{g:Gh}{H H1:Hp}{os os1:List ae}{De:Ends}(s:yA H os H1 os1):∀{o:Out},jd K g H os De o->jd K g H1 os1 De o
 |.nx e,h=>λσ' H' os' r z=>h σ' H' os' r (s.trans z)
 |.bk e,h=>λσ' H' os' r z=>h σ' H' os' r (s.trans z)
 |.ct e,h=>λσ' H' os' r z=>h σ' H' os' r (s.trans z)
 |.rt d,h=>h
 |.vm xs,h=>h
 |.Ov xs,h=>h
 |.Pg xs,h=>h
 |.Ik xs,h=>h
 |.Cu xs,h=>h
def tS(K:ak)(E:Str->Hp->Prop)(f:DE->R Out):TS:=λDe σ H=>∃g env os,Rel K g env σ H os/\Good E g.H₀ (f env) (jd K g H os De)
section
variable{X:Cx}{E:Str->Hp->Prop}{pos:Pos}
def imp{e:ao}{t t':TE}(h:PE X e t)(w:∀σ H Q,t' σ H Q->t σ H Q):PE X e t':=λpins s σ H Q I q=>h pins s σ H Q I (w σ H Q q)
def Z0{e:ao}{t t':TT}(h:PT X e t)(w:∀σ H Q,t' σ H Q->t σ H Q):PT X e t':=λpins s σ H Q I q=>h pins s σ H Q I (w σ H Q q)
def ady{e:ao}{t t':TT}(h:PW X e t)(w:∀σ H Q,t' σ H Q->t σ H Q):PW X e t':=λwh pins s σ H Q I q=>h wh pins s σ H Q I (w σ H Q q)
def Pj{e:List ao}{t t':TA}(h:PA X e t)(w:∀σ H Q,t' σ H Q->t σ H Q):PA X e t':=λpos pins s σ H Q I q=>h pos pins s σ H Q I (w σ H Q q)
def oQ{e:aD}{t t':TS}(h:PS X e t)(w:∀De σ H,t' De σ H->t De σ H):PS X e t':=λpins s σ H Q I q=>h pins s σ H Q I (w Q σ H q)
def Xu{e:List aD}{t t':TS}(h:vP X e t)(w:∀De σ H,t' De σ H->t De σ H):vP X e t':=λpins s σ H Q I q=>h pins s σ H Q I (w Q σ H q)
def dU(i:Nat)(env:DE):R D:=match env[i]? with
 |some (.val d)=>.ok d
 |_=>.bad
def dT(t:Uz):D:=.tup [.int t.1,.int t.2.1,.lst (t.2.2.map .int)]
noncomputable def cB(i:Nat)(env:DE):R D:=match env[i]? with
 |some (.val d)=>.ok d
 |some (.own xs)=>.ok (.lst xs)
 |some (.deep (.ls nss))=>.ok (.lst (nss.map λns=>.lst (ns.map .int)))
 |some (.deep (.tp nss))=>.ok (.tup (nss.map λns=>.lst (ns.map .int)))
 |some (.deep (.tq n ns))=>.ok (.tup [.int n,.lst (ns.map .int)])
 |some (.deep (.tr ts))=>.ok (.lst (ts.map dT))
 |some (.deep (.tf h nss))=>.ok (.tup [.int h,.lst (nss.map λns=>.lst (ns.map .int))])
 |some (.deep (.tv ds ns))=>.ok (.tup [.lst ds,.lst (ns.map .int)])
 |_=>.bad
theorem dX{K:ak}{P:ae->Prop}{H:Hp}:∀(ns:List Int),IsL K P H (ns.map D.int) (ns.map V.int)
 |[]=>rfl
 |n::ns=>⟨_,_,rfl,rfl,dX ns⟩
theorem xr{K:ak}{H:Hp}{os:List ae}:∀{as:List ae}{nss:List (List Int)},as.length=nss.length->(∀(k:Nat)(b:ae)(ns:List Int),as[k]?=aa b->nss[k]?=aa ns->b∈os/\H b=aa (.lst (ns.map V.int)))->IsL K (λ_=>True) H (nss.map λns=>.lst (ns.map D.int)) (as.map V.ref)
 |[],[],_,_=>rfl
 |[],_::_,h,_=>by simp at h
 |_::_,[],h,_=>by simp at h
 |a::as,ns::nss,h,hi=>⟨_,_,rfl,⟨a,_,rfl,.inl ⟨trivial,.inl (hi 0 a ns rfl rfl).2⟩,dX ns⟩,xr (by simpa using h) λk b ms e1 e2=>hi (k+1) b ms e1 e2⟩
theorem Gm{K:ak}{P:ae->Prop}{H:Hp}{as:List ae}(hp:∀x∈as,P x):∀{ts:List Uz}{vs:List V},vs.length=ts.length->(∀(k:Nat)(t:Uz)(v:V),ts[k]?=aa t->vs[k]?=aa v->TrI H as t v)->IsL K P H (ts.map dT) vs
 |[],[],_,_=>rfl
 |[],_::_,h,_=>by simp at h
 |_::_,[],h,_=>by simp at h
 |t::ts,v::vs,h,hi=>by obtain⟨b,c,rfl,h1,h2,h3,h4⟩:=hi 0 t v rfl rfl;exact⟨_,_,rfl,⟨b,_,rfl,.inl ⟨hp b h1,.inl h3⟩,⟨_,_,rfl,rfl,⟨_,_,rfl,rfl,⟨_,_,rfl,⟨c,_,rfl,.inl ⟨hp c h2,.inl h4⟩,dX t.2.2⟩,rfl⟩⟩⟩⟩,Gm hp (by simpa using h) λk t v e1 e2=>hi (k+1) t v e1 e2⟩
def qQ(i:Nat)(env:DE):R (List D):=match env[i]? with
 |some (.val (.lst xs))=>.ok xs
 |some (.own xs)=>.ok xs
 |_=>.bad
def nD(i:Nat){x:Str}(hN:X.N[i]?=aa x:=by rfl)(hv:yF X.env.scope x:=by omega)(hd:(x==("__debug__":Str))=false:=by decide)
  (hcd:(x==("__classdict__":Str))=false:=by decide):PE X (.Name x pos) (tD X.K E (dU i)):=imp (gx hN hv hd hcd) λσ H Q ⟨g,env,os,r,m⟩=>by
 unfold dU at m;cases e:env[i]? with
 |none=>rw[e]at m;exact m.elim
 |some sl=>
  cases sl with
  |no=>rw[e]at m;exact m.elim
  |raw _=>rw[e]at m;exact m.elim
  |deep _=>rw[e]at m;exact m.elim
  |own xs=>rw[e]at m;exact m.elim
  |val d=>
   rw[e]at m;obtain⟨v,h1,h2⟩:=r.val i d e;exact⟨v,h1,m v H (bD.refl H) h2⟩
def nB(i:Nat){x:Str}(hN:X.N[i]?=aa x:=by rfl)(hv:yF X.env.scope x:=by omega)(hd:(x==("__debug__":Str))=false:=by decide)
  (hcd:(x==("__classdict__":Str))=false:=by decide):PE X (.Name x pos) (tB X.K E (cB i)):=imp (gx hN hv hd hcd) λσ H Q ⟨g,env,os,r,m⟩=>by
 unfold cB at m;cases e:env[i]? with
 |none=>rw[e]at m;exact m.elim
 |some sl=>
  cases sl with
  |no=>rw[e]at m;exact m.elim
  |raw _=>rw[e]at m;exact m.elim
  |own xs=>
   rw[e]at m;obtain⟨a,vs,h1,_,h3,h4⟩:=r.own i xs e;exact⟨.ref a,h1,m _ H (bD.refl H) ⟨a,vs,rfl,.inl ⟨trivial,.inl h3⟩,h4.weak⟩⟩
  |deep c=>
   obtain⟨A,dd⟩:=r.Gk;obtain⟨a,as,_,h1,h3⟩:=dd.dp i c e;cases c with
   |ls nss=>
    rw[e]at m;exact⟨.ref a,h1,m _ H (bD.refl H) ⟨a,_,rfl,.inl ⟨trivial,.inl h3.ha⟩,xr h3.len h3.it⟩⟩
   |tp nss=>
    rw[e]at m;have h4:Bc HO.tup H os a as nss:=h3;exact⟨.ref a,h1,m _ H (bD.refl H) ⟨a,_,rfl,.inl ⟨trivial,.inl h4.ha⟩,xr h4.len h4.it⟩⟩
   |dk ks=>rw[e]at m;exact m.elim
   |tq n ns=>
    rw[e]at m;obtain⟨b,_,_,_,_,h4,h5⟩:=h3;exact⟨.ref a,h1,m _ H (bD.refl H) ⟨a,_,rfl,.inl ⟨trivial,.inl h4⟩,⟨_,_,rfl,rfl,⟨_,_,rfl,⟨b,_,rfl,.inl ⟨trivial,.inl h5⟩,dX ns⟩,rfl⟩⟩⟩⟩
   |tr ts=>
    rw[e]at m;have h4:ZY H os a as ts:=h3;obtain⟨vs,q1,q2,q3⟩:=h4.at_
    exact⟨.ref a,h1,m _ H (bD.refl H) ⟨a,_,rfl,.inl ⟨trivial,.inl q1⟩,Gm (λ_ _=>trivial) q2 q3⟩⟩
   |tf k nss=>
    rw[e]at m;obtain⟨b,bs,_,_,_,h4,h5⟩:=h3;exact⟨.ref a,h1,m _ H (bD.refl H) ⟨a,_,rfl,.inl ⟨trivial,.inl h4⟩,⟨_,_,rfl,rfl,⟨_,_,rfl,⟨b,_,rfl,.inl ⟨trivial,.inl h5.ha⟩,xr h5.len h5.it⟩,rfl⟩⟩⟩⟩
   |tv ds ns=>
    rw[e]at m;obtain⟨b,c,ws,_,_,_,_,_,h4,h5,h6,h7⟩:=h3;exact⟨.ref a,h1,m _ H (bD.refl H) ⟨a,_,rfl,.inl ⟨trivial,.inl h4⟩,⟨_,_,rfl,⟨c,ws,rfl,.inl ⟨trivial,.inl h6⟩,IsL.ext ⟨λ_ _ _ _=>trivial,λ_ _ _ q=>q⟩ _ _ h7⟩,⟨_,_,rfl,⟨b,_,rfl,.inl ⟨trivial,.inl h5⟩,dX ns⟩,rfl⟩⟩⟩⟩
  |val d=>
   rw[e]at m;obtain⟨v,h1,h2⟩:=r.val i d e;exact⟨v,h1,m v H (bD.refl H) h2.weak⟩
def nL(i:Nat){x:Str}(hN:X.N[i]?=aa x:=by rfl)(hv:yF X.env.scope x:=by omega)(hd:(x==("__debug__":Str))=false:=by decide)
  (hcd:(x==("__classdict__":Str))=false:=by decide):PE X (.Name x pos) (tL X.K E (qQ i)):=imp (gx hN hv hd hcd) λσ H Q ⟨g,env,os,r,m⟩=>by
 unfold qQ at m;cases e:env[i]? with
 |none=>rw[e]at m;exact m.elim
 |some sl=>
  cases sl with
  |no=>rw[e]at m;exact m.elim
  |raw _=>rw[e]at m;exact m.elim
  |deep _=>rw[e]at m;exact m.elim
  |own xs=>
   rw[e]at m;obtain⟨a,vs,h1,_,h3,h4⟩:=r.own i xs e;exact⟨.ref a,h1,m _ _ H (bD.refl H) (fG.of h3) h4⟩
  |val d=>
   cases d with
   |lst xs=>
    rw[e]at m;obtain⟨v,h1,a,vs,rfl,h3,h4⟩:=r.val i _ e;exact⟨_,h1,m _ _ H (bD.refl H) h3.sq h4⟩
   |non=>rw[e]at m;exact m.elim
   |bl _=>rw[e]at m;exact m.elim
   |int _=>rw[e]at m;exact m.elim
   |str _=>rw[e]at m;exact m.elim
   |exc _=>rw[e]at m;exact m.elim
   |fn _=>rw[e]at m;exact m.elim
   |tup _=>rw[e]at m;exact m.elim
def cI{i j}:PE X (.Constant (.int i) j pos) (tD X.K E λ_=>.ok (.int i)):=imp jD λσ H Q ⟨g,env,os,r,m⟩=>m _ H (bD.refl H) rfl
def Ow{i j}:PE X (.Constant (.bool i) j pos) (tD X.K E λ_=>.ok (.bl i)):=imp acT λσ H Q ⟨g,env,os,r,m⟩=>m _ H (bD.refl H) rfl
def cN{j}:PE X (.Constant .none j pos) (tD X.K E λ_=>.ok .non):=imp OH λσ H Q ⟨g,env,os,r,m⟩=>m _ H (bD.refl H) rfl
def PE.bB {e:ao}{f:DE->R D}(h:PE X e (tD X.K E f)):PE X e (tB X.K E f):=imp h λσ H Q ⟨g,env,os,r,m⟩=>⟨g,env,os,r,m.mono λd _ q v H' s i=>q v H' s i.weak⟩
def PE.eM {e:ao}{f:DE->R (List D)}(h:PE X e (tF X.K E f)):PE X e (tD X.K E λenv=>(f env).bind λxs=>.ok (.lst xs)):=imp h λσ H Q ⟨g,env,os,r,m⟩=>⟨g,env,os,r,m.bind.mono λd _ q a vs H' s hn hH i=>by refine q _ H' s ⟨a,vs,rfl,.inl ⟨r.fresh hn,.inl hH⟩,IsL.ext ⟨λb o p _=>⟨p.1,λz=>p.2 (bg _ z)⟩,λ_ _ _ q=>q⟩ _ _ i⟩⟩
def PE.yQ {e:ao}{f:DE->R (List D)}(h:PE X e (tF X.K E f)):PE X e (tL X.K E f):=imp h λσ H Q ⟨g,env,os,r,m⟩=>⟨g,env,os,r,m.mono λd _ q a vs H' s hn hH i=>
 q _ vs H' s (fG.of hH) (IsL.ext ⟨λb o p _=>⟨p.1,λz=>p.2 (bg _ z)⟩,λ_ _ _ q=>q⟩ _ _ i)⟩
def yB:D->R (List D)
 |.lst xs=>.ok xs
 |_=>.bad
def PE.ahc {e:ao}{f:DE->R D}(h:PE X e (tD X.K E f)):PE X e (tL X.K E λenv=>(f env).bind yB):=imp h λσ H Q ⟨g,env,os,r,m⟩=>⟨g,env,os,r,m.bind.mono λd _ q v H' s i=>by
 cases d with
 |lst xs=>
  obtain⟨a,vs,rfl,h3,h4⟩:=i;exact q a vs H' s h3.sq h4
 |non=>exact q.elim
 |bl _=>exact q.elim
 |int _=>exact q.elim
 |str _=>exact q.elim
 |exc _=>exact q.elim
 |fn _=>exact q.elim
 |tup _=>exact q.elim⟩
abbrev Tr:ae->Prop:=λ_=>True
def tQ(X:Cx)(r:R2)(k:D->D->Option D):Prop:=∀x y d,k x y=aa d->∃z,toV d=aa z/\∀H v w (Q:VK),Is X.K Tr H x v->Is X.K Tr H y w->Q z H->r v w H Q
def dN{op:wU}{r:R2}{a b:ao}{fa fb:DE->R D}{k:D->D->Option D}(ho:yJ X (kP op) r)(hk:tQ X r k)(ha:PE X a (tB X.K E fa))(hb:PE X b (tB X.K E fb)):
  PE X (.BinOp a op b pos) (tD X.K E λenv=>(fa env).bind λx=>(fb env).bind λy=>R.of (k x y)):=
 imp (wW ho ha hb) λσ H Q ⟨g,env,os,r,m⟩=>⟨g,env,os,r,m.bind.mono λx _ m1 v H1 s1 i1=>⟨g,env,os,r.same s1,m1.bind.mono λy _ m2 w H2 s2 i2=>by obtain⟨d,e,q⟩:=m2.of;obtain⟨z,hz,hk⟩:=hk x y d e;exact hk H2 v w Q (i1.same s2) i2 (q z H2 (s1.trans s2) (Is.sc hz))⟩⟩
def UD{op:rF}{r:R2}{a b:ao}{fa fb:DE->R D}{k:D->D->Option D}(ho:yJ X (jm op) r)(hk:tQ X r k)(ha:PE X a (tB X.K E fa))(hb:PE X b (tB X.K E fb))(hm:pQ op b=false):
  PE X (.Compare a [op] [b] pos) (tD X.K E λenv=>(fa env).bind λx=>(fb env).bind λy=>R.of (k x y)):=
 imp (TU ho ha hb hm) λσ H Q ⟨g,env,os,r,m⟩=>⟨g,env,os,r,m.bind.mono λx _ m1 v H1 s1 i1=>⟨g,env,os,r.same s1,m1.bind.mono λy _ m2 w H2 s2 i2=>by obtain⟨d,e,q⟩:=m2.of;obtain⟨z,hz,hk⟩:=hk x y d e;exact hk H2 v w Q (i1.same s2) i2 (q z H2 (s1.trans s2) (Is.sc hz))⟩⟩
def nk:D->R Bool
 |.bl b=>.ok b
 |_=>.bad
def dz{op:rF}{r:R2}{a b:ao}{fa fb:DE->R D}{k:D->D->Option D}(ho:yJ X (jm op) r)(hk:tQ X r k)(ha:PE X a (tB X.K E fa))(hb:PE X b (tB X.K E fb))(hm:pQ op b=false):
  PT X (.Compare a [op] [b] pos) (tT X.K E λenv=>(fa env).bind λx=>(fb env).bind λy=>(R.of (k x y)).bind nk):=
 Z0 (nV ho ha hb hm) λσ H Q ⟨g,env,os,r,m⟩=>⟨g,env,os,r,m.bind.mono λx _ m1 v H1 s1 i1=>⟨g,env,os,r.same s1,m1.bind.mono λy _ m2 w H2 s2 i2=>by
  obtain⟨d,e,q⟩:=m2.bind.of;obtain⟨z,hz,hk⟩:=hk x y d e;refine hk H2 v w _ (i1.same s2) i2 ?_;cases d with
  |bl b=>
   cases hz;exact⟨b,rfl,q H2 (s1.trans s2)⟩
  |non=>exact q.elim
  |lst _=>exact q.elim
  |int _=>exact q.elim
  |str _=>exact q.elim
  |exc _=>exact q.elim
  |fn _=>exact q.elim
  |tup _=>exact q.elim⟩⟩
def adz(X:Cx)(r:V->Hp->VK->Prop)(k:D->Option D):Prop:=∀x d,k x=aa d->∃z,toV d=aa z/\∀H v (Q:VK),Is X.K Tr H x v->Q z H->r v H Q
def Pk{op:UnaryOp}{r:V->Hp->VK->Prop}{a:ao}{fa:DE->R D}{k:D->Option D}(ho:UnR X (DW op) r)(hk:adz X r k)(ha:PE X a (tB X.K E fa)):
  PE X (.UnaryOp op a pos) (tD X.K E λenv=>(fa env).bind λx=>R.of (k x)):=
 imp (J3 ho ha) λσ H Q ⟨g,env,os,r,m⟩=>⟨g,env,os,r,m.bind.mono λx _ m1 v H1 s1 i1=>by obtain⟨d,e,q⟩:=m1.of;obtain⟨z,hz,hk⟩:=hk x d e;exact hk H1 v Q i1 (q z H1 s1 (Is.sc hz))⟩
def n8:D->D->Option D
 |.int i,.int j=>aa (.int (i-j))
 |_,_=>none
def Nz:D->D->Option D
 |.int i,.int j=> @ite _ ((-(2^64)<i/\i<2^64)\/(-(2^64)<j/\j<2^64)) (dM _) (aa (.int (i*j))) (none)
 |_,_=>none
def Gn:D->D->Option D
 |.int i,.int j=> @ite _ (0<j/\j<1073741824) (dM _) (aa (.int (i/j))) (none)
 |_,_=>none
def uh:D->D->Option D
 |.int i,.int j=> @ite _ (0<j) (dM _) (aa (.int (i%j))) (none)
 |_,_=>none
def Pn:D->D->Option D
 |.int i,.int j=> @ite _ (0<=j/\j<=1000000/\i.natAbs<2^64) (dM _) (aa (.int (i^j.toNat))) (none)
 |_,_=>none
def xt:D->Option D
 |.int i=>aa (.int (-i))
 |_=>none
def UE:D->D->Option D
 |.int i,.int j=>aa (.bl (decide (i<j)))
 |_,_=>none
def kLe:D->D->Option D
 |.int i,.int j=>aa (.bl (decide (i<=j)))
 |_,_=>none
def K1:D->D->Option D
 |.int i,.int j=>aa (.bl (decide (j<i)))
 |_,_=>none
def kGe:D->D->Option D
 |.int i,.int j=>aa (.bl (decide (j<=i)))
 |_,_=>none
def ui{g:Int->Int->V}{h:Int->Int->D}{k:D->D->Option D}(hg:∀i j,toV (h i j)=aa (g i j))(hk:∀x y d,k x y=aa d->∃i j,x=.int i/\y=.int j/\d=h i j):tQ X (J2 g) k:=λx y d e=>by obtain⟨i,j,rfl,rfl,rfl⟩:=hk x y d e;refine⟨g i j,hg i j,λH v w Q h1 h2 q=>⟨i,j,h1,h2,q⟩⟩
def xu{C:Int->Int->Prop}{g:Int->Int->V}{h:Int->Int->D}{k:D->D->Option D}(hg:∀i j,toV (h i j)=aa (g i j))(hk:∀x y d,k x y=aa d->∃i j,x=.int i/\y=.int j/\C i j/\d=h i j):tQ X (rI C g) k:=λx y d e=>by obtain⟨i,j,rfl,rfl,c,rfl⟩:=hk x y d e;refine⟨g i j,hg i j,λH v w Q h1 h2 q=>⟨i,j,h1,h2,c,q⟩⟩
def ee:tQ X (J2 λi j=>.int (i-j)) n8:=ui (h:=λi j=>.int (i-j)) (λ_ _=>rfl) λx y d e=>by unfold n8 at e;split at e<;>cases e;exact⟨_,_,rfl,rfl,rfl⟩
def yR:tQ X (J2 λi j=>.bl (decide (i<j))) UE:=ui (h:=λi j=>.bl (decide (i<j))) (λ_ _=>rfl) λx y d e=>by unfold UE at e;split at e<;>cases e;exact⟨_,_,rfl,rfl,rfl⟩
def Z1:tQ X (J2 λi j=>.bl (decide (i<=j))) kLe:=ui (h:=λi j=>.bl (decide (i<=j))) (λ_ _=>rfl) λx y d e=>by unfold kLe at e;split at e<;>cases e;exact⟨_,_,rfl,rfl,rfl⟩
def oU:tQ X (J2 λi j=>.bl (decide (j<i))) K1:=ui (h:=λi j=>.bl (decide (j<i))) (λ_ _=>rfl) λx y d e=>by unfold K1 at e;split at e<;>cases e;exact⟨_,_,rfl,rfl,rfl⟩
def Ek:tQ X (rI TF λi j=>.int (i*j)) Nz:=xu (h:=λi j=>.int (i*j)) (λ_ _=>rfl) λx y d e=>by
 unfold Nz at e;split at e
 ·split at e
  ·rename_i i j c
   cases e;exact⟨i,j,rfl,rfl,c,rfl⟩
  ·cases e
 ·cases e
def xw:tQ X (rI ac4 λi j=>.int (i/j)) Gn:=xu (h:=λi j=>.int (i/j)) (λ_ _=>rfl) λx y d e=>by
 unfold Gn at e;split at e
 ·split at e
  ·rename_i i j c
   cases e;exact⟨i,j,rfl,rfl,c,rfl⟩
  ·cases e
 ·cases e
def jr:tQ X (rI (λ_ j=>0<j) λi j=>.int (i%j)) uh:=xu (h:=λi j=>.int (i%j)) (λ_ _=>rfl) λx y d e=>by
 unfold uh at e;split at e
 ·split at e
  ·rename_i i j c
   cases e;exact⟨i,j,rfl,rfl,c,rfl⟩
  ·cases e
 ·cases e
def UG:tQ X (rI Nm λi j=>.int (i^j.toNat)) Pn:=xu (h:=λi j=>.int (i^j.toNat)) (λ_ _=>rfl) λx y d e=>by
 unfold Pn at e;split at e
 ·split at e
  ·rename_i i j c
   cases e;exact⟨i,j,rfl,rfl,c,rfl⟩
  ·cases e
 ·cases e
def kZ:adz X (rU λi=>.int (-i)) xt:=λx d e=>by unfold xt at e;split at e<;>cases e;exact⟨_,rfl,λH v Q h1 q=>⟨_,h1,q⟩⟩
def Bd{a:ao}{f:DE->R Bool}(h:PT X a (tT X.K E f)):PT X (.UnaryOp .Not a pos) (tT X.K E λenv=>(f env).bind λb=>.ok (!b)):=
 Z0 (Zp h) λσ H Q ⟨g,env,os,r,m⟩=>⟨g,env,os,r,m.bind.mono λb _ q H' s=>q H' s⟩
def Gq{a:ao}{f:DE->R Bool}(h:PT X a (tT X.K E f)):PW X (.BoolOp .And [a] pos) (tT X.K E f):=pw_and1 h
def Cy{a:ao}{f:DE->R Bool}(h:PT X a (tT X.K E f)):PW X (.BoolOp .Or [a] pos) (tT X.K E f):=pw_or1 h
def CT{a b:ao}{rest:List ao}{f k:DE->R Bool}(h:PT X a (tT X.K E f))(h2:PW X (.BoolOp .And (b::rest) pos) (tT X.K E k)):PW X (.BoolOp .And (a::b::rest) pos) (tT X.K E λenv=>(f env).bind λt=>if t=true then k env else .ok false):=
 ady (pw_and h h2) λσ H Q ⟨g,env,os,r,m⟩=>⟨g,env,os,r,m.bind.mono λt _ q H' s=>by
  cases t with
  |true=>exact⟨g,env,os,r.same s,Good.mono (show Good E g.H₀ (k env) _ from q) λb _ q2 H2 s2=>q2 H2 (s.trans s2)⟩
  |false=>exact q H' s⟩
def wz{a b:ao}{rest:List ao}{f k:DE->R Bool}(h:PT X a (tT X.K E f))(h2:PW X (.BoolOp .Or (b::rest) pos) (tT X.K E k)):PW X (.BoolOp .Or (a::b::rest) pos) (tT X.K E λenv=>(f env).bind λt=>if t=true then .ok true else k env):=
 ady (pw_or h h2) λσ H Q ⟨g,env,os,r,m⟩=>⟨g,env,os,r,m.bind.mono λt _ q H' s=>by
  cases t with
  |false=>exact⟨g,env,os,r.same s,Good.mono (show Good E g.H₀ (k env) _ from q) λb _ q2 H2 s2=>q2 H2 (s.trans s2)⟩
  |true=>exact q H' s⟩
def Em{e:ao}{f:DE->R D}(h:PE X e (tB X.K E f))(he:∀whole,isTrue e X.env whole=(do let v<-whole;uS e.pos;jO [v] (truthy v)):=by intro _;rfl):PT X e (tT X.K E λenv=>(f env).bind nk):=
 Z0 (Zo h he) λσ H Q ⟨g,env,os,r,m⟩=>⟨g,env,os,r,m.bind.mono λd _ q v H' s i=>by
  cases d with
  |bl b=>exact⟨b,i,q H' s⟩
  |non=>exact q.elim
  |lst _=>exact q.elim
  |int _=>exact q.elim
  |str _=>exact q.elim
  |exc _=>exact q.elim
  |fn _=>exact q.elim
  |tup _=>exact q.elim⟩
def ahe{op}{a:ao}{f:DE->R D}(h:PE X a (tD X.K E f)):PE X (.BoolOp op [a] pos) (tD X.K E f):=Zq h
def ahf{a b:ao}{rest:List ao}{f k:DE->R D}(h:PE X a (tB X.K E f))(h2:PE X (.BoolOp .And (b::rest) pos) (tD X.K E k)):PE X (.BoolOp .And (a::b::rest) pos) (tD X.K E λenv=>(f env).bind λx=>(nk x).bind λt=>if t=true then k env else .ok (.bl false)):=
 imp (Zs h h2) λσ H Q ⟨g,env,os,r,m⟩=>⟨g,env,os,r,m.bind.mono λd _ q v H' s i=>by
  cases d with
  |bl b=>
   refine⟨b,i,?_⟩;cases b with
   |true=>
    rw[if_pos rfl];exact⟨g,env,os,r.same s,Good.mono (show Good E g.H₀ (k env) _ from q) λb _ q2 v2 H2 s2 i2=>q2 v2 H2 (s.trans s2) i2⟩
   |false=>
    rw[if_neg gE];exact q _ H' s rfl
  |non=>exact q.elim
  |lst _=>exact q.elim
  |int _=>exact q.elim
  |str _=>exact q.elim
  |exc _=>exact q.elim
  |fn _=>exact q.elim
  |tup _=>exact q.elim⟩
def vIf{c a b:ao}{fc:DE->R Bool}{fa fb:DE->R D}(hc:PT X c (tT X.K E fc))(ha:PE X a (tD X.K E fa))(hb:PE X b (tD X.K E fb)):PE X (.IfExp c a b pos) (tD X.K E λenv=>(fc env).bind λt=>if t=true then fa env else fb env):=
 imp (OJ hc ha hb) λσ H Q ⟨g,env,os,r,m⟩=>⟨g,env,os,r,m.bind.mono λt _ q H' s=>by
  cases t with
  |true=>
   rw[if_pos rfl];exact⟨g,env,os,r.same s,Good.mono (show Good E g.H₀ (fa env) _ from q) λb _ q2 v2 H2 s2 i2=>q2 v2 H2 (s.trans s2) i2⟩
  |false=>
   rw[if_neg gE];exact⟨g,env,os,r.same s,Good.mono (show Good E g.H₀ (fb env) _ from q) λb _ q2 v2 H2 s2 i2=>q2 v2 H2 (s.trans s2) i2⟩⟩
def cH:PA X [] (Ou X.K E λ_=>.ok []):=Pj bA λσ H Q ⟨g,env,os,r,m⟩=>m [] H (bD.refl H) rfl
def cF:PA X [] (xq X.K E λ_=>.ok []):=Pj bA λσ H Q ⟨g,env,os,r,m⟩=>m [] H (bD.refl H) rfl
def aZ{e:ao}{es:List ao}{f:DE->R D}{k:DE->R (List D)}(ha:PE X e (tD X.K E f))(hr:PA X es (Ou X.K E k))(hs:ar (e::es) X.env=(false,aw e X.env)::ar es X.env:=by rfl):
  PA X (e::es) (Ou X.K E λenv=>(f env).bind λx=>(k env).bind λxs=>.ok (x::xs)):=
 Pj (aS ha hr hs) λσ H Q ⟨g,env,os,r,m⟩=>⟨g,env,os,r,m.bind.mono λx _ m1 v H1 s1 i1=>⟨g,env,os,r.same s1,m1.bind.mono λxs _ m2 vs H2 s2 i2=>m2 (v::vs) H2 (s1.trans s2) (.cons (i1.same s2) i2)⟩⟩
def aN{e:ao}{es:List ao}{f:DE->R D}{k:DE->R (List D)}(ha:PE X e (tB X.K E f))(hr:PA X es (xq X.K E k))(hs:ar (e::es) X.env=(false,aw e X.env)::ar es X.env:=by rfl):
  PA X (e::es) (xq X.K E λenv=>(f env).bind λx=>(k env).bind λxs=>.ok (x::xs)):=
 Pj (aS ha hr hs) λσ H Q ⟨g,env,os,r,m⟩=>⟨g,env,os,r,m.bind.mono λx _ m1 v H1 s1 i1=>⟨g,env,os,r.same s1,m1.bind.mono λxs _ m2 vs H2 s2 i2=>m2 (v::vs) H2 (s1.trans s2) (.cons (i1.same s2) i2)⟩⟩
def fit{α:Type}(xs:List α):R (List α):= @ite _ (xs.length<=aH) (dM _) (.ok xs) (.bad)
theorem Good.fit {α:Type}{H₀:Hp}{xs:List α}{p:List α->Prop}(h:Good E H₀ (fit xs) p):xs.length<=aH/\p xs:=by
 unfold DL.fit at h;split at h
 ·rename_i c
  exact⟨c,h⟩
 ·exact h.elim
def NB{K:ak}{g:Gh}{env:DE}{σ:St}{H H1:Hp}{os:List ae}{ds:List D}{vs:List V}{p:ae}(r:Rel K g env σ H os)(s1:bD H H1)(hp:H1 p=none)(i:IsL K (g.P os) H1 ds vs):
  bD H (upd H1 p (.lst vs))/\H p=none/\upd H1 p (.lst vs) p=aa (.lst vs)/\IsL K (g.P (p::os)) (upd H1 p (.lst vs)) ds vs:=
 ⟨s1.trans (bF hp _),s1.free hp,aP,IsL.ext ((r.same s1).apart (bF hp _) hp) _ _ i⟩
def pM{es:List ao}{f:DE->R (List D)}(h:PA X es (Ou X.K E f)):PE X (.List es pos) (tF X.K E λenv=>(f env).bind fit):=
 imp (wy h) λσ H Q ⟨g,env,os,r,m⟩=>⟨g,env,os,r,m.bind.mono λds _ m1 vs H1 s1 i1=>by obtain⟨z,q⟩:=m1.fit;refine⟨by rw[i1.length];exact z,λp hp=>?_⟩;obtain⟨a1,a2,a3,a4⟩:=NB r s1 hp i1;exact q p vs _ a1 a2 a3 a4⟩
def vR{es:List ao}{x1}{f:DE->R (List D)}(h:PA X es (Ou X.K E f)):PE X (.Tuple es x1 pos) (tD X.K E λenv=>((f env).bind fit).bind λds=>.ok (.tup ds)):=
 imp (wx h) λσ H Q ⟨g,env,os,r,m⟩=>⟨g,env,os,r,m.bind.bind.mono λds _ m1 vs H1 s1 i1=>by obtain⟨z,q⟩:=m1.fit;refine⟨by rw[i1.length];exact z,λp hp=>?_⟩;exact q _ _ (s1.trans (bF hp _)) ⟨p,vs,rfl,.inl ⟨(r.same s1).fresh hp,.inl aP⟩,i1.same (bF hp _)⟩⟩
end
section
variable{X:Cx}{E:Str->Hp->Prop}{pos:Pos}
def adA(K:ak):R2:=λx y H Q=>∃l b xs zs,x=.ref l/\y=.ref b/\fG K H l xs/\fG K H b zs/\xs.length+zs.length<=aH/\∀p,H p=none->Q (.ref p) (upd H p (.lst (xs++zs)))
def UH:yJ X (kP .Add) (adA X.K):=by
 intro pins s σ H x y v u Q I rx ry h;obtain⟨l,b,xs,zs,rfl,rfl,hH,hB,hz,q⟩:=h;cases rx;cases ry;obtain⟨its,r,p1,z1⟩:=I.list hH;obtain⟨its2,r2,p2,z2⟩:=I.list hB;have hl:=r.length;have hl2:=r2.length;obtain⟨o1,n1,e1,c1,d1,t1⟩:=p1;obtain⟨o2,n2,e2,c2,d2,t2⟩:=p2;obtain⟨oc,od,oda,Ot⟩:=o1;obtain⟨oc2,od2,ahh,ahi⟩:=o2;have c1':oc=_:=c1;have d1':od=_:=d1;have t1':oda=_:=t1;have c2':oc2=_:=c2;have d2':od2=_:=d2;have t2':ahh=_:=t2;subst c1' d1' t1' c2' d2' t2';have ea:its.toArray++its2.toArray=(its++its2).toArray:=by simp
 refine concat_meets ⟨_,e1,rfl⟩ ⟨_,e2,rfl⟩ noFill_list_add seq_list_add PySem.F.slot_list_add PySem.F.entry_list_add (PySem.F.args_list_add_2 _ _) (list_addW l b its.toArray its2.toArray n1 n2 none none Ot ahi (by rw[cR,cR];lia)) ⟨e1,e2,?_⟩;rw[ea];exact⟨.ref _,_,I.adk (t':=s.toks) (r.append r2) (by rw[b9];lia),rfl,q _ I.fresh⟩
def En{a b:ao}{fa fb:DE->R (List D)}(ha:PE X a (tL X.K E fa))(hb:PE X b (tL X.K E fb)):PE X (.BinOp a .Add b pos) (tF X.K E λenv=>(fa env).bind λx=>(fb env).bind λy=>fit (x++y)):=
 imp (wW UH ha hb) λσ H Q ⟨g,env,os,r,m⟩=>⟨g,env,os,r,m.bind.mono λx _ m1 a1 v1 H1 s1 q1 i1=>⟨g,env,os,r.same s1,m1.bind.mono λy _ m2 a2 v2 H2 s2 q2 i2=>by obtain⟨z,q⟩:=m2.fit;rw[b9]at z;refine⟨a1,a2,v1,v2,rfl,rfl,s2.seq q1,q2,by rw[i1.length,i2.length];exact z,λp hp=>?_⟩;obtain⟨b1,b2,b3,b4⟩:=NB r (s1.trans s2) hp ((i1.same s2).app i2);exact q p _ _ b1 b2 b3 b4⟩⟩
def tO(K:ak)(E:Str->Hp->Prop)(f:DE->R (Option Int)):TO:=λσ H Q=>∃g env os,Rel K g env σ H os/\Good E g.H₀ (f env) λo=>∀H',bD H H'->Q o H'
def adB{e:Option ao}{t t':TO}(h:L2.PO X e t)(w:∀σ H Q,t' σ H Q->t σ H Q):L2.PO X e t':=λpins s σ H Q I q=>h pins s σ H Q I (w σ H Q q)
def oNo:L2.PO X none (tO X.K E λ_=>.ok none):=adB Ku λσ H Q ⟨g,env,os,r,m⟩=>m H (bD.refl H)
def Sx:D->R (Option Int)
 |.int i=>.ok (aa i)
 |_=>.bad
def Gr{e:ao}{f:DE->R D}(h:PE X e (tB X.K E f)):L2.PO X (aa e) (tO X.K E λenv=>(f env).bind Sx):=adB (Kv h) λσ H Q ⟨g,env,os,r,m⟩=>⟨g,env,os,r,m.bind.mono λd _ q v H' s i=>by
 cases d with
 |int k=>exact⟨k,i,q H' s⟩
 |non=>exact q.elim
 |bl _=>exact q.elim
 |lst _=>exact q.elim
 |str _=>exact q.elim
 |exc _=>exact q.elim
 |fn _=>exact q.elim
 |tup _=>exact q.elim⟩
def cut{α:Type}(xs:List α)(lo hi:Option Int):List α:=(xs.drop (HT.A8 xs.length 0 lo)).take (HT.A8 xs.length xs.length hi-HT.A8 xs.length 0 lo)
theorem IsL.cut {K:ak}{P:ae->Prop}{H:Hp}{ds:List D}{vs:List V}(h:IsL K P H ds vs)(lo hi:Option Int):IsL K P H (DL.cut ds lo hi) (Cq vs lo hi):=by unfold DL.cut Cq;rw[h.length];exact(h.drop _).take _
def wA{e:ao}{lo hi:Option ao}{f:DE->R (List D)}{fl fh:DE->R (Option Int)}{p2:Pos}(he:PE X e (tL X.K E f))(hl:L2.PO X lo (tO X.K E fl))(hh:L2.PO X hi (tO X.K E fh)):
  PE X (.Subscript e (.Slice lo hi none p2) pos) (tF X.K E λenv=>(f env).bind λx=>(fl env).bind λl=>(fh env).bind λh=>.ok (cut x l h)):=
 imp (F9 KG he hl hh) λσ H Q ⟨g,env,os,r,m⟩=>⟨g,env,os,r,m.bind.mono λx _ m1 a1 v1 H1 s1 q1 i1=>⟨g,env,os,r.same s1,m1.bind.mono λl _ m2 H2 s2=>⟨g,env,os,r.same (s1.trans s2),m2.bind.mono λh _ m3 H3 s3=>by refine⟨a1,v1,rfl,s3.seq (s2.seq q1),λp hp=>?_⟩;obtain⟨b1,b2,b3,b4⟩:=NB r (s1.trans (s2.trans s3)) hp (((i1.same s2).same s3).cut l h);exact m3 p _ _ b1 b2 b3 b4⟩⟩⟩
theorem IsL.kU {K:ak}{P:ae->Prop}{H:Hp}{ds:List D}{vs:List V}{i:Int}{d:D}(h:IsL K P H ds vs)(e:L2.kU ds i=aa d):∃v,L2.kU vs i=aa v/\Is K P H d v:=by
 unfold L2.kU at e⊢;rw[h.length];cases q:wN ds.length i with
 |none=>rw[q]at e;cases e
 |some j=>
  rw[q]at e;exact h.get e
def wO:D->D->R D
 |.lst xs,.int i=>R.of (kU xs i)
 |.tup xs,.int i=>R.of (kU xs i)
 |_,_=>.bad
def Eo{a b:ao}{fa fb:DE->R D}(ha:PE X a (tD X.K E fa))(hb:PE X b (tB X.K E fb))(hs:rN b:=by exact λ_ _=>rfl):PE X (.Subscript a b pos) (tD X.K E λenv=>(fa env).bind λx=>(fb env).bind λy=>wO x y):=
 imp (ja O6 ha hb hs) λσ H Q ⟨g,env,os,r,m⟩=>⟨g,env,os,r,m.bind.mono λx _ m1 v H1 s1 i1=>⟨g,env,os,r.same s1,m1.bind.mono λy _ m2 w H2 s2 i2=>by
  unfold wO at m2;split at m2
  ·rename_i xs i _ _
   obtain⟨d,e,q⟩:=m2.of;have Sy:=i1.same s2;obtain⟨a,vs,rfl,h1,h2⟩:=Sy;obtain⟨z,e2,h3⟩:=IsL.kU h2 e;exact .inl ⟨a,vs,i,z,rfl,i2,h1.sq,e2,q z H2 (s1.trans s2) h3⟩
  ·rename_i xs i _ _
   obtain⟨d,e,q⟩:=m2.of;have Sy:=i1.same s2;obtain⟨a,vs,rfl,h1,h2⟩:=Sy;obtain⟨z,e2,h3⟩:=IsL.kU h2 e;exact .inr (.inl ⟨a,vs,i,z,rfl,i2,h1.sq,e2,q z H2 (s1.trans s2) h3⟩)
  ·exact m2.elim⟩⟩
def bIx{a b:ao}{fa fb:DE->R D}(ha:PE X a (tB X.K E fa))(hb:PE X b (tB X.K E fb))(hs:rN b:=by exact λ_ _=>rfl):PE X (.Subscript a b pos) (tB X.K E λenv=>(fa env).bind λx=>(fb env).bind λy=>wO x y):=
 imp (ja O6 ha hb hs) λσ H Q ⟨g,env,os,r,m⟩=>⟨g,env,os,r,m.bind.mono λx _ m1 v H1 s1 i1=>⟨g,env,os,r.same s1,m1.bind.mono λy _ m2 w H2 s2 i2=>by
  unfold wO at m2;split at m2
  ·rename_i xs i _ _
   obtain⟨d,e,q⟩:=m2.of;have Sy:=i1.same s2;obtain⟨a,vs,rfl,h1,h2⟩:=Sy;obtain⟨z,e2,h3⟩:=IsL.kU h2 e;exact .inl ⟨a,vs,i,z,rfl,i2,h1.sq,e2,q z H2 (s1.trans s2) h3⟩
  ·rename_i xs i _ _
   obtain⟨d,e,q⟩:=m2.of;have Sy:=i1.same s2;obtain⟨a,vs,rfl,h1,h2⟩:=Sy;obtain⟨z,e2,h3⟩:=IsL.kU h2 e;exact .inr (.inl ⟨a,vs,i,z,rfl,i2,h1.sq,e2,q z H2 (s1.trans s2) h3⟩)
  ·exact m2.elim⟩⟩
def Gs(xs:List D):D->R D
 |.int i=>R.of (kU xs i)
 |_=>.bad
def K2{a b:ao}{fa:DE->R (List D)}{fb:DE->R D}(ha:PE X a (tL X.K E fa))(hb:PE X b (tB X.K E fb))(hs:rN b:=by exact λ_ _=>rfl):PE X (.Subscript a b pos) (tD X.K E λenv=>(fa env).bind λx=>(fb env).bind λy=>Gs x y):=
 imp (ja ig ha hb hs) λσ H Q ⟨g,env,os,r,m⟩=>⟨g,env,os,r,m.bind.mono λx _ m1 a1 v1 H1 s1 q1 i1=>⟨g,env,os,r.same s1,m1.bind.mono λy _ m2 w H2 s2 i2=>by
  unfold Gs at m2;split at m2
  ·rename_i i _
   obtain⟨d,e,q⟩:=m2.of;obtain⟨z,e2,h3⟩:=(i1.same s2).kU e;exact⟨a1,v1,i,z,rfl,i2,s2.seq q1,e2,q z H2 (s1.trans s2) h3⟩
  ·exact m2.elim⟩⟩
def UI(X:Cx)(r:List V->Hp->VK->Prop)(k:List D->Option D):Prop:=∀ds d,k ds=aa d->∃z,toV d=aa z/\∀H vs (Q:VK),IsL X.K Tr H ds vs->Q z H->r vs H Q
def p8{id:String}{x:Str}{p:Pos}{e:ao}{es:List ao}{f:DE->R (List D)}{r:List V->Hp->VK->Prop}{k:List D->Option D}(hc:vY X (.builtin id) r)(hk:UI X r k)(hm:X.mg x=none)(hv:eO x=aa (.builtin id))(ha:PA X (e::es) (xq X.K E f))
  (hg:Gl X x:=by rfl)(hn:x≠"__name__":=by decide)(hdb:(x==("__debug__":Str))=false:=by decide)
  (he:ar (e::es) X.env=(false,aw e X.env)::ar es X.env:=by rfl)(hpl:(bp pos (ar es X.env)).any (·.1)=false:=by rfl):PE X (.Call (.Name x p) (e::es) [] pos) (tD X.K E λenv=>(f env).bind λds=>R.of (k ds)):=
 imp (nj hc hg hm hv ha hn hdb he hpl) λσ H Q ⟨g,env,os,r,m⟩=>⟨g,env,os,r,m.bind.mono λds _ m1 vs H1 s1 i1=>by obtain⟨d,e,q⟩:=m1.of;obtain⟨z,hz,hk⟩:=hk ds d e;exact hk H1 vs Q i1 (q z H1 s1 (Is.sc hz))⟩
def IsL.Ep {K:ak}{P:ae->Prop}{H:Hp}{d:D}{vs:List V}(h:IsL K P H [d] vs):∃v,vs=[v]/\Is K P H d v:=by obtain⟨v,r,rfl,p,q⟩:=h;have q':r=[]:=q;subst q';exact⟨v,rfl,p⟩
def IsL.UJ {K:ak}{P:ae->Prop}{H:Hp}{d d2:D}{vs:List V}(h:IsL K P H [d,d2] vs):∃v w,vs=[v,w]/\Is K P H d v/\Is K P H d2 w:=by obtain⟨v,r,rfl,p,q⟩:=h;obtain⟨w,rfl,p2⟩:=IsL.Ep q;exact⟨v,w,rfl,p,p2⟩
def wB:List D->Option D
 |[.lst xs]=>aa (.int xs.length)
 |[.tup xs]=>aa (.int xs.length)
 |[.str x]=> @ite _ (x.length<=aH) (dM _) (aa (.int x.length)) (none)
 |_=>none
def k9:UI X (λxs H Q=>∃x n,xs=[x]/\ac7 X.K x H n/\Q (.int n) H) wB:=λds d e=>by
 unfold wB at e;split at e
 ·rename_i xs
  cases e;refine⟨_,rfl,λH vs Q i q=>?_⟩;obtain⟨v,rfl,a,ws,rfl,h1,h2⟩:=IsL.Ep i;exact⟨_,_,rfl,.inl ⟨ws,h1.sq,(IsL.length h2).symm⟩,q⟩
 ·rename_i xs
  cases e;refine⟨_,rfl,λH vs Q i q=>?_⟩;obtain⟨v,rfl,a,ws,rfl,h1,h2⟩:=IsL.Ep i;exact⟨_,_,rfl,.inr ⟨ws,h1.sq,(IsL.length h2).symm⟩,q⟩
 ·split at e
  ·rename_i x c
   cases e;refine⟨_,rfl,λH vs Q i q=>?_⟩;obtain⟨v,rfl,i2⟩:=IsL.Ep i;have i':v=.str x:=i2;subst i';exact⟨_,_,rfl,⟨c,rfl⟩,q⟩
  ·cases e
 ·cases e
def Po:List D->Option D
 |[.int i]=>aa (.int (if i<0 then-i else i))
 |_=>none
def K3:UI X (λxs H Q=>∃i,xs=[.int i]/\Q (.int (if i<0 then-i else i)) H) Po:=λds d e=>by
 unfold Po at e;split at e
 ·rename_i i
  cases e;refine⟨_,rfl,λH vs Q h q=>?_⟩;obtain⟨v,rfl,h1⟩:=IsL.Ep h;have h':v=.int i:=h1;subst h';exact⟨i,rfl,q⟩
 ·cases e
def K4:List D->Option D
 |[.int i,.int j]=>aa (.int (if j>i then j else i))
 |_=>none
def Pp:UI X (λxs H Q=>∃i j,xs=[.int i,.int j]/\Q (.int (if j>i then j else i)) H) K4:=λds d e=>by
 unfold K4 at e;split at e
 ·rename_i i j
  cases e;refine⟨_,rfl,λH vs Q h q=>?_⟩;obtain⟨v,w,rfl,h1,h2⟩:=IsL.UJ h;have h':v=.int i:=h1;have h2':w=.int j:=h2;subst h' h2';exact⟨i,j,rfl,q⟩
 ·cases e
def Gu{p:Pos}{a:ao}{f:DE->R (List D)}(hm:X.mg "list"=none)(ha:PE X a (tL X.K E f))(hg:Gl X "list":=by rfl)
  (he:ar [a] X.env=(false,aw a X.env)::ar [] X.env:=by rfl)(hpl:(bp pos (ar [] X.env)).any (·.1)=false:=by rfl):PE X (.Call (.Name "list" p) [a] [] pos) (tF X.K E f):=
 imp (vc rP hg hm (by decide +kernel) (aS ha bA he) (by decide) (by decide) he hpl) λσ H Q ⟨g,env,os,r,m⟩=>⟨g,env,os,r,m.mono λx _ m1 a1 v1 H1 s1 q1 i1=>
  ⟨a1,v1,rfl,.inl q1,λp hp=>by obtain⟨b1,b2,b3,b4⟩:=NB r s1 hp i1;exact m1 p _ _ b1 b2 b3 b4⟩⟩
def K5(K:ak)(xc:Str->ah)(m:List D->R D):Sp:=λvs H Q E=>∃P ds,IsL K P H ds vs/\(match m ds with
 |.ok d=>∀v H',bD H H'->Is K (λa=>P a\/H a=none) H' d v->Q v H'
 |.err c=>∀H',bD H H'->E (xc c) none H'
 |.bad=>False)
noncomputable def Sz(K:ak)(xc:Str->ah)(m:List D->R (List D)):Sp:=λvs H Q E=>∃P ds,IsL K P H ds vs/\(match m ds with
 |.ok xs=>∀a ws H',bD H H'->H a=none->H' a=aa (.lst ws)->IsL K (λb=>(P b\/H b=none)/\b≠a) H' xs ws->Q (.ref a) H'
 |.err c=>∀H',bD H H'->E (xc c) none H'
 |.bad=>False)
def EX(xc:Str->ah)(E:Str->Hp->Prop):XK:=λc _ H'=>∃n,c=xc n/\E n H'
def oV{E:XK}:Passes oN X E:=λ_ _ _ _ _ _ _ h=>h.elim
variable{CX:Oo}{k:Nat}{fa:ae}{fd:aL}{ps:List Str}{xc:Str->ah}{x:Str}{p:Pos}{e:ao}{es:List ao}{f:DE->R (List D)}
def fD{m:List D->R D}(F:fA X.prog X.w X.K X.mg X.base CX k fa fd ps (K5 X.K xc m))(hm:X.mg x=aa (.ref fa))(hk:jP X.K (.ref fa)=true)(hb:Binds X.K fd ps [])(hr:cG k X.A)(hx:Passes CX X (EX xc E))
  (ha:PA X (e::es) (Ou X.K E f))(hg:Gl X x:=by rfl)(hdb:(x==("__debug__":Str))=false:=by decide)(he:ar (e::es) X.env=(false,aw e X.env)::ar es X.env:=by rfl)(hpl:(bp pos (ar es X.env)).any (·.1)=false:=by rfl):
  PE X (.Call (.Name x p) (e::es) [] pos) (tD X.K E λenv=>(f env).bind m):=
 imp (ie F hr hg hm hk hb .nil hx ha hdb he hpl) λσ H Q ⟨g,env,os,r,q⟩=>⟨g,env,os,r,q.bind.mono λds _ q1 vs H1 s1 i1=>by
  show K5 X.K xc m (vs++[]) H1 Q _;rw[bq];refine⟨g.P os,ds,i1,?_⟩;cases em:m ds with
  |ok d=>
   rw[em]at q1;intro v H' s' i';exact q1 v H' (s1.trans s') (Is.ext ⟨λa o pa _=>pa.elim (λz=>z) λz=>(r.same s1).fresh z,λ_ _ _ z=>z⟩ _ _ i')
  |err c=>
   rw[em]at q1;intro H' s';exact⟨c,rfl,q1 H' (r.ext.trans (s1.trans s'))⟩
  |bad=>rw[em]at q1;exact q1⟩
def fB{m:List D->R D}(F:fA X.prog X.w X.K X.mg X.base CX k fa fd ps (K5 X.K xc m))(hsc:∀ds d,m ds=.ok d->∃z,toV d=aa z)(hm:X.mg x=aa (.ref fa))(hk:jP X.K (.ref fa)=true)(hb:Binds X.K fd ps [])(hr:cG k X.A)(hx:Passes CX X (EX xc E))
  (ha:PA X (e::es) (xq X.K E f))(hg:Gl X x:=by rfl)(hdb:(x==("__debug__":Str))=false:=by decide)(he:ar (e::es) X.env=(false,aw e X.env)::ar es X.env:=by rfl)(hpl:(bp pos (ar es X.env)).any (·.1)=false:=by rfl):
  PE X (.Call (.Name x p) (e::es) [] pos) (tD X.K E λenv=>(f env).bind m):=
 imp (ie F hr hg hm hk hb .nil hx ha hdb he hpl) λσ H Q ⟨g,env,os,r,q⟩=>⟨g,env,os,r,q.bind.mono λds _ q1 vs H1 s1 i1=>by
  show K5 X.K xc m (vs++[]) H1 Q _;rw[bq];refine⟨Tr,ds,i1,?_⟩;cases em:m ds with
  |ok d=>
   rw[em]at q1;intro v H' s' i';obtain⟨z,hz⟩:=hsc ds d em;have e2:=Is.Xq hz i';subst e2;exact q1 _ H' (s1.trans s') (Is.sc hz)
  |err c=>
   rw[em]at q1;intro H' s';exact⟨c,rfl,q1 H' (r.ext.trans (s1.trans s'))⟩
  |bad=>rw[em]at q1;exact q1⟩
def fF{m:List D->R (List D)}(F:fA X.prog X.w X.K X.mg X.base CX k fa fd ps (Sz X.K xc m))(hm:X.mg x=aa (.ref fa))(hk:jP X.K (.ref fa)=true)(hb:Binds X.K fd ps [])(hr:cG k X.A)(hx:Passes CX X (EX xc E))
  (ha:PA X (e::es) (Ou X.K E f))(hg:Gl X x:=by rfl)(hdb:(x==("__debug__":Str))=false:=by decide)(he:ar (e::es) X.env=(false,aw e X.env)::ar es X.env:=by rfl)(hpl:(bp pos (ar es X.env)).any (·.1)=false:=by rfl):
  PE X (.Call (.Name x p) (e::es) [] pos) (tF X.K E λenv=>(f env).bind m):=
 imp (ie F hr hg hm hk hb .nil hx ha hdb he hpl) λσ H Q ⟨g,env,os,r,q⟩=>⟨g,env,os,r,q.bind.mono λds _ q1 vs H1 s1 i1=>by
  show Sz X.K xc m (vs++[]) H1 Q _;rw[bq];refine⟨g.P os,ds,i1,?_⟩;cases em:m ds with
  |ok d=>
   rw[em]at q1;intro a ws H' s' hn hH i';exact q1 a ws H' (s1.trans s') (s1.free hn) hH (IsL.ext ⟨λb o pb _=>by have z:g.P os b:=pb.1.elim (λz=>z) λz=>(r.same s1).fresh z;exact⟨z.1,λhm=>(aO.mp hm).elim pb.2 z.2⟩,λ_ _ _ z=>z⟩ _ _ i')
  |err c=>
   rw[em]at q1;intro H' s';exact⟨c,rfl,q1 H' (r.ext.trans (s1.trans s'))⟩
  |bad=>rw[em]at q1;exact q1⟩
theorem scs{K:ak}{P P':ae->Prop}{H:Hp}:∀{ds:List D}{vs:List V},(∀d∈ds,∃z,toV d=aa z)->IsL K P H ds vs->IsL K P' H ds vs
 |[],_,_,h=>h
 |d::ds,_,hs,⟨v,r,e,p,q⟩=>by obtain⟨z,hz⟩:=hs d (by simp);have e2:=Is.Xq hz p;exact⟨v,r,e,by rw[e2];exact Is.sc hz,scs (λd hd=>hs d (by simp[hd])) q⟩
def fFB{m:List D->R (List D)}(F:fA X.prog X.w X.K X.mg X.base CX k fa fd ps (Sz X.K xc m))(hsc:∀ds xs,m ds=.ok xs->∀d∈xs,∃z,toV d=aa z)(hm:X.mg x=aa (.ref fa))(hk:jP X.K (.ref fa)=true)(hb:Binds X.K fd ps [])(hr:cG k X.A)(hx:Passes CX X (EX xc E))
  (ha:PA X (e::es) (xq X.K E f))(hg:Gl X x:=by rfl)(hdb:(x==("__debug__":Str))=false:=by decide)(he:ar (e::es) X.env=(false,aw e X.env)::ar es X.env:=by rfl)(hpl:(bp pos (ar es X.env)).any (·.1)=false:=by rfl):
  PE X (.Call (.Name x p) (e::es) [] pos) (tF X.K E λenv=>(f env).bind m):=
 imp (ie F hr hg hm hk hb .nil hx ha hdb he hpl) λσ H Q ⟨g,env,os,r,q⟩=>⟨g,env,os,r,q.bind.mono λds _ q1 vs H1 s1 i1=>by
  show Sz X.K xc m (vs++[]) H1 Q _;rw[bq];refine⟨Tr,ds,i1,?_⟩;cases em:m ds with
  |ok d=>
   rw[em]at q1;intro a ws H' s' hn hH i';exact q1 a ws H' (s1.trans s') (s1.free hn) hH (scs (hsc ds d em) i')
  |err c=>
   rw[em]at q1;intro H' s';exact⟨c,rfl,q1 H' (r.ext.trans (s1.trans s'))⟩
  |bad=>rw[em]at q1;exact q1⟩
end
def cJ(r:R Out)(k:DE->R Out):R Out:=r.bind λo=>match o with
 |.nx e=>k e
 |o=>.ok o
noncomputable def lT(b:D->DE->R Out):List D->DE->R Out
 |[],e=>.ok (.nx e)
 |x::xs,e=>(b x e).bind λo=>match o with
  |.nx e'=>lT b xs e'
  |.ct e'=>lT b xs e'
  |.bk e'=>.ok (.nx e')
  |.rt d=>.ok (.rt d)
  |.vm ys=>.ok (.vm ys)
  |.Cu ys=>.ok (.Cu ys)
  |.Ov ys=>.ok (.Ov ys)
  |.Pg ys=>.ok (.Pg ys)
  |.Ik ys=>.ok (.Ik ys)
section
variable{X:Cx}{E:Str->Hp->Prop}{pos:Pos}
def qB:vP X [] (tS X.K E λe=>.ok (.nx e)):=Xu pR λDe σ H ⟨g,env,os,r,m⟩=>m σ H os r (.refl H os)
def bJ{st:aD}{rest:List aD}{f k:DE->R Out}(h1:PS X st (tS X.K E f))(h2:vP X rest (tS X.K E k)):vP X (st::rest) (tS X.K E λe=>cJ (f e) k):=
 Xu (bj h1 h2) λDe σ H ⟨g,env,os,r,m⟩=>⟨g,env,os,r,(show Good E g.H₀ ((f env).bind _) _ from m).bind.mono λo _ q=>by
  cases o with
  |nx e'=>exact λσ' H' os' r' z=>⟨g,e',os',r',Good.mono (show Good E g.H₀ (k e') _ from q) λo _ q=>jd.step z q⟩
  |bk e'=>exact q
  |ct e'=>exact q
  |rt d=>exact q
  |vm xs=>exact q
  |Cu xs=>exact q
  |Ov xs=>exact q
  |Pg xs=>exact q
  |Ik xs=>exact q⟩
def cW{st:aD}{f:DE->R Out}(h1:PS X st (tS X.K E f)):vP X [st] (tS X.K E f):=dJ h1
def adC{g:Gh}{os:List ae}{K:ak}{H:Hp}{d:D}{v:V}(h:Is K (g.P os) H d v):Is K (g.P []) H d v:=Is.ext ⟨λ_ _ p _=>⟨p.1,by simp⟩,λ_ _ _ q=>q⟩ _ _ h
def lU{e:ao}{f:DE->R D}(he:PE X e (tD X.K E f)):PS X (.Return (aa e) pos) (tS X.K E λenv=>(f env).bind λd=>.ok (.rt d)):=
 oQ (nE he) λDe σ H ⟨g,env,os,r,m⟩=>⟨g,env,os,r,m.bind.mono λd _ q v H' s i=>q v H' (r.ext.trans s) (adC i)⟩
def p9{e:ao}{f:DE->R (List D)}(he:PE X e (tF X.K E f)):PS X (.Return (aa e) pos) (tS X.K E λenv=>(f env).bind λd=>.ok (.vm d)):=
 oQ (nE he) λDe σ H ⟨g,env,os,r,m⟩=>⟨g,env,os,r,m.bind.mono λxs _ q a vs H' s hn hH i=>
  q a vs H' (r.ext.trans s) (r.ext.free hn) hH (IsL.ext ⟨λb o p _=>⟨p.1,λz=>p.2 (by simp at z;simp[z])⟩,λ_ _ _ q=>q⟩ _ _ i)⟩
def ownAt(i:Nat)(env:DE):R (List D):=match env[i]? with
 |some (.own xs)=>.ok xs
 |_=>.bad
theorem Good.own {H₀:Hp}{i:Nat}{env:DE}{p:List D->Prop}(h:Good E H₀ (ownAt i env) p):∃xs,env[i]?=aa (.own xs)/\p xs:=by
 unfold ownAt at h;split at h
 ·rename_i xs e
  exact⟨xs,e,h⟩
 ·exact h.elim
def Pq(i:Nat){x:Str}{p:Pos}(hN:X.N[i]?=aa x:=by rfl)(hv:yF X.env.scope x:=by omega)(hd:(x==("__debug__":Str))=false:=by decide)
  (hcd:(x==("__classdict__":Str))=false:=by decide):PS X (.Return (aa (.Name x p)) pos) (tS X.K E λenv=>(ownAt i env).bind λxs=>.ok (.vm xs)):=
 oQ (nE (gx hN hv hd hcd)) λDe σ H ⟨g,env,os,r,m⟩=>by obtain⟨xs,e,q⟩:=m.bind.own;obtain⟨a,vs,h1,h2,h3,h4⟩:=r.own i xs e;exact⟨.ref a,h1,q a vs H r.ext (r.new a h2).1 h3 (IsL.ext ⟨λb o p _=>⟨p.1,λz=>p.2 (by simp at z;rw[z];exact h2)⟩,λ_ _ _ q=>q⟩ _ _ h4)⟩
def Cf{c:ao}{a b:List aD}{fc:DE->R Bool}{fa fb:DE->R Out}(hc:PT X c (tT X.K E fc))(ha:vP X a (tS X.K E fa))(hb:vP X b (tS X.K E fb)):PS X (.If c a b pos) (tS X.K E λenv=>(fc env).bind λt=>if t=true then fa env else fb env):=
 oQ (zx hc ha hb) λDe σ H ⟨g,env,os,r,m⟩=>⟨g,env,os,r,m.bind.mono λt _ q H' s=>by
  cases t with
  |true=>
   rw[if_pos rfl];exact⟨g,env,os,r.same s,Good.mono (show Good E g.H₀ (fa env) _ from q) λo _ q2=>jd.step (.same s os) q2⟩
  |false=>
   rw[if_neg gE];exact⟨g,env,os,r.same s,Good.mono (show Good E g.H₀ (fb env) _ from q) λo _ q2=>jd.step (.same s os) q2⟩⟩
def oW(i:Nat){x:Str}{e:ao}{f:DE->R D}{pos':Pos}(he:PE X e (tD X.K E f))(hN:X.N.Nodup)(hi:X.N[i]?=aa x:=by rfl)(hx:Loc X.env.scope x:=by omega)(hs:fK e (aa (.Name x pos')) pos.line X.env=aW false:=by rfl)
  (hf:X.fn x=true\/X.env.scope.names.lookup x=aa .local:=by omega):PS X (.Assign [.Name x pos'] e pos) (tS X.K E λenv=>(f env).bind λd=>.ok (.nx (env.set i (.val d)))):=
 oQ (gy hN hi hx he hs hf) λDe σ H ⟨g,env,os,r,m⟩=>⟨g,env,os,r,m.bind.mono λd _ q v H' s h=>q _ H' os ((r.same s).set i h) (.same s os)⟩
def yA.new {H H':Hp}{os:List ae}{a:ae}(s:bD H H')(hn:H a=none):yA H os H' (a::os):=
 ⟨λb hb=>(aO.mp hb).elim (λz=>.inr (by rw[z];exact hn)) .inl,λ_ h=>s.free h,λ_ _ _ h=>s _ _ h⟩
def CU(i:Nat){x:Str}{e:ao}{f:DE->R (List D)}{pos':Pos}(he:PE X e (tF X.K E f))(hN:X.N.Nodup)(hi:X.N[i]?=aa x:=by rfl)(hx:Loc X.env.scope x:=by omega)(hs:fK e (aa (.Name x pos')) pos.line X.env=aW false:=by rfl)
  (hf:X.fn x=true\/X.env.scope.names.lookup x=aa .local:=by omega):PS X (.Assign [.Name x pos'] e pos) (tS X.K E λenv=>(f env).bind λd=>.ok (.nx (env.set i (.own d)))):=
 oQ (gy hN hi hx he hs hf) λDe σ H ⟨g,env,os,r,m⟩=>⟨g,env,os,r,m.bind.mono λd _ q a vs H' s hn hH h=>q _ H' (a::os) (r.adw s i hn hH h) (.new s hn)⟩
def yA.mut {H:Hp}{os:List ae}{a:ae}{o:HO}(ha:a∈os):yA H os (upd H a o) os:=
 ⟨λb hb=>.inl hb,λb h=>by
  by_cases z:b=a
  ·subst z;rw[aP]at h;cases h
  ·rw[aB z]at h;exact h,λb u hb h=>by rw[aB (λz=>hb (by rw[z];exact ha))];exact h⟩
def A0(i:Nat)(env:DE):DE:=match env[i]? with
 |some (.own xs)=>env.set i (.val (.lst xs))
 |_=>env
def ahk(i:Nat){x:Str}{e:ao}{f:DE->R D}{p apos cO:Pos}(he:PE X e (tD X.K E f))(hN:X.N[i]?=aa x:=by rfl)(hv:yF X.env.scope x:=by omega)(hd:(x==("__debug__":Str))=false:=by decide)
  (hcd:(x==("__classdict__":Str))=false:=by decide)
  (hbase:hU (.Name x p) "append" X.env (aw (.Name x p) X.env)=aw (.Name x p) X.env:=by rfl)
  (hfew:((bp cO (ar [e] X.env)).all (λx=> !x.1)&&(kR cO (kT [] X.env)).all (λx=>x.1.isSome)
   &&decide ([e].length+([]:List eU).length+(if([]:List eU).isEmpty then 0 else 1)<30))=true:=by rfl)
  (hline:(apos.endLine==cO.line)=true:=by rfl)(hst:ar [e] X.env=(false,aw e X.env)::ar [] X.env:=by rfl)(hplain:(bp cO (ar [] X.env)).any (·.1)=false:=by rfl)
  (hs:fK (.Call (.Attribute (.Name x p) "append" apos) [e] [] cO) none pos.line X.env=aW false:=by rfl):
  PS X (.Expr (.Call (.Attribute (.Name x p) "append" apos) [e] [] cO) pos) (tS X.K E λenv=>(ownAt i env).bind λxs=>(f env).bind λd=> @ite _ (xs.length<aH) (dM _) (.ok (.nx (env.set i (.own (xs++[d]))))) (.bad)):=
 oQ (iO (ug jt n9 og fX (gx hN hv hd hcd) (aS he bA hst) hbase hfew hline hst hplain) hs) λDe σ H ⟨g,env,os,r,m⟩=>by
  obtain⟨xs,e,m1⟩:=m.bind.own;obtain⟨a,vs,h1,h2,h3,h4⟩:=r.own i xs e;refine⟨.ref a,h1,.inl ⟨rfl,vs,fG.of h3⟩,g,env,os,r,m1.bind.mono λd _ q v H' s hi=>?_⟩;split at q
  ·rename_i c
   refine⟨a,vs,v,rfl,rfl,s _ _ h3,by rw[h4.length];exact c,?_⟩;exact q σ _ os ((r.same s).mut e h1 h2 ((h4.same s).app (.one hi))) ((yA.same s os).trans (.mut h2))
  ·exact q.elim
def ahl(i:Nat){x:Str}{p apos cO:Pos}(hN:X.N[i]?=aa x:=by rfl)(hv:yF X.env.scope x:=by omega)(hd:(x==("__debug__":Str))=false:=by decide)
  (hcd:(x==("__classdict__":Str))=false:=by decide)
  (hbase:hU (.Name x p) "pop" X.env (aw (.Name x p) X.env)=aw (.Name x p) X.env:=by rfl)(hline:(apos.endLine==cO.line)=true:=by rfl)
  (hs:fK (.Call (.Attribute (.Name x p) "pop" apos) [] [] cO) none pos.line X.env=aW false:=by rfl):
  PS X (.Expr (.Call (.Attribute (.Name x p) "pop" apos) [] [] cO) pos) (tS X.K E λenv=>(ownAt i env).bind λxs=>if 0<xs.length then .ok (.nx (env.set i (.own xs.dropLast)))else .bad):=
 oQ (iO (Ef jt UK UL O9 (gx hN hv hd hcd) hbase hline) hs) λDe σ H ⟨g,env,os,r,m⟩=>by
  obtain⟨xs,e,m1⟩:=m.bind.own;obtain⟨a,vs,h1,h2,h3,h4⟩:=r.own i xs e;split at m1
  ·rename_i c
   have hl:=h4.length;refine⟨.ref a,h1,.inl ⟨rfl,vs,fG.of h3⟩,a,vs,vs[vs.length-1],rfl,rfl,h3,by rw[aQ (by lia)],?_⟩;refine m1 σ _ os (r.mut e h1 h2 ?_) (.mut h2);rw[Er,Er,hl];exact h4.take _
  ·exact m1.elim
def Z2(i:Nat){x:Str}{ek e:ao}{fk f:DE->R D}{p tp:Pos}(hk:PE X ek (tB X.K E fk))(he:PE X e (tD X.K E f))(hN:X.N[i]?=aa x:=by rfl)(hv:yF X.env.scope x:=by omega)(hd:(x==("__debug__":Str))=false:=by decide)
  (hcd:(x==("__classdict__":Str))=false:=by decide)
  (ha:∀v,kO (.Subscript (.Name x p) ek tp) X.env v=(do
   let ov<-jO [v] (aw (.Name x p) X.env);let iv<-jO [v,ov] (aw ek X.env)
   uS tp
   jO [v,ov,iv] (Ac ov iv v)
   release [v,ov,iv] []):=by intro _;rfl)
  (hs:Af [.Subscript (.Name x p) ek tp] e pos.line X.env=aW false:=by rfl)(hw:Ag [.Subscript (.Name x p) ek tp] e X.env=aW none:=by rfl)
  (h1:(g9 [.Subscript (.Name x p) ek tp] X.env).map (·.2)=[kO (.Subscript (.Name x p) ek tp) X.env]:=by rfl):
  PS X (.Assign [.Subscript (.Name x p) ek tp] e pos) (tS X.K E λenv=>(f env).bind λd=>(ownAt i env).bind λxs=>(fk env).bind λkd=>match kd with
   |.int j=>(match wN xs.length j with
    |some n=>.ok (.nx (env.set i (.own (xs.set n d))))
    |none=>.bad)
   |_=>.bad):=
 oQ (Ir he (Ip (gx hN hv hd hcd) hk set_list ha) hs hw h1) λDe σ H ⟨g,env,os,r,m⟩=>⟨g,env,os,r,m.bind.mono λd _ m1 v H1 s1 i1=>by
  obtain⟨xs,e,m2⟩:=m1.bind.own;obtain⟨a,vs,h1,h2,h3,h4⟩:=(r.same s1).own i xs e;refine⟨.ref a,h1,g,env,os,r.same s1,m2.bind.mono λkd _ m3 w H2 s2 i2=>?_⟩;cases kd with
  |int j=>
   cases q:wN xs.length j with
   |none=>
    simp only [q]at m3;exact m3.elim
   |some n=>
    simp only [q]at m3;refine⟨a,vs,j,n,rfl,i2,s2 _ _ h3,by rw[h4.length];exact q,?_⟩;exact m3 σ _ os ((r.same (s1.trans s2)).mut e h1 h2 ((h4.same s2).set n (i1.same s2))) ((yA.same (s1.trans s2) os).trans (.mut h2))
  |non=>exact m3.elim
  |bl _=>exact m3.elim
  |lst _=>exact m3.elim
  |str _=>exact m3.elim
  |exc _=>exact m3.elim
  |fn _=>exact m3.elim
  |tup _=>exact m3.elim⟩
def ahm(i:Nat){x:Str}{e:ao}{op:wU}{h:Int->Int->Int}{f:DE->R D}{pos':Pos}(ho:PIp X op (ipI h))(he:PE X e (tB X.K E f))(hN:X.N.Nodup)(hi:X.N[i]?=aa x:=by rfl)(hx:Loc X.env.scope x:=by omega)
  (hf:X.fn x=true\/X.env.scope.names.lookup x=aa .local:=by omega):
  PS X (.AugAssign (.Name x pos') op e pos) (tS X.K E λenv=>(dU i env).bind λa=>(f env).bind λb=>match a,b with
   |.int u,.int w=>.ok (.nx (env.set i (.val (.int (h u w)))))
   |_,_=>.bad):=
 oQ (Iu hN hi hx he ho hf) λDe σ H ⟨g,env,os,r,m⟩=>by
  dsimp only [dU]at m;cases q:env[i]? with
  |none=>rw[q]at m;exact m.elim
  |some sl=>
   cases sl with
   |no=>rw[q]at m;exact m.elim
   |raw _=>rw[q]at m;exact m.elim
   |deep _=>rw[q]at m;exact m.elim
   |own _=>rw[q]at m;exact m.elim
   |val a=>
    rw[q]at m;obtain⟨v,h1,h2⟩:=r.val i a q;have m':Good E g.H₀ ((f env).bind _) _:=m;refine⟨v,h1,g,env,os,r,m'.bind.mono λb _ m2 w H' s i2=>?_⟩;cases a with
    |int u=>
     cases b with
     |int w'=>exact⟨u,w',h2,i2,m2 _ H' os ((r.same s).set i rfl) (.same s os)⟩
     |non=>exact m2.elim
     |bl _=>exact m2.elim
     |lst _=>exact m2.elim
     |str _=>exact m2.elim
     |exc _=>exact m2.elim
     |fn _=>exact m2.elim
     |tup _=>exact m2.elim
    |non=>exact m2.elim
    |bl _=>exact m2.elim
    |lst _=>exact m2.elim
    |str _=>exact m2.elim
    |exc _=>exact m2.elim
    |fn _=>exact m2.elim
    |tup _=>exact m2.elim
def Yl(K:ak)(P:ae->Prop)(J:It)(H:Hp)(xs:List D):Prop:=
 ∀(i:Nat)(H':Hp)(P':ae->Prop),Ext P P' H H'->(∀d,xs[i]?=aa d->J.go i H'/\∀x UM,J.yld i H' x UM->bD H' UM/\Is K (λa=>P' a\/H' a=none) UM d x)/\(xs.length=i->J.stop i H')
def tI(K:ak)(E:Str->Hp->Prop)(f:DE->R (List D)):TI:=λσ H Rr=>∃g env os,Rel K g env σ H os/\Good E g.H₀ (f env) λxs=>∀J H1,bD H H1->Yl K (g.P os) J H1 xs->Rr J H1
def UN{tg e:ao}{t t':TI}(h:PI X tg e t)(w:∀σ H Q,t' σ H Q->t σ H Q):PI X tg e t':=λpins s σ H Q I q=>h pins s σ H Q I (w σ H Q q)
def Yls(K:ak)(P:ae->Prop)(J:It)(H:Hp)(xs:List D):Prop:=
 ∀(i:Nat)(H':Hp)(P':ae->Prop),bD H H'->Ext P P' H H'->(∀d,xs[i]?=aa d->J.go i H'/\∀x UM,J.yld i H' x UM->bD H' UM/\Is K (λa=>P' a\/H' a=none) UM d x)/\(xs.length=i->J.stop i H')
def tIS(K:ak)(E:Str->Hp->Prop)(f:DE->R (List D)):TI:=λσ H Rr=>∃g env os,Rel K g env σ H os/\Good E g.H₀ (f env) λxs=>∀J H1,bD H H1->Yls K (g.P os) J H1 xs->Rr J H1
def zQ{tg e:ao}{f:DE->R (List D)}(h:PI X tg e (tI X.K E f)):PI X tg e (tIS X.K E f):=UN h λσ H Q ⟨g,env,os,r,m⟩=>⟨g,env,os,r,m.mono λxs _ q J H1 s1 yl=>q J H1 s1 λi H' P' _ ex=>yl i H' P' ex⟩
def iLS{tg e:ao}{f:DE->R (List D)}(he:PE X e (tL X.K E f)):PI X tg e (tIS X.K E f):=
 UN (uV he) λσ H Q ⟨g,env,os,r,m⟩=>⟨g,env,os,r,m.mono λxs _ q a vs H' s h1 h2=>by
  refine⟨a,rfl,⟨vs,h1⟩,q _ H' s λj H2 P' ss ex=>⟨λd hd=>?_,λhj=>?_⟩⟩
  ·obtain⟨x,hx,hi⟩:=(IsL.ext ex _ _ h2).get hd
   refine⟨⟨vs,x,ss.seq h1,hx⟩,λy H3 hy=>?_⟩;obtain⟨rfl,hy⟩:=hy;have e2:=hy vs (ss.seq h1);rw[hx]at e2;cases e2;exact⟨bD.refl _,Is.ext ⟨λ_ _ p _=>.inl p,λ_ _ _ z=>z⟩ _ _ hi⟩
  ·exact⟨vs,ss.seq h1,by rw[IsL.length h2];exact wZ hj⟩⟩
def iL{tg e:ao}{f:DE->R D}(he:PE X e (tD X.K E f)):PI X tg e (tI X.K E λenv=>(f env).bind yB):=
 UN (uV he) λσ H Q ⟨g,env,os,r,m⟩=>⟨g,env,os,r,m.bind.mono λd _ q v H' s i=>by
  cases d with
  |lst xs=>
   obtain⟨a,vs,rfl,h1,h2⟩:=i;refine⟨a,rfl,⟨vs,h1.sq⟩,q _ H' s λj H2 P' ex=>⟨λd hd=>?_,λhj=>?_⟩⟩
   ·obtain⟨x,hx,hi⟩:=(IsL.ext ex _ _ h2).get hd
    refine⟨⟨vs,x,(h1.ext ex).sq,hx⟩,λy H3 hy=>?_⟩;obtain⟨rfl,hy⟩:=hy;have e2:=hy vs (h1.ext ex).sq;rw[hx]at e2;cases e2;exact⟨bD.refl _,Is.ext ⟨λ_ _ p _=>.inl p,λ_ _ _ z=>z⟩ _ _ hi⟩
   ·exact⟨vs,(h1.ext ex).sq,by rw[IsL.length h2];exact wZ hj⟩
  |non=>exact q.elim
  |bl _=>exact q.elim
  |int _=>exact q.elim
  |str _=>exact q.elim
  |exc _=>exact q.elim
  |fn _=>exact q.elim
  |tup _=>exact q.elim⟩
def vU(lo:Int)(n:Nat):List D:=(bZ n).map λi=>.int (lo+(i:Nat))
def ND:List D->R (List D)
 |[.int i,.int j]=> @ite _ (-(2^62)<=i/\i<2^62/\ -(2^62)<=j/\j<2^62) (dM _) (.ok (vU i (j-i).toNat)) (.bad)
 |_=>.bad
def Z3{K:ak}{P:ae->Prop}{H:Hp}(lo:Int)(n:Nat):Yl K P (Itr lo n) H (vU lo n):=λi H' P' ex=>⟨λd hd=>by
 unfold vU at hd;rw[bG]at hd;have hi:i<n:=by
  cases q:(bZ n)[i]? with
  |none=>rw[q]at hd;cases hd
  |some j=>simpa using(bz.mp q).1
 rw[List.getElem?_range hi]at hd;cases hd;refine⟨hi,λx H2 hy=>?_⟩;obtain⟨rfl,rfl⟩:=hy;exact⟨bD.refl _,rfl⟩,λh=>by
 unfold vU at h;exact wZ (by simpa using h)⟩
def iR2{tg a b:ao}{p:Pos}{f:DE->R (List D)}(hm:X.mg "range"=none)(ha:PA X [a,b] (xq X.K E f))(hg:Gl X "range":=by rfl)(hs:ar [a,b] X.env=[(false,aw a X.env),(false,aw b X.env)]:=by rfl)(hs2:ar [b] X.env=[(false,aw b X.env)]:=by rfl):
  PI X tg (.Call (.Name "range" p) [a,b] [] pos) (tI X.K E λenv=>(f env).bind ND):=
 UN (Nj hg hm ha hs hs2) λσ H Q ⟨g,env,os,r,m⟩=>⟨g,env,os,r,m.bind.mono λds _ q vs H' s i=>by
  unfold ND at q;split at q
  ·rename_i u j _
   split at q
   ·rename_i c
    obtain⟨v,w,rfl,h1,h2⟩:=IsL.UJ i;have h':v=.int u:=h1;have h2':w=.int j:=h2;subst h' h2';exact⟨u,j,rfl,c,q _ H' s (Z3 u _)⟩
   ·exact q.elim
  ·exact q.elim⟩
def tG(K:ak)(E:Str->Hp->Prop)(b:D->DE->R DE):TG:=λv σ H Q=>∃g env os d,Rel K g env σ H os/\Is K (g.P os) H d v/\Good E g.H₀ (b d env) λe'=>∀σ',Rel K g e' σ' H os->Q σ' H
def Xv(K:ak)(E:Str->Hp->Prop)(b:List D->DE->R DE):To:=λvs σ H Q=>∃g env os ds,Rel K g env σ H os/\IsL K (g.P os) H ds vs/\Good E g.H₀ (b ds env) λe'=>∀σ',Rel K g e' σ' H os->Q σ' H
def adE{e:ao}{t t':TG}(h:PG X e t)(w:∀v σ H Q,t' v σ H Q->t v σ H Q):PG X e t':=λpins s σ H v u Q I r q=>h pins s σ H v u Q I r (w v σ H Q q)
def Xw{e:List ao}{t t':To}(h:JX X e t)(w:∀v σ H Q,t' v σ H Q->t v σ H Q):JX X e t':=λpins s σ H v u Q I r q=>h pins s σ H v u Q I r (w v σ H Q q)
def gN(i:Nat){x:Str}(hN:X.N.Nodup)(hi:X.N[i]?=aa x:=by rfl)(hx:Loc X.env.scope x:=by omega)(hf:X.fn x=true\/X.env.scope.names.lookup x=aa .local:=by omega):
  PG X (.Name x pos) (tG X.K E λd env=>.ok (env.set i (.val d))):=adE (uT hN hi hx hf) λv σ H Q ⟨g,env,os,d,r,h,m⟩=>m _ (r.set i h)
def adF:JX X [] (Xv X.K E λds env=>match ds with
  |[]=>.ok env
  |_=>.bad):=Xw Tp λvs σ H Q ⟨g,env,os,ds,r,h,m⟩=>by
 cases ds with
 |nil=>exact⟨h,m σ r⟩
 |cons _ _=>exact m.elim
def Z4{e:ao}{es:List ao}{b:D->DE->R DE}{k:List D->DE->R DE}(h1:PG X e (tG X.K E b))(h2:JX X es (Xv X.K E k))(hs:(g9 (e::es) X.env).map (·.2)=kO e X.env::(g9 es X.env).map (·.2):=by rfl):
  JX X (e::es) (Xv X.K E λds env=>match ds with
   |d::r=>(b d env).bind λe'=>k r e'
   |_=>.bad):=Xw (OQ h1 h2 hs) λvs σ H Q ⟨g,env,os,ds,r,h,m⟩=>by
 cases ds with
 |nil=>exact m.elim
 |cons d rest=>
  obtain⟨v,vr,rfl,p,q⟩:=h;have m':Good E g.H₀ ((b d env).bind λe'=>k rest e') _:=m;exact⟨v,vr,rfl,g,env,os,d,r,p,m'.bind.mono λe' _ m2 σ' r'=>⟨g,e',os,rest,r',q,m2⟩⟩
def gT{es:List ao}{kk:Nat}{b:List D->DE->R DE}{n:Nat}(hc:X.calm=true)(h:JX X es (Xv X.K E b))(hn:(g9 es X.env).length=n:=by rfl)(hst:(g9 es X.env).findIdx? (·.1)=none:=by rfl):
  PG X (.Tuple es kk pos) (tG X.K E λd env=>match d with
   |.tup ds=>if ds.length=n then b ds env else .bad
   |_=>.bad):=adE (Zv hc h hn hst) λv σ H Q ⟨g,env,os,d,r,h,m⟩=>by
 cases d with
 |tup ds=>
  obtain⟨a,vs,rfl,h1,h2⟩:=h;have m':Good E g.H₀ (if ds.length=n then b ds env else .bad) _:=m;split at m'
  ·rename_i c
   exact⟨a,vs,rfl,h1.sq,by rw[IsL.length h2];exact c,g,env,os,ds,r,h2,m'⟩
  ·exact m'.elim
 |non=>exact m.elim
 |bl _=>exact m.elim
 |int _=>exact m.elim
 |str _=>exact m.elim
 |lst _=>exact m.elim
 |exc _=>exact m.elim
 |fn _=>exact m.elim
def Es{tg iter:ao}{body:List aD}{f:DE->R (List D)}{b:D->DE->R DE}{k:DE->R Out}(hp:DS (az X.prog X.w) X.A X.env X.xe)(hc:X.calm=true)(hi:PI X tg iter (tI X.K E f))(hg:PG X tg (tG X.K E b))(hb:vP X body (tS X.K E k))
  (hs:∀x,rJ iter X.env x=aW x:=by intro _;rfl):PS X (.For tg iter body [] pos) (tS X.K E λenv=>(f env).bind λxs=>lT (λd e=>(b d e).bind k) xs env):=
 oQ (DV hp hc hi hg hb hs) λDe σ H ⟨g,env,os,r,m⟩=>⟨g,env,os,r,m.bind.mono λxs _ m1 J H1 s1 yl=>by
  refine⟨λi n σ' H'=>n=xs.length-i/\i<=xs.length/\∃env' os',Rel X.K g env' σ' H' os'/\yA H1 os H' os'/\Good E g.H₀ (lT (λd e=>(b d e).bind k) (xs.drop i) env') (jd X.K g H' os' De),
   ⟨xs.length,by simp,iR _,env,os,r.same s1,.refl _ _,by rw[Et];exact m1.mono λo _ q=>jd.step (.same s1 os) q⟩,?_⟩
  rintro i n σ' H' ⟨rfl,hi,env',os',r',st,m2⟩;obtain⟨y1,y2⟩:=yl i H' (g.P os') st.ext
  by_cases hlt:i<xs.length
  ·have hx:xs[i]?=aa xs[i]:=aQ hlt
   obtain⟨go,y3⟩:=y1 _ hx;rw[K6 hlt]at m2;refine .inr ⟨go,λσ2 H2=>∃adG Xs,Rel X.K g adG σ2 H2 Xs/\yA H1 os H2 Xs/\Good E g.H₀ (lT (λd e=>(b d e).bind k) (xs.drop (i+1)) adG) (jd X.K g H2 Xs De),λσ2 H2 ⟨e2,o2,r2,t2,g2⟩=>⟨xs.length-(i+1),by lia,rfl,hlt,e2,o2,r2,t2,g2⟩,λx H2 hy=>?_⟩;obtain⟨s2,hx2⟩:=y3 x H2 hy;have r2:=r'.same s2;have ix:Is X.K (g.P os') H2 xs[i] x:=Is.ext ⟨λa o p _=>p.elim (λz=>z) λz=>r'.fresh z,λ_ _ _ z=>z⟩ _ _ hx2;have m3:Good E g.H₀ (((b xs[i] env').bind k).bind _) _:=m2;refine⟨g,env',os',xs[i],r2,ix,m3.bind.bind.mono λe3 _ m4 σ3 r3=>⟨g,e3,os',r3,Good.mono m4 λo _ q=>?_⟩⟩;have Sw:=st.trans (yA.same s2 os');cases o with
   |nx e4=>exact λσ4 H4 os4 r4 z=>⟨e4,os4,r4,Sw.trans z,Good.mono (show Good E g.H₀ (lT _ _ e4) _ from q) λo _ q=>jd.step ((yA.same s2 os').trans z) q⟩
   |ct e4=>exact λσ4 H4 os4 r4 z=>⟨e4,os4,r4,Sw.trans z,Good.mono (show Good E g.H₀ (lT _ _ e4) _ from q) λo _ q=>jd.step ((yA.same s2 os').trans z) q⟩
   |bk e4=>exact λσ4 H4 os4 r4 z=>(show jd X.K g H' os' De (.nx e4)from q) σ4 H4 os4 r4 ((yA.same s2 os').trans z)
   |rt d=>exact q
   |vm ys=>exact q
   |Cu ys=>exact q
   |Ov ys=>exact q
   |Pg ys=>exact q
   |Ik ys=>exact q
  ·have e:i=xs.length:=by lia
   subst e;rw[Eu]at m2;exact .inl ⟨y2 rfl,(show jd X.K g H' os' De (.nx env')from m2) σ' H' os' r' (.refl _ _)⟩⟩
end
def aT(n:Nat)(ds:List D):DE:=ds.map .val++bf (n-ds.length) .no
def vo{K:ak}{N:List Str}{P:ae->Prop}{H:Hp}{ds:List D}{vs:List V}(h:IsL K P H ds vs):Rel K ⟨P,H⟩ (aT N.length ds) (L2.start N vs) H []:=by
 have hl:=h.length;refine⟨by simp[aT,L2.start,hl],bD.refl H,λi d e=>?_,λi xs e=>?_,λi j xs ys a e=>?_,(λa ha=>nomatch ha),λi v e=>?_,Gj.none λi v e=>?_⟩
 ·unfold aT at e
  by_cases hi:i<ds.length
  ·rw[ed (by simpa using hi),bG,aQ hi]at e
   have e':Sl.val ds[i]=Sl.val d:=cj.inj e;cases e';obtain⟨v,h1,h2⟩:=h.get (aQ hi);refine⟨v,?_,Is.ext ⟨λa o p _=>⟨.inl p,by simp⟩,λ_ _ _ z=>z⟩ _ _ h2⟩;unfold L2.start;rw[ed (by simp;lia),bG,h1]<;>rfl
  ·rw[iS (by simp;lia)]at e
   have:=mQ (n:=N.length-ds.length) (a:=Sl.no) (i:=i-(ds.map Sl.val).length);rw[this]at e;split at e<;>cases e
 ·exfalso
  unfold aT at e
  by_cases hi:i<ds.length
  ·rw[ed (by simpa using hi),bG,aQ hi]at e
   cases e
  ·rw[iS (by simp;lia)]at e
   have:=mQ (n:=N.length-ds.length) (a:=Sl.no) (i:=i-(ds.map Sl.val).length);rw[this]at e;split at e<;>cases e
 ·exfalso
  unfold aT at e
  by_cases hi:i<ds.length
  ·rw[ed (by simpa using hi),bG,aQ hi]at e
   cases e
  ·rw[iS (by simp;lia)]at e
   have:=mQ (n:=N.length-ds.length) (a:=Sl.no) (i:=i-(ds.map Sl.val).length);rw[this]at e;split at e<;>cases e
 ·exfalso
  unfold aT at e
  by_cases hi:i<ds.length
  ·rw[ed (by simpa using hi),bG,aQ hi]at e
   cases e
  ·rw[iS (by simp;lia)]at e
   have:=mQ (n:=N.length-ds.length) (a:=Sl.no) (i:=i-(ds.map Sl.val).length);rw[this]at e;split at e<;>cases e
 ·exfalso
  unfold aT at e
  by_cases hi:i<ds.length
  ·rw[ed (by simpa using hi),bG,aQ hi]at e
   cases e
  ·rw[iS (by simp;lia)]at e
   have:=mQ (n:=N.length-ds.length) (a:=Sl.no) (i:=i-(ds.map Sl.val).length);rw[this]at e;split at e<;>cases e
def aK:Out->R D
 |.rt d=>.ok d
 |.vm xs=>.ok (.lst xs)
 |.nx _=>.ok .non
 |_=>.bad
def aM:Out->R (List D)
 |.vm xs=>.ok xs
 |_=>.bad
abbrev EN:Str->Hp->Prop:=λ_ _=>False
section
variable{P:aR}{w:aE}{K:ak}{mg:Str->Option ah}{base:aC}
def Is.P0 {Q:ae->Prop}{H H':Hp}{d:D}{v:V}(h:Is K ((⟨Q,H⟩:Gh).P []) H' d v):Is K (λa=>Q a\/H a=none) H' d v:=Is.ext ⟨λ_ _ p _=>p.1,λ_ _ _ z=>z⟩ _ _ h
def ahn{x qual:Str}{st:aD}{f:ae}{fd:aL}{N ps:List Str}{k:Nat}{xc:Str->ah}{m:List D->R D}{b:DE->R Out}(F:Gd K x qual st f fd)(S:bc N ps (au st))
  (hm:∀ds d,m ds=.ok d->ds.length=ps.length/\(b (aT N.length ds)).bind aK=.ok d)(hne:∀ds c,m ds≠.err c)
  (hb:∀(cdv:ah)(A:bh)(outer:List Env)(s:aj)(H:Hp)(E:XK),cG k (A.deeper (eT qual (au st) s.heap.objs.size f cdv))->vP (ud oN P w K mg base N qual (au st) f cdv A outer s H E).JW (dq st) (tS K EN b)):
  fA P w K mg base oN (k+1) f fd ps (K5 K xc m):=by
 refine F.ok S (λvs H Q E h=>?_) (λcdv A outer s H vs Q E hr h=>?_)
 ·obtain⟨Pa,ds,i,h⟩:=h
  cases e:m ds with
  |ok d=>rw[i.length];exact(hm ds d e).1
  |err c=>exact(hne ds c e).elim
  |bad=>rw[e]at h;exact h.elim
 ·obtain⟨Pa,ds,i,h⟩:=h
  refine⟨_,hb cdv A outer s H E hr,⟨⟨Pa,H⟩,aT N.length ds,[],vo i,?_⟩⟩;cases e:m ds with
  |err c=>exact(hne ds c e).elim
  |bad=>rw[e]at h;exact h.elim
  |ok d=>
   rw[e]at h;obtain⟨_,q⟩:=hm ds d e;cases eb:b (aT N.length ds)with
   |bad=>rw[eb]at q;cases q
   |err c=>rw[eb]at q;cases q
   |ok o=>
    rw[eb]at q;cases o with
    |rt d'=>
     cases q;exact λv H' s' i'=>h v H' s' i'.P0
    |vm xs=>
     cases q;intro a K0 H' s' hn hH i';exact h _ H' s' ⟨a,K0,rfl,.inl ⟨.inr hn,.inl hH⟩,IsL.ext ⟨λb o p _=>p.1,λ_ _ _ z=>z⟩ _ _ i'⟩
    |nx e'=>
     cases q;exact λσ' H' os' r' _=>h _ H' r'.ext rfl
    |Cu _=>cases q
    |Ov _=>cases q
    |Pg _=>cases q
    |Ik _=>cases q
    |bk _=>cases q
    |ct _=>cases q
def aho{x qual:Str}{st:aD}{f:ae}{fd:aL}{N ps:List Str}{k:Nat}{xc:Str->ah}{m:List D->R (List D)}{b:DE->R Out}(F:Gd K x qual st f fd)(S:bc N ps (au st))
  (hm:∀ds d,m ds=.ok d->ds.length=ps.length/\(b (aT N.length ds)).bind aM=.ok d)(hne:∀ds c,m ds≠.err c)
  (hb:∀(cdv:ah)(A:bh)(outer:List Env)(s:aj)(H:Hp)(E:XK),cG k (A.deeper (eT qual (au st) s.heap.objs.size f cdv))->vP (ud oN P w K mg base N qual (au st) f cdv A outer s H E).JW (dq st) (tS K EN b)):
  fA P w K mg base oN (k+1) f fd ps (Sz K xc m):=by
 refine F.ok S (λvs H Q E h=>?_) (λcdv A outer s H vs Q E hr h=>?_)
 ·obtain⟨Pa,ds,i,h⟩:=h
  cases e:m ds with
  |ok d=>rw[i.length];exact(hm ds d e).1
  |err c=>exact(hne ds c e).elim
  |bad=>rw[e]at h;exact h.elim
 ·obtain⟨Pa,ds,i,h⟩:=h
  refine⟨_,hb cdv A outer s H E hr,⟨⟨Pa,H⟩,aT N.length ds,[],vo i,?_⟩⟩;cases e:m ds with
  |err c=>exact(hne ds c e).elim
  |bad=>rw[e]at h;exact h.elim
  |ok d=>
   rw[e]at h;obtain⟨_,q⟩:=hm ds d e;cases eb:b (aT N.length ds)with
   |bad=>rw[eb]at q;cases q
   |err c=>rw[eb]at q;cases q
   |ok o=>
    rw[eb]at q;cases o with
    |rt d'=>cases q
    |vm xs=>
     cases q;intro a K0 H' s' hn hH i';exact h a K0 H' s' hn hH (IsL.ext ⟨λb o p _=>⟨p.1,λz=>p.2 (by simp[z])⟩,λ_ _ _ z=>z⟩ _ _ i')
    |nx e'=>cases q
    |Cu _=>cases q
    |Ov _=>cases q
    |Pg _=>cases q
    |Ik _=>cases q
    |bk _=>cases q
    |ct _=>cases q
end
def FP(cells:List (Str×ae)):List (Str×gG)->List (Str×ae)->List (Str×ae)
 |[],acc=>acc
 |(n,k)::r,acc=>if(k==gG.free)=true then FP cells r ((n,(cells.lookup n).getD 0)::acc)else FP cells r acc
def vZ{scope:cU}{env:Env}(h:∀y∈scope.names,y.2=.free->∃c,env.cells.lookup y.1=aa c):closureFor scope env=aW (FP env.cells scope.names []):=by
 have gen:∀(l:List (Str×gG))(acc:List (Str×ae)),(∀y∈l,y.2=.free->∃c,env.cells.lookup y.1=aa c)->
   (forIn l acc λ(x:Str×gG)(r:List (Str×ae))=>(if(x.2==gG.free)=true then(do let a<-cellOf env x.1;aW (rS ((x.1,a)::r)))else aW (rS r):Sem (ForInStep (List (Str×ae)))))=aW (FP env.cells l acc):=by
  intro l
  induction l with
  |nil=>intro acc _;rfl
  |cons y r ih=>
   intro acc hy;obtain⟨n,k⟩:=y;rw[List.forIn_cons];have hr:∀y∈r,y.2=.free->∃c,env.cells.lookup y.1=aa c:=λy h=>hy y (bg _ h)
   by_cases hk:(k==gG.free)=true
   ·obtain⟨c,hc⟩:=hy (n,k) g8 (by simpa using hk)
    have OG:env.cells.lookup n=aa c:=hc;simp only [hk,if_true,FP,cellOf,OG,Option.getD_some];exact ih _ hr
   ·simp only [hk,FP]
    exact ih _ hr
 show((forIn scope.names ([]:List (Str×ae)) λ(x:Str×gG)(r:List (Str×ae))=>(if(x.2==gG.free)=true then(do let a<-cellOf env x.1;aW (rS ((x.1,a)::r)))else aW (rS r):Sem (ForInStep (List (Str×ae)))))>>=λs=>aW s)=_;rw[gen scope.names [] h];rfl
theorem wC{cells:List (Str×ae)}{x:Str}:∀(l:List (Str×gG))(acc:List (Str×ae)),(∀y∈l,y.2=.free->∃c,cells.lookup y.1=aa c)->(∀c,acc.lookup x=aa c->cells.lookup x=aa c)->
  ∀c,(FP cells l acc).lookup x=aa c->cells.lookup x=aa c
 |[],acc,_,h,c,e=>h c e
 |(n,k)::r,acc,hy,h,c,e=>by
  unfold FP at e;have hr:∀y∈r,y.2=.free->∃c,cells.lookup y.1=aa c:=λy h=>hy y (bg _ h);split at e
  ·rename_i hk
   refine wC r _ hr (λc' e'=>?_) c e;rw[xx]at e';obtain⟨c0,hc0⟩:=hy (n,k) g8 (by simpa using hk);have adJ:cells.lookup n=aa c0:=hc0;cases hx:x==n with
   |true=>
    rw[hx]at e';have ex:x=n:=by simpa using hx
    rw[adJ]at e';cases e';rw[ex];exact adJ
   |false=>
    rw[hx]at e';exact h c' e'
  ·exact wC r _ hr h c e
theorem An{cells:List (Str×ae)}{x:Str}:∀(l:List (Str×gG))(acc:List (Str×ae)),((∃c,acc.lookup x=aa c)\/(x,gG.free)∈l)->∃c,(FP cells l acc).lookup x=aa c
 |[],acc,h=>h.elim (λz=>z) λz=>nomatch z
 |(n,k)::r,acc,h=>by
  unfold FP;split
  ·rename_i hk
   refine An r _ ?_
   by_cases hx:x=n
   ·exact .inl ⟨_,by rw[xx,beq_iff_eq.mpr hx]⟩
   ·rcases h with⟨c,h⟩|h
    ·refine .inl ⟨c,?_⟩
     rw[xx,beq_eq_false_iff_ne.mpr hx];exact h
    ·rcases aO.mp h with z|z
     ·cases z;exact absurd rfl hx
     ·exact .inr z
  ·rename_i hk
   refine An r _ ?_;rcases h with h|h
   ·exact .inl h
   ·rcases aO.mp h with z|z
    ·cases z;exact absurd (by simp) hk
    ·exact .inr z
noncomputable def vV(X:Cx)(scope:cU)(N:List Str)(s:aj)(H:Hp)(fp:List ae)(C:ae)(pl:List (ae×Obj)):Cx where
 prog:=X.prog
 w:=X.w
 K:=X.K
 mg:=X.mg
 base:=X.base
 A:=X.A
 N:=N
 s₀:=s
 H₀:=H
 env:=xy scope (FP X.env.cells scope.names []) C X.env
 outer:=X.stack
 stack:=X.stack
 ex:=fp
 fn:=λ_=>false
 calm:=X.calm
 pn:=pl
 xe:=λ_ _=>False
structure lg(X:Cx)(scope:cU)(N:List Str)(nt:Nat)(caps:List Nat):Prop where
 kind:scope.kind=.function
 cell:∀y∈scope.names,y.2≠.cell
 names:∀y∈scope.names,y.2=.local->scope.names.lookup y.1=aa .local
 free:∀y∈scope.names,y.2=.free->X.env.kindOf y.1=aa .cell\/X.env.kindOf y.1=aa .free
 len:N.length=nt+caps.length
 nd:N.Nodup
 caps:∀(j i:Nat),caps[j]?=aa i->∃x,N[nt+j]?=aa x/\X.N[i]?=aa x/\scope.names.lookup x=aa .free/\yF X.env.scope x
def kh{scope:cU}{env:Env}{x:Str}{k:gG}(h:(Ao scope env).names.lookup x=aa k):∃k',scope.names.lookup x=aa k'/\(k=k'\/(k'=.free/\k=.cell)):=by
 unfold Ao at h;dsimp only at h;generalize scope.names=l at h
 induction l with
 |nil=>cases h
 |cons y r ih=>
  obtain⟨n,kk⟩:=y;rw[bu]at h
  by_cases hc:(kk==gG.free&&env.scope.kind==.function&&env.kindOf n==aa .cell)=true
  ·simp only [hc,if_true]at h
   rw[xx]at h⊢;cases hx:x==n with
   |true=>
    rw[hx]at h;cases h;simp only [xA]at hc;exact⟨kk,rfl,.inr ⟨by simpa using hc.1.1,rfl⟩⟩
   |false=>
    rw[hx]at h;exact ih h
  ·simp only [hc,Ew,if_false]at h
   rw[xx]at h⊢;cases hx:x==n with
   |true=>
    rw[hx]at h;exact⟨kk,rfl,.inl (cj.inj h).symm⟩
   |false=>
    rw[hx]at h;exact ih h
def mem_of_lookup{α:Type}{l:List (Str×α)}{x:Str}{k:α}(h:l.lookup x=aa k):(x,k)∈l:=by
 induction l with
 |nil=>cases h
 |cons y r ih=>
  obtain⟨n,kk⟩:=y;rw[xx]at h;cases hx:x==n with
  |true=>
   rw[hx]at h;cases h;have ex:x=n:=by simpa using hx
   rw[ex];exact g8
  |false=>
   rw[hx]at h;exact bg _ (ih h)
section
variable{X:Cx}{scope:cU}{N:List Str}{nt:Nat}{caps:List Nat}{pins:List (ae×Obj)}{σ:St}{H:Hp}{s:aj}
theorem lg.cells (S:lg X scope N nt caps)(I:Inv X pins σ H s):∀y∈scope.names,y.2=.free->∃c,X.env.cells.lookup y.1=aa c:=λy hy hf=>I.ok.has y.1 (S.free y hy hf)
def lg.lk (S:lg X scope N nt caps)(I:Inv X pins σ H s){x:Str}{c:ae}(h:(FP X.env.cells scope.names []).lookup x=aa c):X.env.cells.lookup x=aa c:=
 wC scope.names [] (S.cells I) (λc e=>by cases e) c h
def lg.start (S:lg X scope N nt caps)(I:Inv X pins σ H s){fp:List ae}(hf:∀b∈fp,rG X pins H b){C:ae}{h':aC}{m:Str->Option ah}{t':Nat}(hC:s.heap.objs.size<=C)(hn:h'.Ns C m)(k:∀b o,s.heap.get? b=aa o->h'.get? b=aa o)
  (hpin:∀b∈fp,∃o,s.heap.get? b=aa o)
  {vs:List V}(hv:vs.length=caps.length)(hvs:∀(j i:Nat)(v:V),caps[j]?=aa i->vs[j]?=aa v->σ[i]?=aa (aa v))(σ':St)(hσ:σ'=bf nt none++vs.map aa):
  Inv (vV X scope N s H fp C (X.pn++pins)) [] σ' H {s with heap:=h',toks:=t'}:=by
 subst hσ;have hH:∀b,s.heap.objs.size<=b->H b=none:=λb hb=>I.hok.fresh hb;have lk:=λ{x c}(h:(FP X.env.cells scope.names []).lookup x=aa c)=>S.lk I h;have ok:(vV X scope N s H fp C (X.pn++pins)).Ok:={
  mod:=I.ok.mod
  kind:=S.kind
  glob:=I.ok.glob
  blt:=I.ok.blt
  above:=hC
  inj:=λx y c h1 h2=>I.ok.inj x y c (lk h1) (lk h2)
  has:=λx h=>by
   have h':(Ao scope X.env).names.lookup x=aa .cell\/(Ao scope X.env).names.lookup x=aa .free:=h;have hfree:scope.names.lookup x=aa .free:=by
    rcases h' with h'|h'
    ·obtain⟨k',e,q⟩:=kh h'
     rcases q with rfl|⟨rfl,_⟩
     ·exact absurd rfl (S.cell _ (mem_of_lookup e))
     ·exact e
    ·obtain⟨k',e,q⟩:=kh h'
     rcases q with rfl|⟨rfl,q⟩
     ·exact e
     ·exact e
   exact An scope.names [] (.inr (mem_of_lookup hfree))
  cab:=λx c h=>nomatch h
  hd:=I.ok.hd
  frames:=I.ok.frames
  stk:=.inl rfl
  exf:=λb hb=>by obtain⟨o,e⟩:=hpin b hb;exact⟨λz=>absurd (cY (bM e) (by rw[z];exact hC)) (rE _),λx c h=>(hf b hb).2.2.2.2.1 x c (lk h)⟩
  bs:=I.bs
  Su:=iM I.ok.Su I.sz
  Nc:=λb o e hb=>by
   rcases(hf b hb).2.2.2.1 with z|z
   ·exact I.ok.Nc b o e z
   ·exact absurd (cY (bM e) (iM I.ok.Su z)) (rE _)
  Im:=λb hb z=>by
   rcases aO.mp (I.DH b z)with q|q
   ·exact(hf b hb).2.1 q
   ·exact(hf b hb).2.2.1 q
  yG:=I.stack
  Xl:=I.JR}
 refine⟨ok,rfl,I.bare,Un.kept k,⟨m,hn,λi x v e1 e2 e3=>?_⟩,λx c e=>?_,hH C hC,λx c e=>I.vX x c (lk e),λp hp=>?_,I.hok.kept k,?_⟩
 ·have hi:nt<=i:=by
   refine KO λz=>?_;rw[ed (by simpa using z),mQ]at e2;split at e2<;>cases e2
  rw[iS (by simpa using hi),bG]at e2;have e2':(vs[i-nt]?).map aa=aa (aa v):=by simpa using e2
  cases q:vs[i-nt]? with
  |none=>rw[q]at e2';cases e2'
  |some v'=>
   rw[q]at e2';cases e2';have hj:i-nt<caps.length:=by rw[<-hv];exact(bz.mp q).1
   obtain⟨x',h1,h2,h3,h4⟩:=S.caps (i-nt) caps[i-nt] (aQ hj);have ex:x'=x:=by have UB:N[i]?=aa x:=e1;rw[show nt+(i-nt)=i by lia,UB]at h1;exact(cj.inj h1).symm
   subst ex;have hs:=hvs (i-nt) _ v (aQ hj) q;obtain⟨m0,hn0,hl0⟩:=I.loc;obtain⟨u,r,l⟩:=hl0 _ x' v h2 hs h4;refine⟨u,r,?_⟩;have hkx:=S.free _ (mem_of_lookup h3) rfl;rcases l with⟨k1,_⟩|⟨k1,c,hc,hcell⟩
   ·have k1':X.env.kindOf x'=aa .local:=k1
    rcases hkx with z|z
    ·have z':X.env.kindOf x'=aa .cell:=z
     rw[k1']at z';cases z'
    ·have z':X.env.kindOf x'=aa .free:=z
     rw[k1']at z';cases z'
   ·obtain⟨c',OG⟩:=An (cells:=X.env.cells) (x:=x') scope.names [] (.inr (mem_of_lookup h3))
    have:=lk OG;rw[hc]at this;cases this;refine .inr ⟨?_,c,OG,let⟨o,ho,hd⟩:=hcell;⟨o,k _ o ho,hd⟩⟩;rcases e3 with z|z|z
    ·exfalso
     obtain⟨k',e,q⟩:=kh (show(Ao scope X.env).names.lookup x'=aa .local from z);rcases q with rfl|⟨_,q⟩
     ·rw[h3]at e;cases e
     ·cases q
    ·exact .inl z
    ·exact .inr z
 ·obtain⟨v,z⟩:=I.cell x c (lk e)
  exact⟨v,let⟨o,ho,hd⟩:=z;⟨o,k _ o ho,hd⟩⟩
 ·have hp':p∈X.pn++pins:=by simpa[vV]using hp
  obtain⟨e,n,ne,nf,d⟩:=I.pin p hp';refine⟨k _ _ e,n,λz=>absurd (cY (bM e) (by rw[z];exact hC)) (rE _),λz=>?_,d⟩;rcases aO.mp (I.DH _ z)with q|q
  ·exact ne q
  ·exact nf q
 ·show(bf nt none++vs.map aa).length=N.length
  rw[S.len];simp[hv]
end
section
variable{prog:aR}{w:aE}{A:bh}{E:ah->aj->Prop}{R:Result->aj->Prop}{s:aj}
def zC{elt target iter:ao}{ifs:List ao}{scope:cU}{pos:Pos}{it acc:ah}{env:Env}(I:Nat->aj->Prop)
  (turn:∀n s,I n s->aA (az prog w) A (pyNext it) (λr s₁=>match r with
   |none=>R (.ok .next) s₁
   |some v=>aA (az prog w) A (DU target it v) (λ_ s₁'=>aA (az prog w) A (kO target env v) (λ_ s₂=>
     aA (az prog w) A (forIn ifs true λc r=>if r=true then do let ok<-isTrue c env (aw c env);aW (rS ok)else aW (rS r)) (λok s₃=>
      if ok=true then aA (az prog w) A (aw elt env) (λx s₄=>
       aA (az prog w) A (call (.builtin "list.append") [acc,x]) (λ_ s₅=>∃m,m<n/\I m s₅) (λ_ _=>False) s₄) (λ_ _=>False) s₃
      else∃m,m<n/\I m s₃) (λ_ _=>False) s₂) (λ_ _=>False) s₁') (λ_ _=>False) s₁) (λ_ _=>False) s)
  (n:Nat)(h:I n s):
  kQ (az prog w) A (.compLoop (.ListComp elt [⟨target,iter,ifs,0⟩] scope pos) 0 it acc env) R s:=by
 refine codeAny_loop rfl I (λn s hI=>?_) n h;show aA _ A ((compTurn (.ListComp elt [⟨target,iter,ifs,0⟩] scope pos) 0 it acc env).onRaise (λx=>do noteFrame x env;theTreesLotGoes x)) _ _ s;refine wpAny_noted ?_;rw[compTurn_list];refine aV (DP (aV (kN (turn n s hI) (λr s₁ h₁=>?_) λ_ _ h'=>h'.elim)));cases r with
 |none=>exact ck h₁
 |some v=>
  refine aV (kN h₁ (λ_ s₁' h₁'=>?_) λ_ _ h'=>h'.elim);refine aV (kN h₁' (λ_ s₂ h₂=>aV (kN h₂ (λok s₃ h₃=>?_) λ_ _ h'=>h'.elim)) λ_ _ h'=>h'.elim);cases ok with
  |false=>exact ck ⟨rfl,h₃⟩
  |true=>
   exact aV (aV (kN h₃ (λx s₄ h₄=>aV (kN h₄ (λ_ s₅ h₅=>ck (ck ⟨rfl,h₅⟩)) λ_ _ h'=>h'.elim)) λ_ _ h'=>h'.elim))
end
noncomputable def PTs(X:Cx)(ifs:List ao)(t:TT):Prop:=
 ∀(pins:List (ae×Obj))(s:aj)(σ:St)(H:Hp)(Q:Bool->Hp->Prop),Inv X pins σ H s->t σ H Q->
  aA (az X.prog X.w) X.A (forIn ifs true λc r=>if r=true then do let ok<-isTrue c X.env (aw c X.env);aW (rS ok)else aW (rS r)) (TP X pins σ Q) X.xe s
def Pr{X:Cx}{E:Str->Hp->Prop}:PTs X [] (tT X.K E λ_=>.ok true):=λpins s σ H Q I ⟨g,env,os,r,m⟩=>UO ⟨H,I,m H (bD.refl H)⟩
def ts1{X:Cx}{E:Str->Hp->Prop}{c:ao}{f:DE->R Bool}(h:PT X c (tT X.K E f)):PTs X [c] (tT X.K E f):=λpins s σ H Q I q=>wpAny_tests_one (h pins s σ H Q I q)
def dO(b:D->DE->R DE)(ct:DE->R Bool)(fe:DE->R D)(e₀:DE):List D->R (List D)
 |[]=>.ok []
 |x::xs=>(b x e₀).bind λe=>(ct e).bind λt=>if t=true then(fe e).bind λd=>(dO b ct fe e₀ xs).bind λds=>.ok (d::ds)else dO b ct fe e₀ xs
def ik(env:DE):List Nat->R (List D)
 |[]=>.ok []
 |i::r=>(dU i env).bind λd=>(ik env r).bind λds=>.ok (d::ds)
theorem Good.ik {K:ak}{E:Str->Hp->Prop}{H₀ H:Hp}{g:Gh}{σ:St}{os:List ae}{env:DE}(r:Rel K g env σ H os):∀{caps:List Nat}{p:List D->Prop},Good E H₀ (ik env caps) p->
  ∃ds vs,p ds/\vs.length=caps.length/\ds.length=caps.length/\IsL K (g.P os) H ds vs/\∀(j i:Nat)(v:V),caps[j]?=aa i->vs[j]?=aa v->σ[i]?=aa (aa v)
 |[],p,h=>⟨[],[],h,rfl,rfl,rfl,λj i v e=>by simp at e⟩
 |i::rest,p,h=>by
  have h1:=h.bind;unfold dU at h1;split at h1
  ·rename_i d e
   have h2:Good E H₀ ((DL.ik env rest).bind λds=>.ok (d::ds)) p:=h1;obtain⟨ds,vs,q1,q2,q3,q4,q5⟩:=Good.ik r h2.bind;obtain⟨v,s1,s2⟩:=r.val i d e;refine⟨d::ds,v::vs,q1,by simp[q2],by simp[q3],.cons s2 q4,λj i' v' e1 e2=>?_⟩;cases j with
   |zero=>simp at e1 e2;subst e1 e2;exact s1
   |succ j=>exact q5 j i' v' (by simpa using e1) (by simpa using e2)
  ·exact h1.elim
def lV(nt:Nat)(ds:List D):DE:=bf nt Sl.no++ds.map .val
def K7{nt:Nat}{ds:List D}{i:Nat}{d:D}(h:(lV nt ds)[i]?=aa (.val d)):nt<=i/\ds[i-nt]?=aa d:=by
 unfold lV at h;have hi:nt<=i:=by refine KO λz=>?_;rw[ed (by simpa using z),mQ]at h;split at h<;>cases h
 rw[iS (by simpa using hi),bG]at h;refine⟨hi,?_⟩;simp only [Ea]at h;cases q:ds[i-nt]? with
 |none=>rw[q]at h;cases h
 |some d'=>rw[q]at h;cases h;rfl
def Aq{nt:Nat}{ds:List D}{i:Nat}{xs:List D}(h:(lV nt ds)[i]?=aa (.own xs)):False:=by
 unfold lV at h
 by_cases hi:i<nt
 ·rw[ed (by simpa using hi),mQ]at h
  split at h<;>cases h
 ·rw[iS (by simp;lia),bG]at h
  cases q:ds[i-(bf nt Sl.no).length]? with
  |none=>rw[q]at h;cases h
  |some d'=>rw[q]at h;cases h
def Gv{nt:Nat}{ds:List D}{i:Nat}{w:Ct}(h:(lV nt ds)[i]?=aa (.deep w)):False:=by
 unfold lV at h
 by_cases hi:i<nt
 ·rw[ed (by simpa using hi),mQ]at h
  split at h<;>cases h
 ·rw[iS (by simp;lia),bG]at h
  cases q:ds[i-(bf nt Sl.no).length]? with
  |none=>rw[q]at h;cases h
  |some d'=>rw[q]at h;cases h
def K8{nt:Nat}{ds:List D}{i:Nat}{w:V}(h:(lV nt ds)[i]?=aa (.raw w)):False:=by
 unfold lV at h
 by_cases hi:i<nt
 ·rw[ed (by simpa using hi),mQ]at h
  split at h<;>cases h
 ·rw[iS (by simp;lia),bG]at h
  cases q:ds[i-(bf nt Sl.no).length]? with
  |none=>rw[q]at h;cases h
  |some d'=>rw[q]at h;cases h
section
variable{X:Cx}{pins:List (ae×Obj)}{σ:St}{H:Hp}{s:aj}{h':aC}
def CV{fp:List ae}{t':Nat}(I:Inv X pins σ H s)(hf:∀b∈fp,rG X pins H b)(k:∀b u,b∉fp->s.heap.get? b=aa u->h'.get? b=aa u):Inv X pins σ H {s with heap:=h',toks:=t'}:=by
 have nfp:∀b u,H b=aa u->b∉fp:=λb u e z=>by rw[(hf b z).1]at e;cases e
 refine I.step (g':=s.gens) (d':=s.drawn) (ch:=fp) (λb hb=>⟨(hf b hb).2.2.2.1,(hf b hb).2.1,(hf b hb).2.2.2.2.1,(hf b hb).2.2.2.2.2⟩) (λb u _ _ hc e _=>k b u hc e) (λb u _ _ hc e _=>⟨u.slots,k b u hc e⟩)
  (λb u _ e n=>n) (λb u hc e=>⟨u,k b u hc e⟩) (λb xs e=>e) (λb u xs e=>e) (λb ps e=>⟨#[],by rw[e];simp⟩) (λm hm=>?_) (λb u e=>?_) I.bare
 ·obtain⟨ob,es,ep,ho,r⟩:=hm
  exact⟨ob,es,ep,k _ ob (λz=>(hf _ z).2.1 rfl) ho,r⟩
 ·refine(I.hok b u e).Il (λc v hc q=>k c v ?_ q) (λc q=>q) λc xs q=>q
  rcases hc with z|z
  ·rw[z];exact nfp b u e
  ·exact nfp c _ z
end
def R.ne {α:Type}:R α->R α
 |.ok a=>.ok a
 |_=>.bad
def R.Pu {α:Type}(a:α):(R.ok a).ne=.ok a:=rfl
def R.ju {α β:Type}{r:R α}{k:α->R β}{y:β}(h:r.bind k=.ok y):∃a,r=.ok a/\k a=.ok y:=by
 cases r with
 |ok a=>exact⟨a,rfl,h⟩
 |err c=>cases h
 |bad=>cases h
def Ar{α:Type}{E:Str->Hp->Prop}{H₀:Hp}{r:R α}{a:α}{p:α->Prop}(e:r=.ok a)(h:p a):Good E H₀ r p:=by rw[e];exact h
section
variable{X:Cx}{E:Str->Hp->Prop}{pos:Pos}{scope:cU}{N:List Str}{nt:Nat}{caps:List Nat}
def K9{K:ak}{g:Gh}{e:DE}{σ:St}{H H':Hp}{a:ae}{ds:List D}{ts:DE}(r:Rel K g e σ H [a])(he:e=ts++ds.map .val)(hl:ts.length=nt)(x:Ext (g.P [a]) (g.P [a]) H H')(s:bD g.H₀ H')(hn:∃o,H' a=aa o):
  Rel K g (lV nt ds) σ H' [a]:=by
 subst he;refine⟨by rw[r.len];simp[lV,hl],s,λi d e=>?_,λi xs e=>(Aq e).elim,λi j xs ys b e=>(Aq e).elim,λb hb=>?_,λi w e=>(K8 e).elim,Gj.none λi w e=>Gv e⟩
 ·obtain⟨h1,h2⟩:=K7 e
  obtain⟨v,q1,q2⟩:=r.val i d (by rw[iS (by lia),hl,bG,h2];rfl);exact⟨v,q1,Is.ext x _ _ q2⟩
 ·have e:b=a:=by simpa using hb
  subst e;exact⟨(r.new b hb).1,hn⟩
noncomputable def ahp(X:Cx)(pins:List (ae×Obj))(σ:St)(g:Gh)(os:List ae)(H:Hp)(use:Option (ah->Sem Unit))(Qv:ah->aj->Prop)(ys:List D):Prop:=
 ∀(Dd C:ae)(acc:List V)(Hx:Hp)(s6:aj),Inv X pins σ Hx s6->(∃m,s6.heap.Ns C m)->rG X pins Hx C->bD H Hx->H Dd=none->Hx Dd=aa (.lst acc)->IsL X.K (g.P (Dd::os)) Hx ys acc->
  compPost (az X.prog X.w) X.A X.xe use Qv (.ref Dd) C (.ok .next) s6
def La{elt tg iter:ao}{ifs:List ao}{fi:DE->R (List D)}{b:D->DE->R DE}{ct:DE->R Bool}{fe:DE->R D}(S:lg X scope N nt caps)(Be:X.calm=true)(hi:PI X tg iter (tIS X.K E fi))
  (hb1:∀ds d e,b d (lV nt ds)=.ok e->∃ts,e=ts++ds.map .val/\ts.length=nt)
  (hg:∀s H fp C pl,PG (vV X scope N s H fp C pl) tg (tG X.K EN b))(ht:∀s H fp C pl,PTs (vV X scope N s H fp C pl) ifs (tT X.K EN ct))(he:∀s H fp C pl,PE (vV X scope N s H fp C pl) elt (tD X.K EN fe))
  (hs:∀x,rJ iter X.env x=aW x){use:Option (ah->Sem Unit)}{Qv:ah->aj->Prop}{pins:List (ae×Obj)}{s:aj}{σ:St}{H:Hp}{env:DE}{os:List ae}{g:Gh}(I:Inv X pins σ H s)(r:Rel X.K g env σ H os)
  (m:Good E g.H₀ ((fi env).bind λxs=>(ik env caps).bind λds=>(dO b ct fe (lV nt ds) xs).ne.bind fit) (ahp X pins σ g os H use Qv)){ps:Pos}:
  aA (az X.prog X.w) X.A (comprehension (.ListComp elt [⟨tg,iter,ifs,0⟩] scope pos) scope X.env ps (newList []) false (aw iter X.env) use) Qv X.xe s:=by
 refine UQ (use:=use) rfl hs (vZ (S.cells I)) S.kind S.names ?_;refine fz (hi pins s σ H (λJ H1=>∃xs,bD H H1/\Yls X.K (g.P os) J H1 xs/\Good E g.H₀ ((ik env caps).bind λds=>(dO b ct fe (lV nt ds) xs).ne.bind fit) _) I ⟨g,env,os,r,m.bind.mono λxs _ m1 J H1 s1 yl=>⟨xs,s1,yl,m1⟩⟩) λv s1 h1=>fz h1 λitv s2 h2=>?_;obtain⟨it,fp,tn,J,H2,rfl,I2,T,Sw,f2,xs,UR,yl,m1⟩:=h2;have r2:=r.same UR;obtain⟨ds,vs,m2,hvl,hdl,hds,hvs⟩:=m1.bind.ik r2;cases ec:dO b ct fe (lV nt ds) xs with
 |bad=>rw[ec]at m2;exact m2.elim
 |err c=>rw[ec]at m2;exact m2.elim
 |ok ys=>
 rw[ec]at m2;obtain⟨hz,q⟩:=(show Good E g.H₀ (fit ys) _ from m2).fit;refine DQ (UT S.cell (by intro y hy;simp at hy) (λh₁ IP hsb₁=>?_) S.kind);dsimp only at IP hsb₁⊢;have Z5:H2 s2.heap.objs.size=none:=I2.hok.fresh (aY _);have I3:Inv X pins σ (upd H2 s2.heap.objs.size (.lst [])) {s2 with heap:=s2.heap.push {cls:=.type "list",dict:=none,data:=.seq ([]:List ah).toArray}}:=
  I2.laid (t':=s2.toks) (λb u e=>cQ _ e) (aY _) ⟨iR _,[],0,.nil,iP _ rfl⟩
 generalize hs3:({s2 with heap:=s2.heap.push {cls:=.type "list",dict:=none,data:=.seq ([]:List ah).toArray}}:aj)=s3 at I3;have Z6:s3.heap=s2.heap.push {cls:=.type "list",dict:=none,data:=.seq ([]:List ah).toArray}:=by rw[<-hs3]
 rw[<-Z6]at IP hsb₁⊢;generalize hDd:s2.heap.objs.size=Dd at*;have k3:∀b o,s3.heap.get? b=aa o->h₁.get? b=aa o:=λb o e=>hsb₁.extBut b o (du (bM e)) (cQ _ e);have Pw:∀b∈fp,∃o,s2.heap.get? b=aa o:=λb hb=>let⟨o,e,_⟩:=T.obj 0 _ Sw b hb;⟨o,e⟩
 have Z7:∀b∈fp,∃o,s3.heap.get? b=aa o:=λb hb=>let⟨o,e⟩:=Pw b hb;⟨o,by rw[Z6];exact cQ _ e⟩
 have hfD:∀b∈fp,b≠Dd:=λb hb=>let⟨o,e⟩:=Pw b hb;by rw[<-hDd];exact du (bM e)
 have f3:∀b∈fp,rG X pins (upd H2 Dd (.lst [])) b:=λb hb=>⟨by rw[aB (hfD b hb)];exact(f2 b hb).1,(f2 b hb).2⟩
 have sD:bD H2 (upd H2 Dd (.lst [])):=bF Z5 _;have I4:=S.start (t':=s2.toks+([]:List (Str×ah)).length) I3 f3 (aY _) IP k3 Z7 hvl (λj i v e1 e2=>hvs j i v e1 e2) _ rfl;generalize hX:vV X scope N s3 (upd H2 Dd (.lst [])) fp s3.heap.objs.size (X.pn++pins)=X' at I4;have hg':=hg s3 (upd H2 Dd (.lst [])) fp s3.heap.objs.size (X.pn++pins);have Ox:=ht s3 (upd H2 Dd (.lst [])) fp s3.heap.objs.size (X.pn++pins);have Z8:=he s3 (upd H2 Dd (.lst [])) fp s3.heap.objs.size (X.pn++pins);rw[hX]at hg' Ox Z8;have eK:X'.K=X.K:=by rw[<-hX];rfl
 have eP:X'.prog=X.prog:=by rw[<-hX];rfl
 have eW:X'.w=X.w:=by rw[<-hX];rfl
 have eA:X'.A=X.A:=by rw[<-hX];rfl
 have eE:X'.xe=λ_ _=>False:=by rw[<-hX];rfl
 have eC:X'.calm=true:=by rw[<-hX];exact Be
 have eL:X'.env.locals=s3.heap.objs.size:=by rw[<-hX];rfl
 have eS:X'.s₀=s3:=by rw[<-hX];rfl
 have eX:X'.ex=fp:=by rw[<-hX];rfl
 have eF:X'.fs=Ij X.stack:=by rw[<-hX];rfl
 have eN:X'.pn=X.pn++pins:=by rw[<-hX];rfl
 have eH:X'.H₀=upd H2 Dd (.lst []):=by rw[<-hX];rfl
 have eV:X'.env=xy scope (FP X.env.cells scope.names []) s3.heap.objs.size X.env:=by rw[<-hX];rfl
 have Z9:∀{Hx:Hp},(∀b∈fp,Hx b=none)->∀b∈fp,rG X' [] Hx b:=λ{Hx} hn b hb=>by obtain⟨_,c1,c2,c3,c4,c5⟩:=f3 b hb;have q:=I4.ok.exf b (by rw[eX];exact hb);refine⟨hn b hb,q.1,I4.ok.Im b (by rw[eX];exact hb),.inl (by rw[eX];exact hb),q.2,λp hp=>?_⟩;rw[eN,bq]at hp;exact c5 p hp
 let g':Gh:=⟨g.P os,H2⟩
 have exP:∀{Hx:Hp},bD H2 Hx->Ext (g.P os) (g'.P [Dd]) H2 Hx:=λsx=>⟨λa o p e=>⟨.inl p,λz=>by
  have z':a=Dd:=by simpa using z
  rw[z',Z5]at e;cases e⟩,λa o _ e=>sx a o e⟩
 have ahs:Rel X.K g' (lV nt ds) (bf nt none++vs.map aa) (upd H2 Dd (.lst [])) [Dd]:=by
  refine⟨by simp[lV,hvl,hdl],sD,λi d e=>?_,λi xs e=>(Aq e).elim,λi j xs ys b e=>(Aq e).elim,λb hb=>?_,λi w e=>(K8 e).elim,Gj.none λi w e=>Gv e⟩
  ·obtain⟨h1,h2⟩:=K7 e
   obtain⟨v,q1,q2⟩:=hds.get h2;refine⟨v,?_,Is.ext (exP sD) _ _ q2⟩;rw[iS (by simpa using h1),bG,Ea,q1]<;>rfl
  ·have e:b=Dd:=by simpa using hb
   subst e;exact⟨Z5,_,aP⟩
 have loop:∀s4:aj,Inv X' [] (bf nt none++vs.map aa) (upd H2 Dd (.lst [])) s4->tn 0 s4.heap->
   kQ (az X.prog X.w) X.A (.compLoop (.ListComp elt [⟨tg,iter,ifs,0⟩] scope pos) 0 (.ref it) (.ref Dd) (xy scope (FP X.env.cells scope.names []) s3.heap.objs.size X.env))
    (compPost (az X.prog X.w) X.A X.xe use Qv (.ref Dd) s3.heap.objs.size) s4:=by
  intro s4 J4 Px;refine zC (λn s'=>∃i acc as rest Hx σ',n=xs.length-i/\i<=xs.length/\Inv X' [] σ' Hx s'/\tn i s'.heap/\(∀b∈fp,Hx b=none)/\Hx Dd=aa (.lst acc)/\IsL X.K (g'.P [Dd]) Hx as acc/\
   dO b ct fe (lV nt ds) (xs.drop i)=.ok rest/\as++rest=ys/\Rel X.K g' (lV nt ds) σ' Hx [Dd]) ?_ xs.length
   ⟨0,[],[],ys,_,_,by simp,iR _,J4,Px,λb hb=>(f3 b hb).1,aP,rfl,by rw[Et];exact ec,rfl,ahs⟩
  rintro n s5 ⟨i,acc,as,rest,Hx,σ5,rfl,hi5,J5,Tz,Iz,hD5,ia5,c5,e5,r5⟩;obtain⟨y1,y2⟩:=yl i Hx (g'.P [Dd]) r5.ext (exP r5.ext)
  by_cases hlt:i<xs.length
  ·have hx:xs[i]?=aa xs[i]:=aQ hlt
   obtain⟨go,y3⟩:=y1 _ hx;rw[K6 hlt]at c5;obtain⟨e1,hb5,c6⟩:=R.ju (show(b xs[i] (lV nt ds)).bind _=.ok rest from c5);obtain⟨t,ht5,c7⟩:=R.ju c6;have TI:=T.item X' eP eW eK eC i [] s5 σ5 Hx (λ_ _=>False) J5 (Z9 Iz) Tz go;rw[eA]at TI;refine fz TI λr s6 h6=>?_;obtain⟨u,rfl,h6⟩:=h6;refine fz h6 λ_ s7 h7=>?_;obtain⟨x,H7,J7,rx,hy,st7,fr7⟩:=h7;obtain⟨s57,hix⟩:=y3 x H7 hy;have ix:Is X.K (g'.P [Dd]) H7 xs[i] x:=Is.ext ⟨λa o p _=>p.elim (λz=>z) λz=>r5.fresh z,λ_ _ _ z=>z⟩ _ _ hix;have J7':=J7.pinned (Z9 fr7) (T.obj _ _ st7);have TG:=hg' _ s7 σ5 H7 x u (λσ8 H8=>∃e8,b xs[i] (lV nt ds)=.ok e8/\Rel X.K g' e8 σ8 H8 [Dd]/\H8=H7) J7' rx ⟨g',lV nt ds,[Dd],xs[i],r5.same s57,ix,Ar hb5 λσ8 r8=>⟨e1,hb5,r8,rfl⟩⟩;rw[eP,eW,eA,eE,eV]at TG;refine fz TG λ_ s8 h8=>?_;obtain⟨σ8,H8,J8,e8,hb8,r8,hH8⟩:=h8;rw[hH8]at J8 r8;rw[hb5]at hb8;cases hb8;have TT:=Ox _ s8 σ8 H7 (λt' H9=>t'=t/\bD H7 H9) J8 ⟨g',e1,[Dd],r8,Ar ht5 λH9 s9=>⟨rfl,s9⟩⟩;rw[eP,eW,eA,eE,eV]at TT;refine fz TT λok s9 h9=>?_;obtain⟨H9,J9,rfl,SA⟩:=h9;obtain⟨ts,hts,Xx⟩:=hb1 ds _ _ hb5;have Lb:∀{σx:St}{Hy:Hp}{sx:aj},Inv X' ([]++yI fp s7.heap) σx Hy sx->tn (i+1) sx.heap/\∀b∈fp,Hy b=none:=λ{σx Hy sx} Jx=>
    ⟨T.keep _ _ _ st7 λb hb o e=>(Jx.pin (b,o) (cK _ (cK _ (kg hb e)))).1,λb hb=>by obtain⟨o,e,d⟩:=T.obj _ _ st7 b hb;exact(Jx.pin (b,o) (cK _ (cK _ (kg hb e)))).2.1⟩
   cases ok with
   |false=>
    rw[if_neg gE];have c8:dO b ct fe (lV nt ds) (xs.drop (i+1))=.ok rest:=c7;obtain⟨k1,k2⟩:=Lb J9;exact⟨xs.length-(i+1),by lia,i+1,acc,as,rest,H9,σ8,rfl,hlt,J9.oK,k1,k2,SA _ _ (s57 _ _ hD5),(ia5.same s57).same SA,c8,e5,
     K9 r8 hts Xx (.same SA) (r8.ext.trans SA) ⟨_,SA _ _ (s57 _ _ hD5)⟩⟩
   |true=>
    rw[if_pos rfl];obtain⟨d,he5,c8⟩:=R.ju (show(fe e1).bind _=.ok rest from c7);obtain⟨Py,hr5,c9⟩:=R.ju c8;have c9':rest=d::Py:=by cases c9;rfl
    subst c9';have TE:=Z8 _ s9 σ8 H9 (λv Gw=>bD H9 Gw/\Is X.K (g'.P [Dd]) Gw d v) J9 ⟨g',e1,[Dd],r8.same SA,Ar he5 λv Gw s10 i10=>⟨s10,i10⟩⟩;rw[eP,eW,eA,eE,eV]at TE;refine fz TE λy s10 h10=>?_;obtain⟨v,Gw,J10,rv,UU,iv⟩:=h10;have aab:Gw Dd=aa (.lst acc):=UU _ _ (SA _ _ (s57 _ _ hD5));have adQ:IsL X.K (g'.P [Dd]) Gw as acc:=((ia5.same s57).same SA).same UU;have TM:=fX (X:=X') _ s10 σ8 Gw (.ref Dd) [v] (.ref Dd) [y] (λ_ H11=>H11=upd Gw Dd (.lst (acc++[v]))) J10 rfl (.cons rv .nil) ⟨Dd,acc,v,rfl,rfl,aab,by
     rw[adQ.length];have:(as++d::Py).length<=aH:=by rw[e5];exact hz
     rw[b9,bQ]at this;lia,rfl⟩
    rw[eP,eW,eA,eE]at TM;refine fz TM λ_ s11 h11=>?_;obtain⟨v',H11,J11,_,rfl⟩:=h11;obtain⟨k1,k2⟩:=Lb J11;have exD:Ext (g'.P [Dd]) (g'.P [Dd]) Gw (upd Gw Dd (.lst (acc++[v]))):=⟨λ_ _ p _=>p,λa o p e=>by rw[aB (λz=>p.2 (by simp[z]))];exact e⟩
    have ahy:bD H2 Gw:=(r8.ext.trans SA).trans UU;refine⟨xs.length-(i+1),by lia,i+1,acc++[v],as++[d],Py,_,σ8,rfl,hlt,J11.oK,k1,k2,aP,IsL.ext exD _ _ (adQ.app (.one iv)),hr5,by rw[bC];exact e5,?_⟩;exact K9 (r8.same (SA.trans UU)) hts Xx exD (λa o e=>by rw[aB (aX (show H2 a=aa o from e) Z5)];exact ahy a o e) ⟨_,aP⟩
  ·have e:i=xs.length:=by lia
   subst e;rw[Eu]at c5;have c5':rest=[]:=by cases c5;rfl
   subst c5';rw[bq]at e5;subst e5;have TD:=T.done X' eP eW eK eC xs.length [] s5 σ5 Hx (λ_ _=>False) J5 (Z9 Iz) Tz (y2 rfl);rw[eA]at TD;refine fz TD λr s6 h6=>?_;obtain⟨rfl,J6⟩:=h6;obtain⟨m6,hn6,_⟩:=J6.loc;rw[eL]at hn6;have un6:Un (Ij X.stack) fp (upd H2 Dd (.lst [])) Hx s3.heap s6.heap:=by have u:=J6.base;rw[eF,eX,eH,eS]at u;exact u
   have hxC:Hx s3.heap.objs.size=none:=by have:=J6.free;rw[eL]at this;exact this
   have aad:vO X.prog X.w Hx s6.heap:=by have z:=J6.hok;rw[eP,eW]at z;exact z
   have os6:s6.os=s3.os:=by have:=J6.os;rw[eS]at this;exact this
   have I6:Inv X pins σ Hx s6:=I3.Xn (s':=s6) os6 un6 aad J6.bare λb hb=>by obtain⟨_,c1,c2,c3,c4,c5⟩:=f3 b hb;exact⟨c3,c1,c4,c5⟩
   have fC:rG X pins Hx s3.heap.objs.size:=⟨hxC,(I3.Nh (aY _) (I3.hok.fresh (aY _))).2⟩
   refine q Dd s3.heap.objs.size acc Hx s6 I6 ⟨m6,hn6⟩ fC (UR.trans r5.ext) (UR.free Z5) hD5 (IsL.ext ⟨λa o p _=>?_,λ_ _ _ z=>z⟩ _ _ ia5);have z:g.P os a:=p.1.elim (λz=>z) λz=>r2.fresh z;exact⟨z.1,λhm=>(aO.mp hm).elim (λz=>p.2 (by simp[z])) z.2⟩
 have Px:tn 0 h₁:=T.keep _ _ _ Sw λb hb o e=>k3 b o (by rw[Z6];exact cQ _ e);have eG:({heap:=h₁,gens:=s3.gens,drawn:=s3.drawn,toks:=s2.toks+([]:List (Str×ah)).length,os:=s3.os}:aj)={heap:=h₁,gens:=s2.gens,drawn:=s2.drawn,toks:=s2.toks+([]:List (Str×ah)).length,os:=s2.os}:=by rw[<-hs3]
 rw[eG]at I4;exact UW (loop _ I4 Px) (T.self _ 0 _ _ _ Px (loop _ I4 Px))
variable{elt tg iter:ao}{ifs:List ao}{fi:DE->R (List D)}{b:D->DE->R DE}{ct:DE->R Bool}{fe:DE->R D}
def sZ(S:lg X scope N nt caps)(Be:X.calm=true)(hi:PI X tg iter (tIS X.K E fi))
  (hb1:∀ds d e,b d (lV nt ds)=.ok e->∃ts,e=ts++ds.map .val/\ts.length=nt)
  (hg:∀s H fp C pl,PG (vV X scope N s H fp C pl) tg (tG X.K EN b))(ht:∀s H fp C pl,PTs (vV X scope N s H fp C pl) ifs (tT X.K EN ct))(he:∀s H fp C pl,PE (vV X scope N s H fp C pl) elt (tD X.K EN fe))
  (hs:∀x,rJ iter X.env x=aW x:=by intro _;rfl):
  PE X (.ListComp elt [⟨tg,iter,ifs,0⟩] scope pos) (tF X.K E λenv=>(fi env).bind λxs=>(ik env caps).bind λds=>(dO b ct fe (lV nt ds) xs).ne.bind fit):=by
 intro pins s σ H Q I h;obtain⟨g,env,os,r,m⟩:=h;rw[eval_ListComp];refine La S Be hi hb1 hg ht he hs I r (m.mono λys _ q Dd C acc Hx s6 I6 hn fC sm hD hx ia=>?_);obtain⟨m6,hn6⟩:=hn;refine⟨m6,hn6,λh7 hs7=>⟨.ref Dd,Hx,CV (fp:=[C]) (t':=s6.toks) I6 (λb hb=>by
  have z:b=C:=by simpa using hb
  rw[z];exact fC) (λb u hb e=>(hs7.2 b (λz=>hb (by simp[z]))).trans e),rfl,q Dd acc Hx sm hD hx ia⟩⟩
def adS(i:Nat){x:Str}{pos' p:Pos}(S:lg X scope N nt caps)(Be:X.calm=true)(hi:PI X tg iter (tIS X.K E fi))
  (hb1:∀ds d e,b d (lV nt ds)=.ok e->∃ts,e=ts++ds.map .val/\ts.length=nt)
  (hg:∀s H fp C pl,PG (vV X scope N s H fp C pl) tg (tG X.K EN b))(ht:∀s H fp C pl,PTs (vV X scope N s H fp C pl) ifs (tT X.K EN ct))(he:∀s H fp C pl,PE (vV X scope N s H fp C pl) elt (tD X.K EN fe))(hN:X.N.Nodup)
  (hs:∀x,rJ iter X.env x=aW x:=by intro _;rfl)(Xy:X.N[i]?=aa x:=by rfl)(hx:Loc X.env.scope x:=by omega)
  (hf:X.fn x=true\/X.env.scope.names.lookup x=aa .local:=by omega)
  (hsw:fK (.ListComp elt [⟨tg,iter,ifs,0⟩] scope p) (aa (.Name x pos')) pos.line X.env=aW true:=by rfl):
  PS X (.Assign [.Name x pos'] (.ListComp elt [⟨tg,iter,ifs,0⟩] scope p) pos) (tS X.K E λenv=>((fi env).bind λxs=>(ik env caps).bind λds=>(dO b ct fe (lV nt ds) xs).ne.bind fit).bind λys=>.ok (.nx (env.set i (.own ys)))):=by
 intro pins s σ H De I h;obtain⟨g,env,os,r,m⟩:=h;rw[exec_Assign_Name_used _ _ _ _ hsw,arm_evalThenUse_ListComp];refine aV (DP (aV (aV ?_)));refine La (use:=aa (kO (.Name x pos') X.env)) S Be hi hb1 hg ht he hs I r (m.bind.mono λys _ q Dd C acc Hx s6 I6 hn fC sm hD Cn ia=>?_);obtain⟨m6,o6,es6,ep6,ho6,hd6,hk6⟩:=hn;have fC':∀b∈[C],rG X pins Hx b:=λb hb=>by
  have z:b=C:=by simpa using hb
  rw[z];exact fC
 have J6:=I6.pinned fC' λb hb=>by
  have z:b=C:=by simpa using hb
  subst z;exact⟨o6,ho6,λv z=>by rw[hd6]at z;cases z⟩
 have TG:=uT (pos:=pos') hN Xy hx hf _ s6 σ Hx (.ref Dd) (.ref Dd) (λσ7 H7=>σ7=σ.set i (aa (.ref Dd))/\H7=Hx) J6 rfl ⟨rfl,rfl⟩;refine fz TG λ_ s7 h7=>?_;obtain⟨σ7,H7,J7,rfl,rfl⟩:=h7;have e7:s7.heap.get? C=aa o6:=(J7.pin (C,o6) (cK _ (cK _ (kg (by simp) ho6)))).1;refine⟨m6,⟨o6,es6,ep6,e7,hd6,hk6⟩,λh8 hs8=>ck (ck ?_)⟩;refine⟨_,H7,CV (fp:=[C]) (t':=s7.toks) J7.oK fC' (λb u hb e=>(hs8.2 b (λz=>hb (by simp[z]))).trans e),?_⟩;exact q _ H7 (Dd::os) (r.adw sm i hD Cn ia) (.new sm hD)
end
section
variable{X:Cx}{pins:List (ae×Obj)}{σ:St}{H:Hp}{s:aj}{h':aC}
def UX{fp:List ae}{t:ae}{o:HO}{t':Nat}(I:Inv X pins σ H s)(hf:∀b∈fp,rG X pins H b)(k:∀b u,b∉fp->s.heap.get? b=aa u->h'.get? b=aa u)(hex:∀b∈fp,∀u,s.heap.get? b=aa u->∃u',h'.get? b=aa u')(ht:s.heap.objs.size<=t)
  (new:gB X.prog X.w (upd H t o) h' t o):Inv X pins σ (upd H t o) {s with heap:=h',toks:=t'}:=by
 have hn:H t=none:=I.hok.fresh ht;have nfp:∀b u,H b=aa u->b∉fp:=λb u e z=>by rw[(hf b z).1]at e;cases e
 refine I.step (g':=s.gens) (d':=s.drawn) (ch:=fp) (λb hb=>⟨(hf b hb).2.2.2.1,(hf b hb).2.1,(hf b hb).2.2.2.2.1,(hf b hb).2.2.2.2.2⟩) (λb u _ _ hc e _=>k b u hc e) (λb u _ _ hc e _=>⟨u.slots,k b u hc e⟩)
  (λb u _ e n=>by rw[aB (du (cY (bM e) ht))];exact n) (λb u hc e=>⟨u,k b u hc e⟩)
  (λb xs e=>by rw[aB (aX e hn)];exact e) (λb u xs e=>by rw[aB (aX e hn)];exact e) (λb ps e=>⟨#[],by rw[aB (aX e hn),e];simp⟩)
  (λm hm=>?_) (λb u e=>?_) I.bare
 ·obtain⟨ob,es,ep,ho,r⟩:=hm
  exact⟨ob,es,ep,k _ ob (λz=>(hf _ z).2.1 rfl) ho,r⟩
 ·by_cases hb:b=t
  ·subst hb;rw[aP]at e;cases e;exact new
  ·rw[aB hb]at e
   refine(I.hok b u e).Il (λc v hc q=>k c v ?_ q) (λc q=>by rw[aB (aX q hn)];exact q) λc xs q=>by rw[aB (aX q hn)];exact q
   rcases hc with z|z
   ·rw[z];exact nfp b u e
   ·exact nfp c _ z
end
def Ite(K:ak)(l:ae):It:=
 ⟨λi H=>∃xs x,fG K H l xs/\xs[i]?=aa x,λi H x H'=>∃t y,H t=none/\H'=upd H t (.tup [.int (i:Nat),y])/\x=.ref t/\∀xs,fG K H l xs->xs[i]?=aa y,λi H=>∃xs,fG K H l xs/\xs.length<=i⟩
def NF{P:aR}{w:aE}{K:ak}{elts:List ao}{kk:Nat}{pp:Pos}(l e it:ae)(hei:e≠it):
  Turn P w K (.Tuple elts kk pp) (Ite K l) [e,it] e (λi h=>(∃old,IsEnum h e it (i:Nat) old)/\h.IsListIter it l i) where
 mem:=by simp
 obj:=λi h st b hb=>by
  obtain⟨⟨old,he⟩,o,e2,c,d⟩:=st;rcases aO.mp hb with rfl|hb
  ·exact⟨_,he,λv z=>by cases z⟩
  ·have z:b=it:=by simpa using hb
   subst z;exact⟨o,e2,λv z=>by rw[d]at z;cases z⟩
 keep:=λi h h' st k=>by obtain⟨⟨old,he⟩,hit⟩:=st;exact⟨⟨old,k e (by simp) _ he⟩,hit.at λo q=>k it (by simp) o q⟩
 item:=by
  intro X hP hw hK hc i pins s σ H E I hf st hg;subst hP hw hK;obtain⟨xs,x,hq,hx⟩:=hg;obtain⟨its,rv,p,hz⟩:=I.list hq;obtain⟨u,hu,ru⟩:=rv.get hx;obtain⟨⟨old,he⟩,hit⟩:=st;refine wpAny_pyNext_enum_item he hit p.isList (x:=u) (by simpa using hu) hei λh' ho adT hT hsz hk=>?_;refine⟨_,rfl,wpAny_letOwnedTupleGo_enum ho λh'' adU UY=>?_⟩;have hlt:e<s.heap.objs.size:=bM he;have ahC:it<s.heap.objs.size:=by obtain⟨_,z,_⟩:=hit;exact bM z
  have kk:∀b o,b∉[e,it]->s.heap.get? b=aa o->h''.get? b=aa o:=λb o hb q=>by have h1:b≠e:=λz=>hb (by simp[z]);have h2:b≠it:=λz=>hb (by simp[z]);exact(UY.2 b h1).trans (hk b o h1 h2 q)
  have ahD:h''.get? s.heap.objs.size=aa {cls:=.type "tuple",data:=.seq #[.int i s.toks,u]}:=(UY.2 _ (DT hlt)).trans hT;have hn:H s.heap.objs.size=none:=I.hok.fresh (aY _);refine⟨.ref s.heap.objs.size,upd H s.heap.objs.size (.tup [.int (i:Nat),x]),?_,rfl,⟨_,x,hn,rfl,rfl,λys hy=>by rw[I.wR hy hq];exact hx⟩,⟨⟨u,by simpa using adU⟩,adT.at λo q=>(UY.2 it hei.symm).trans q⟩,λb hb=>?_⟩
  ·refine UX (s:=s) I hf kk (λb hb u hu=>?_) (aY _) ⟨(by show 2<=aH;decide),[.int i s.toks,u],.cons ⟨_,rfl⟩ (.cons ru .nil),⟨_,ahD,rfl,_,rfl⟩⟩
   rcases aO.mp hb with rfl|hb
   ·exact⟨_,adU⟩
   ·have z:b=it:=by simpa using hb
    subst z;obtain⟨o,q,_⟩:=adT;exact⟨o,(UY.2 b hei.symm).trans q⟩
  ·rw[aB]
   ·exact(hf b hb).1
   ·rcases aO.mp hb with rfl|hb
    ·exact du hlt
    ·have z:b=it:=by simpa using hb
     subst z;exact du ahC
 done:=by
  intro X hP hw hK hc i pins s σ H E I hf st hg;subst hP hw hK;obtain⟨xs,hq,hx⟩:=hg;obtain⟨its,rv,p,hz⟩:=I.list hq;obtain⟨⟨old,he⟩,hit⟩:=st;have hl:=rv.length;refine wpAny_pyNext_enum_end (I.ok.hd hc) he hit p.isList (by simp;lia) λh' eb=>⟨rfl,?_⟩
  exact CV (fp:=[e,it]) (t':=s.toks) I hf λb o hb q=>eb b o (λz=>hb (by simp[z])) q
 self:=λ_ _ _ _ _ st h=>by obtain⟨⟨old,he⟩,_⟩:=st;exact UZ he h
def Itv(K:ak)(l:ae)(n:Nat):It:=
 ⟨λi H=>i<n/\∃xs x,fG K H l xs/\xs.length=n/\xs[n-1-i]?=aa x,λi H x H'=>H'=H/\∀xs,fG K H l xs->xs[n-1-i]?=aa x,λi H=>i=n/\∃xs,fG K H l xs⟩
def Pz{P:aR}{w:aE}{K:ak}{tg:ao}(l it:ae)(n:Nat):Turn P w K tg (Itv K l n) [it] it (λi h=>h.IsRevIter it l ((n:Int)-1-(i:Nat))) where
 mem:=by simp
 obj:=λi h st b hb=>by
  have z:b=it:=by simpa using hb
  subst z;obtain⟨o,e,c,d⟩:=st;exact⟨o,e,λv z=>by rw[d]at z;cases z⟩
 keep:=λi h h' st k=>st.at λo e=>k it (by simp) o e
 item:=by
  intro X hP hw hK hc i pins s σ H E I hf st hg;subst hP hw hK;obtain⟨hin,xs,x,hq,hl,hx⟩:=hg;obtain⟨its,rv,p,hz⟩:=I.list hq;obtain⟨u,hu,ru⟩:=rv.get hx;have e1:(n:Int)-1-(i:Nat)=((n-1-i:Nat):Int):=by lia
  rw[e1]at st;refine wpAny_pyNext_rev_item st p.isList (x:=u) (by simpa using hu) λh' Tu sb=>?_;have I1:Inv X pins σ H {s with heap:=h'}:=CV (fp:=[it]) (t':=s.toks) I hf λb o hb q=>(sb.2 b (λz=>hb (by simp[z]))).trans q;obtain⟨o,e,c,d⟩:=id Tu;have e2:((n-1-i:Nat):Int)-1=(n:Int)-1-((i+1:Nat):Int):=by lia
  rw[e2]at Tu;exact⟨u,rfl,OT (s:={s with heap:=h'}) e c d (by decide) ⟨x,H,I1,ru,⟨rfl,λys hy=>by rw[I.wR hy hq];exact hx⟩,Tu,λb hb=>(hf b hb).1⟩⟩
 done:=by
  intro X hP hw hK hc i pins s σ H E I hf st hg;subst hP hw hK;obtain⟨rfl,xs,hq⟩:=hg;have e1:(i:Int)-1-(i:Nat)= -1:=by lia
  rw[e1]at st;exact wpAny_pyNext_rev_end (I.ok.hd hc) st λh' eb=>⟨rfl,CV (fp:=[it]) (t':=s.toks) I hf λb o hb q=>eb b o (λz=>hb (by simp[z])) q⟩
 self:=λ_ _ _ _ _ st h=>U0 st h
section
variable{X:Cx}{E:Str->Hp->Prop}{pos:Pos}
def je(xs:List D):List D:=xs.zipIdx.map λp=>.tup [.int (p.2:Nat),p.1]
def yS{xs:List D}{i:Nat}{d:D}(h:(je xs)[i]?=aa d):∃x,xs[i]?=aa x/\d=.tup [.int (i:Nat),x]:=by
 unfold je at h;rw[bG,List.getElem?_zipIdx]at h;cases q:xs[i]? with
 |none=>rw[q]at h;cases h
 |some x=>
  rw[q]at h;refine⟨x,rfl,?_⟩;have h':aa (D.tup [.int ((0+i:Nat):Int),x])=aa d:=h;rw[jv]at h';exact(cj.inj h').symm
def iE{a:ao}{elts:List ao}{kk:Nat}{pp p:Pos}{f:DE->R D}(hm:X.mg "enumerate"=none)(ha:PE X a (tD X.K E f))(hg:Gl X "enumerate":=by rfl)(hs:ar [a] X.env=[(false,aw a X.env)]:=by rfl):
  PI X (.Tuple elts kk pp) (.Call (.Name "enumerate" p) [a] [] pos) (tI X.K E λenv=>(f env).bind λd=>(yB d).bind λxs=>.ok (je xs)):=by
 intro pins s σ H Rr I h;obtain⟨g,env,os,r,m⟩:=h;have hpa:PA X [a] (Ou X.K E λenv=>(f env).bind λx=>(R.ok []).bind λxs=>.ok (x::xs)):=aZ ha cH hs;refine uW (lZ I hg hm boot_enumerate (mH (fz (hpa pos pins s σ H (λvs H1=>bD H H1/\∃d,f env=.ok d/\∃v,vs=[v]/\Is X.K (g.P os) H1 d v/\Good E g.H₀ ((yB d).bind λxs=>.ok (je xs)) (λxs=>∀J H1,bD H H1->Yl X.K (g.P os) J H1 xs->Rr J H1)) I
  ⟨g,env,os,r,?_⟩) λus s1 ⟨vs,H1,I1,r1,q1⟩=>?_) hs rfl))
 ·exact Good.KZ m.bind (λd e q=>by
   show Good E g.H₀ (R.ok [d]) _;exact λvs H' s' i'=>by obtain⟨v,rfl,iv⟩:=IsL.Ep i';exact⟨s',d,e,v,rfl,iv,q⟩)
 ·obtain⟨s1',d,_,v,rfl,iv,q⟩:=q1
  cases d with
  |lst xs=>
   obtain⟨l,ws,rfl,h1,h2⟩:=iv;obtain⟨u,rfl,ru⟩:=vals1 r1;cases ru;obtain⟨its,rv,pl,hz⟩:=I1.list h1.sq;refine call_enumerate_list pl.isList λh' he hit hsz hk=>?_;refine UZ he ?_;have I2:Inv X pins σ H1 {s1 with heap:=h'}:=I1.kept (t':=s1.toks) hk;have f1:∀b∈[s1.heap.objs.size+1,s1.heap.objs.size],rG X pins H1 b:=λb hb=>by
    have SD:s1.heap.objs.size<=b:=by simp only [aO,jw,or_false]at hb;rcases hb with rfl|rfl<;>lia
    exact I1.Nh SD (I1.hok.fresh SD)
   refine⟨s1.heap.objs.size+1,[s1.heap.objs.size+1,s1.heap.objs.size],_,Ite X.K l,H1,rfl,I2,NF l _ _ (DT (D7 _)),⟨⟨_,he⟩,hit⟩,f1,?_⟩;refine(show∀J H1,bD H H1->Yl X.K (g.P os) J H1 (je xs)->Rr J H1 from q) _ H1 s1' λi H' P' ex=>⟨λd hd=>?_,λhi=>?_⟩
   ·obtain⟨x,hx,rfl⟩:=yS hd
    obtain⟨y,hy,iy⟩:=(IsL.ext ex _ _ h2).get hx;refine⟨⟨ws,y,(h1.ext ex).sq,hy⟩,λz H2 hyl=>?_⟩;obtain⟨t,y',ht,rfl,rfl,hall⟩:=hyl;have e2:=hall ws (h1.ext ex).sq;rw[hy]at e2;cases e2;refine⟨bF ht _,t,_,rfl,.inl ⟨.inr ht,.inl aP⟩,IsL.cons rfl (IsL.one (Is.ext ⟨λ_ _ p _=>.inl p,λa o _ e=>bF ht _ a o e⟩ _ _ iy))⟩
   ·refine⟨ws,(h1.ext ex).sq,?_⟩
    rw[IsL.length h2];refine wZ ?_;have:(je xs).length=xs.length:=by simp[je]
    lia
  |non=>exact q.elim
  |bl _=>exact q.elim
  |int _=>exact q.elim
  |str _=>exact q.elim
  |exc _=>exact q.elim
  |fn _=>exact q.elim
  |tup _=>exact q.elim
def zD:eO "reversed"=aa (.type "reversed"):=by decide +kernel
def iV{a tg:ao}{p:Pos}{f:DE->R D}(hm:X.mg "reversed"=none)(ha:PE X a (tD X.K E f))(hg:Gl X "reversed":=by rfl)(hs:ar [a] X.env=[(false,aw a X.env)]:=by rfl):
  PI X tg (.Call (.Name "reversed" p) [a] [] pos) (tI X.K E λenv=>(f env).bind λd=>(yB d).bind λxs=>.ok xs.reverse):=by
 intro pins s σ H Rr I h;obtain⟨g,env,os,r,m⟩:=h;have hpa:PA X [a] (Ou X.K E λenv=>(f env).bind λx=>(R.ok []).bind λxs=>.ok (x::xs)):=aZ ha cH hs;refine uW (lZ I hg hm zD (mH (fz (hpa pos pins s σ H (λvs H1=>bD H H1/\∃d,f env=.ok d/\∃v,vs=[v]/\Is X.K (g.P os) H1 d v/\Good E g.H₀ ((yB d).bind λxs=>.ok xs.reverse) (λxs=>∀J H1,bD H H1->Yl X.K (g.P os) J H1 xs->Rr J H1)) I
  ⟨g,env,os,r,?_⟩) λus s1 ⟨vs,H1,I1,r1,q1⟩=>?_) hs rfl))
 ·exact Good.KZ m.bind (λd e q=>by
   show Good E g.H₀ (R.ok [d]) _;exact λvs H' s' i'=>by obtain⟨v,rfl,iv⟩:=IsL.Ep i';exact⟨s',d,e,v,rfl,iv,q⟩)
 ·obtain⟨s1',d,_,v,rfl,iv,q⟩:=q1
  cases d with
  |lst xs=>
   obtain⟨l,ws,rfl,h1,h2⟩:=iv;obtain⟨u,rfl,ru⟩:=vals1 r1;cases ru;obtain⟨its,rv,pl,hz⟩:=I1.list h1.sq;have hl:=rv.length;have hl2:ws.length=xs.length:=IsL.length h2;refine call_reversed_list pl.isList ?_;have e0:((its.toArray.size:Nat):Int)-1=(xs.length:Int)-1:=by rw[cR];lia
   rw[e0];have hit:({s1 with heap:=s1.heap.push (U1 l ((xs.length:Int)-1))}:aj).heap.IsRevIter s1.heap.objs.size l ((xs.length:Int)-1):=⟨_,iP _ rfl,rfl,rfl⟩
   refine U0 hit ?_;have I2:Inv X pins σ H1 {s1 with heap:=s1.heap.push (U1 l ((xs.length:Int)-1))}:=I1.kept (t':=s1.toks) λb o e=>cQ _ e;have f1:∀b∈[s1.heap.objs.size],rG X pins H1 b:=λb hb=>by
    have z:b=s1.heap.objs.size:=by simpa using hb
    subst z;exact I1.Nh (aY _) (I1.hok.fresh (aY _))
   refine⟨_,[s1.heap.objs.size],_,Itv X.K l xs.length,H1,rfl,I2,Pz l _ xs.length,?_,f1,?_⟩
   ·have e1:(xs.length:Int)-1-((0:Nat):Int)=(xs.length:Int)-1:=by lia
    rw[e1];exact hit
   refine(show∀J H1,bD H H1->Yl X.K (g.P os) J H1 xs.reverse->Rr J H1 from q) _ H1 s1' λi H' P' ex=>⟨λd hd=>?_,λhi=>?_⟩
   ·have hi:i<xs.length:=by
     have:=(bz.mp hd).1;simpa using this
    rw[rT hi]at hd;obtain⟨y,hy,iy⟩:=(IsL.ext ex _ _ h2).get hd;refine⟨⟨hi,ws,y,(h1.ext ex).sq,hl2,hy⟩,λz H2 hyl=>?_⟩;obtain⟨rfl,hall⟩:=hyl;have e2:=hall ws (h1.ext ex).sq;rw[hy]at e2;cases e2;exact⟨bD.refl _,Is.ext ⟨λ_ _ p _=>.inl p,λ_ _ _ e=>e⟩ _ _ iy⟩
   ·exact⟨by simpa using hi.symm,ws,(h1.ext ex).sq⟩
  |non=>exact q.elim
  |bl _=>exact q.elim
  |int _=>exact q.elim
  |str _=>exact q.elim
  |exc _=>exact q.elim
  |fn _=>exact q.elim
  |tup _=>exact q.elim
end
def Ex:D->String
 |.non=>"NoneType"
 |.bl _=>"bool"
 |.int _=>"int"
 |.str _=>"str"
 |.lst _=>"list"
 |.tup _=>"tuple"
 |.exc _=>"tuple"
 |.fn _=>"tuple"
def oX(t T:String):Bool:=t==T||(t=="bool"&&T=="int")
def Gx(t T:String):Option Bool:=if((rC t)==(rC T))=true then aa true else if PySem.W.kitMeta T=true then(fastBuiltinMro t).map (·.contains (.type T))else none
def U3(K:ak)(t T:String):Kj K (.type t) (.type T)=Gx t T:=rfl
def IQ(T:String):Prop:=∀d:D,Gx (Ex d) T=aa (oX (Ex d) T)
def Au{T:String}(h:Gx "NoneType" T=aa (oX "NoneType" T)/\Gx "bool" T=aa (oX "bool" T)/\Gx "int" T=aa (oX "int" T)/\Gx "str" T=aa (oX "str" T)/\Gx "list" T=aa (oX "list" T)/\Gx "tuple" T=aa (oX "tuple" T)):IQ T:=λd=>by
 cases d with
 |non=>exact h.1
 |bl _=>exact h.2.1
 |int _=>exact h.2.2.1
 |str _=>exact h.2.2.2.1
 |lst _=>exact h.2.2.2.2.1
 |tup _=>exact h.2.2.2.2.2
 |exc _=>exact h.2.2.2.2.2
 |fn _=>exact h.2.2.2.2.2
def PB:IQ "int":=Au (by decide +kernel)
def Lc:IQ "bool":=Au (by decide +kernel)
def Ld:IQ "list":=Au (by decide +kernel)
def PD:IQ "tuple":=Au (by decide +kernel)
section
variable{X:Cx}{E:Str->Hp->Prop}{pos:Pos}
def aae{pins:List (ae×Obj)}{σ:St}{H:Hp}{s:aj}{A:bh}{E:ah->aj->Prop}{Q:ah->aj->Prop}{d:D}{x:V}{u:ah}{T:String}{P:ae->Prop}(I:Inv X pins σ H s)(rx:RelV x u)(hd:Is X.K P H d x)(hne:∀n,d≠.exc n/\d≠.fn n)(kt:IQ T)(h:∀tk,Q (.bool (oX (Ex d) T)) {s with toks:=tk}):
  aA (az X.prog X.w) A (call (.builtin "isinstance") [u,.type T]) Q E s:=by
 have e:Kj X.K (.type (Ex d)) (.type T)=aa (oX (Ex d) T):=(U3 _ _ _).trans (kt d);cases d with
 |non=>cases hd;exact uY I rx .non e h
 |bl b=>cases hd;exact uY I rx (.bl b) e h
 |int b=>cases hd;exact uY I rx (.int b) e h
 |str b=>cases hd;exact uY I rx (.str b) e h
 |lst ds=>
  obtain⟨a,vs,rfl,h1,h2⟩:=hd;cases rx;obtain⟨its,rv,⟨o,n,e1,c1,d1,t1⟩,hz⟩:=I.list h1.sq;exact jQ Kl I.yH ⟨o,e1,c1⟩ e (λz=>nomatch z) h
 |tup ds=>
  obtain⟨a,vs,rfl,h1,h2⟩:=hd;cases rx;obtain⟨its,rv,⟨o,e1,c1,d1⟩,hz⟩:=I.tuple h1.sq;exact jQ T3 I.yH ⟨o,e1,c1⟩ e (λz=>nomatch z) h
 |exc n=>exact((hne n).1 rfl).elim
 |fn n=>exact((hne n).2 rfl).elim
def IS(T:String)(d:D):R D:=match d with
 |.exc _=>.bad
 |.fn _=>.bad
 |d=>.ok (.bl (oX (Ex d) T))
def aaf{T:String}{d:D}(h:∀n,d≠.exc n/\d≠.fn n):IS T d=.ok (.bl (oX (Ex d) T)):=by
 cases d with
 |exc n=>exact((h n).1 rfl).elim
 |fn n=>exact((h n).2 rfl).elim
 |_=>rfl
def Cz:eO "isinstance"=aa (.builtin "isinstance"):=by decide +kernel
def PF:eO "int"=aa (.type "int"):=by decide +kernel
def Le:eO "bool"=aa (.type "bool"):=by decide +kernel
def rV:eO "list"=aa (.type "list"):=by decide +kernel
def Gy:eO "tuple"=aa (.type "tuple"):=by decide +kernel
def ki:eO "len"=aa (.builtin "len"):=by decide +kernel
def PH:eO "abs"=aa (.builtin "abs"):=by decide +kernel
def aag:eO "max"=aa (.builtin "max"):=by decide +kernel
def IU{T:String}{x:Str}{p p2:Pos}{a:ao}{f:DE->R D}(kt:IQ T)(hv:eO x=aa (.type T))(hm:X.mg "isinstance"=none)(hmt:X.mg x=none)(ha:PE X a (tB X.K E f))(hg:Gl X "isinstance":=by rfl)(hgt:Gl X x:=by rfl)
  (hn:x≠"__name__":=by decide)(hdb:(x==("__debug__":Str))=false:=by decide)
  (hs:ar [a,.Name x p2] X.env=(false,aw a X.env)::ar [.Name x p2] X.env:=by rfl)(hpl:(bp pos (ar [.Name x p2] X.env)).any (·.1)=false:=by rfl)(hs2:ar [.Name x p2] X.env=(false,aw (.Name x p2) X.env)::ar [] X.env:=by rfl):
  PE X (.Call (.Name "isinstance" p) [a,.Name x p2] [] pos) (tD X.K E λenv=>(f env).bind (IS T)):=by
 have hty:PE X (.Name x p2) (tC (.ty T)):=Te hgt hmt hv rfl hn hdb;refine imp (nj (r:=λxs H Q=>∃d v,xs=[v,.ty T]/\(∀n,d≠.exc n/\d≠.fn n)/\Is X.K Tr H d v/\Q (.bl (oX (Ex d) T)) H) ?_ hg hm Cz (aS ha (aS hty bA hs2) hs) (by decide) (by decide) hs hpl) λσ H Q ⟨g,env,os,r,m⟩=>⟨g,env,os,r,m.bind.mono λd _ q v H' s i=>?_⟩
 ·intro pins s σ H xs us Q I r h
  obtain⟨d,v,rfl,hne,hd,q⟩:=h;obtain⟨u,w,rfl,ru,sX⟩:=vals2 r;have e:w=.type T:=sX;subst e;exact aae I ru hd hne kt λtk=>⟨.bl _,H,I.tok _,rfl,q⟩
 ·by_cases hne:∀n,d≠.exc n/\d≠.fn n
  ·rw[aaf hne]at q
   exact⟨d,v,rfl,hne,i,q _ H' s rfl⟩
  ·cases d with
   |exc n=>exact q.elim
   |fn n=>exact q.elim
   |_=>exact(hne λn=>⟨λz=>(nomatch z),λz=>(nomatch z)⟩).elim
def bools:List D->Option (List Bool)
 |[]=>aa []
 |.bl b::r=>(bools r).map (b::·)
 |_::_=>none
end
noncomputable def Xz:D->D->Option Bool
 |.non,.non=>aa true
 |.bl a,.bl b=>aa (a==b)
 |.int a,.int b=>aa (a==b)
 |.str a,.str b=>aa (a==b)
 |.bl a,.int b=>aa ((if a then 1 else 0)==b)
 |.int a,.bl b=>aa (a==(if b then 1 else 0))
 |.non,.bl _=>aa false
 |.non,.int _=>aa false
 |.non,.str _=>aa false
 |.bl _,.non=>aa false
 |.bl _,.str _=>aa false
 |.int _,.non=>aa false
 |.int _,.str _=>aa false
 |.str _,.non=>aa false
 |.str _,.bl _=>aa false
 |.str _,.int _=>aa false
 |_,_=>none
def vW(f:D->D->Option Bool):List D->List D->Option Bool
 |x::xs,y::ys=>(f x y).bind λb=>(vW f xs ys).map (b&&·)
 |_,_=>aa true
def yD:Nat->D->D->Option Bool
 |0,x,y=>Xz x y
 |n+1,x,y=>match x,y with
  |.lst xs,.lst ys=>if xs.length=ys.length then vW (yD n) xs ys else aa false
  |.tup xs,.tup ys=>(vW (yD n) xs ys).map (·&&xs.length==ys.length)
  |x,y=>Xz x y
def eqJ(f:D->D->Option Bool)(xs ys:List D)(j:Nat):Bool:=((xs[j]?).bind λx=>(ys[j]?).bind λy=>f x y).getD false
def Bf(n:Nat)(e:Nat->Bool):(bZ (n+1)).all e=(e 0&&(bZ n).all λj=>e (j+1)):=by rw[Lf,List.all_cons,List.all_map];rfl
theorem yT{f:D->D->Option Bool}:∀{xs ys:List D}{b:Bool},vW f xs ys=aa b->(∀(j:Nat)(x y:D),xs[j]?=aa x->ys[j]?=aa y->f x y=aa (eqJ f xs ys j))/\b=(bZ (min xs.length ys.length)).all (eqJ f xs ys)
 |[],ys,b,h=>by
  have h':aa true=aa b:=by cases ys<;>exact h
  cases h';exact⟨λj x y e=>by simp at e,by simp⟩
 |x::xs,[],b,h=>by cases h;exact⟨λj x y _ e=>by simp at e,by simp⟩
 |x::xs,y::ys,b,h=>by
  unfold vW at h;cases e1:f x y with
  |none=>rw[e1]at h;cases h
  |some c=>
   cases e2:vW f xs ys with
   |none=>rw[e1,e2]at h;cases h
   |some d=>
    rw[e1,e2]at h;have h':(c&&d)=b:=cj.inj h;obtain⟨q1,q2⟩:=yT e2;refine⟨λj x' y' h1 h2=>?_,?_⟩
    ·cases j with
     |zero=>
      simp at h1 h2;subst h1 h2;show f x y=aa (((aa x).bind λx=>(aa y).bind λy=>f x y).getD false);simp[e1]
     |succ j=>exact q1 j x' y' (by simpa using h1) (by simpa using h2)
    ·have e3:min (x::xs).length (y::ys).length=min xs.length ys.length+1:=by simp[Nat.succ_min_succ]
     rw[e3,Bf,<-h',q2];have e4:eqJ f (x::xs) (y::ys) 0=c:=by show(((aa x).bind λx=>(aa y).bind λy=>f x y).getD false)=c;simp[e1]
     rw[e4];rfl
section
variable{X:Cx}{pins:List (ae×Obj)}{σ:St}{H:Hp}{s:aj}
def PJ{A:bh}{P:ae->Prop}{x y:D}{v w:V}{u u':ah}{b:Bool}(hx:Is X.K P H x v)(hy:Is X.K P H y w)(rv:RelV v u)(sX:RelV w u')(e:Xz x y=aa b):wQ A s u u' b/\vp A s u u' b/\vq A s u u' (!b):=by
 unfold Xz at e;split at e<;>first|cases e|skip
 ·cases hx;cases hy;cases rv;cases sX;exact⟨.same _,.none_none,.none_none⟩
 ·cases hx;cases hy;cases rv;cases sX;exact⟨.bool_bool _ _,.bool_bool _ _,.bool_bool _ _⟩
 ·cases hx;cases hy;obtain⟨t,rfl⟩:=rv;obtain⟨t',rfl⟩:=sX;exact⟨.int_int _ _ _ _,.int_int _ _ _ _,.int_int _ _ _ _⟩
 ·cases hx;cases hy;obtain⟨t,rfl⟩:=rv;obtain⟨t',rfl⟩:=sX;exact⟨.str_str _ _ _ _,.str_str _ _ _ _,.str_str _ _ _ _⟩
 ·cases hx;cases hy;cases rv;obtain⟨t',rfl⟩:=sX;exact⟨.bool_int _ _ _,.bool_int _ _ _,.bool_int _ _ _⟩
 ·cases hx;cases hy;obtain⟨t,rfl⟩:=rv;cases sX;exact⟨.int_bool _ _ _,.int_bool _ _ _,.int_bool _ _ _⟩
 ·cases hx;cases hy;cases rv;cases sX;exact⟨.none_bool _,.none_bool _,.none_bool _⟩
 ·cases hx;cases hy;cases rv;obtain⟨t',rfl⟩:=sX;exact⟨.none_int _ _,.none_int _ _,.none_int _ _⟩
 ·cases hx;cases hy;cases rv;obtain⟨t',rfl⟩:=sX;exact⟨.none_str _ _,.none_str _ _,.none_str _ _⟩
 ·cases hx;cases hy;cases rv;cases sX;exact⟨.bool_none _,.bool_none _,.bool_none _⟩
 ·cases hx;cases hy;cases rv;obtain⟨t',rfl⟩:=sX;exact⟨.bool_str _ _ _,.bool_str _ _ _,.bool_str _ _ _⟩
 ·cases hx;cases hy;obtain⟨t,rfl⟩:=rv;cases sX;exact⟨.int_none _ _,.int_none _ _,.int_none _ _⟩
 ·cases hx;cases hy;obtain⟨t,rfl⟩:=rv;obtain⟨t',rfl⟩:=sX;exact⟨.int_str _ _ _ _,.int_str _ _ _ _,.int_str _ _ _ _⟩
 ·cases hx;cases hy;obtain⟨t,rfl⟩:=rv;cases sX;exact⟨.str_none _ _,.str_none _ _,.str_none _ _⟩
 ·cases hx;cases hy;obtain⟨t,rfl⟩:=rv;cases sX;exact⟨.str_bool _ _ _,.str_bool _ _ _,.str_bool _ _ _⟩
 ·cases hx;cases hy;obtain⟨t,rfl⟩:=rv;obtain⟨t',rfl⟩:=sX;exact⟨.str_int _ _ _ _,.str_int _ _ _ _,.str_int _ _ _ _⟩
def Gz{P:ae->Prop}{x y:D}{v:V}{b:Bool}(hx:Is X.K P H x v)(hy:Is X.K P H y v)(e:Xz x y=aa b):b=true:=by
 unfold Xz at e;split at e<;>first|cases e|skip
 all_goals cases hx
 all_goals cases hy
 all_goals simp
theorem Bg{P:ae->Prop}{f:D->D->Option Bool}:∀{xs ys:List D}{vs:List V}{b:Bool},(∀x y v b,Is X.K P H x v->Is X.K P H y v->f x y=aa b->b=true)->IsL X.K P H xs vs->IsL X.K P H ys vs->vW f xs ys=aa b->b=true/\xs.length=ys.length
 |[],ys,vs,b,_,hx,hy,e=>by
  have e':vs=[]:=hx;subst e';have:=IsL.length hy;cases ys with
  |nil=>cases e;exact⟨rfl,rfl⟩
  |cons _ _=>simp at this
 |x::xs,[],vs,b,_,hx,hy,e=>by have:=IsL.length hx;have e':vs=[]:=hy;subst e';simp at this
 |x::xs,y::ys,vs,b,hf,⟨v,r,e1,p1,q1⟩,⟨v',r',e2,p2,q2⟩,e=>by
  subst e1;cases e2;unfold vW at e;cases h1:f x y with
  |none=>rw[h1]at e;cases e
  |some c=>
   cases h2:vW f xs ys with
   |none=>rw[h1,h2]at e;cases e
   |some d=>
    rw[h1,h2]at e;have e':(c&&d)=b:=cj.inj e;obtain⟨z1,z2⟩:=Bg hf q1 q2 h2;have z3:=hf x y v c p1 p2 h1;subst z1 z3 e';exact⟨rfl,by simp[z2]⟩
theorem xB(I:Inv X pins σ H s){P:ae->Prop}:∀(n:Nat)(x y:D)(v:V)(b:Bool),Is X.K P H x v->Is X.K P H y v->yD n x y=aa b->b=true
 |0,x,y,v,b,hx,hy,e=>Gz hx hy e
 |n+1,x,y,v,b,hx,hy,e=>by
  unfold yD at e;split at e
  ·rename_i xs ys
   obtain⟨a,vs,rfl,h1,h2⟩:=hx;obtain⟨a',K0,ea,h3,h4⟩:=hy;cases ea;have ev:=I.wR h1.sq h3.sq;subst ev;split at e
   ·exact(Bg (xB I n) h2 h4 e).1
   ·rename_i c
    exact absurd ((IsL.length h2).symm.trans (IsL.length h4)) c
  ·rename_i xs ys
   obtain⟨a,vs,rfl,h1,h2⟩:=hx;obtain⟨a',K0,ea,h3,h4⟩:=hy;cases ea;have ev:=I.Ng h1.sq h3.sq;subst ev;cases ez:vW (yD n) xs ys with
   |none=>rw[ez]at e;cases e
   |some c=>
    rw[ez]at e;obtain⟨z1,z2⟩:=Bg (xB I n) h2 h4 ez;subst z1;have e':(true&&(xs.length==ys.length))=b:=cj.inj e;rw[<-e',z2];simp
  ·exact Gz hx hy e
def in1_units(A:bh):A.in1.units=A.units+1:=rfl
theorem Lg(I:Inv X pins σ H s){P:ae->Prop}:∀(n:Nat)(A:bh)(x y:D)(v w:V)(u u':ah)(b:Bool),A.units+n<gF->Is X.K P H x v->Is X.K P H y w->RelV v u->RelV w u'->yD n x y=aa b->wQ A s u u' b/\vp A s u u' b/\vq A s u u' (!b)
 |0,A,x,y,v,w,u,u',b,hu,hx,hy,rv,sX,e=>PJ hx hy rv sX e
 |n+1,A,x,y,v,w,u,u',b,hu,hx,hy,rv,sX,e=>by
  have e0:=e;unfold yD at e;have hu1:A.in1.units+n<gF:=by rw[in1_units];lia
  have hu0:A.units<gF:=by lia
  split at e
  ·rename_i xs ys
   have hx0:=hx;have hy0:=hy;obtain⟨a,vs,rfl,h1,h2⟩:=hx;obtain⟨a',K0,rfl,h3,h4⟩:=hy;cases rv;cases sX;obtain⟨its,rvs,pl,hz⟩:=I.list h1.sq;obtain⟨its',PK,pl',hz'⟩:=I.list h3.sq;have l1:=rvs.length;have l2:=PK.length;have l3:vs.length=xs.length:=IsL.length h2;have l4:K0.length=ys.length:=IsL.length h4;have main:vp A s (.ref a) (.ref a') b/\vq A s (.ref a) (.ref a') (!b):=by
    split at e
    ·rename_i c
     obtain⟨q1,q2⟩:=yT e;have hsz:its.toArray.size=its'.toArray.size:=by simp;lia
     have ahJ:min xs.length ys.length=its.toArray.size:=by simp;lia
     rw[ahJ]at q2;subst q2;have he:∀j (g1:j<its.toArray.size)(g2:j<its'.toArray.size),wQ A.in1 s its.toArray[j] its'.toArray[j] (eqJ (yD n) xs ys j):=λj g1 g2=>by
      have j1:j<xs.length:=by simp at g1;lia
      have j2:j<ys.length:=by simp at g2;lia
      have f:=q1 j _ _ (aQ j1) (aQ j2);obtain⟨v1,hv1,SE⟩:=IsL.get h2 (aQ j1);obtain⟨v2,hv2,SG⟩:=IsL.get h4 (aQ j2);obtain⟨u1,aaj,ru1⟩:=rvs.get hv1;obtain⟨u2,aak,ru2⟩:=PK.get hv2;have E1:its.toArray[j]=u1:=by have:=bz.mp aaj;obtain⟨_,h⟩:=this;simpa using h
      have E2:its'.toArray[j]=u2:=by have:=bz.mp aak;obtain⟨_,h⟩:=this;simpa using h
      rw[E1,E2];exact(Lg I n A.in1 _ _ _ _ _ _ _ hu1 SE SG ru1 ru2 f).1
     exact⟨vp.lists pl.isList pl'.isList hsz hu0 he,vq.lists pl.isList pl'.isList hsz hu0 he⟩
    ·rename_i c
     cases e;have hsz:(its.toArray.size !=its'.toArray.size)=true:=by simp;lia
     exact⟨vp.lists_lengths pl.isList pl'.isList hsz hu0,vq.lists_lengths pl.isList pl'.isList hsz hu0⟩
   refine⟨?_,main⟩
   by_cases ha:a=a'
   ·subst ha
    have:=xB I (n+1) _ _ _ _ hx0 hy0 e0;subst this;exact .same _
   ·exact .of_refs ha main.1
  ·rename_i xs ys
   have hx0:=hx;have hy0:=hy;obtain⟨a,vs,rfl,h1,h2⟩:=hx;obtain⟨a',K0,rfl,h3,h4⟩:=hy;cases rv;cases sX;obtain⟨its,rvs,pl,hz⟩:=I.tuple h1.sq;obtain⟨its',PK,pl',hz'⟩:=I.tuple h3.sq;have l1:=rvs.length;have l2:=PK.length;have l3:vs.length=xs.length:=IsL.length h2;have l4:K0.length=ys.length:=IsL.length h4;have main:vp A s (.ref a) (.ref a') b/\vq A s (.ref a) (.ref a') (!b):=by
    cases ez:vW (yD n) xs ys with
    |none=>rw[ez]at e;cases e
    |some c=>
     rw[ez]at e;obtain⟨q1,q2⟩:=yT ez;have s1:xs.length=its.toArray.size:=by simp;lia
     have s2:ys.length=its'.toArray.size:=by simp;lia
     have e':(c&&(xs.length==ys.length))=b:=cj.inj e;rw[q2]at e';have he:∀j (g1:j<its.toArray.size)(g2:j<its'.toArray.size),wQ A.in1 s its.toArray[j] its'.toArray[j] (eqJ (yD n) xs ys j):=λj g1 g2=>by
      have j1:j<xs.length:=by simp at g1;lia
      have j2:j<ys.length:=by simp at g2;lia
      have f:=q1 j _ _ (aQ j1) (aQ j2);obtain⟨v1,hv1,SE⟩:=IsL.get h2 (aQ j1);obtain⟨v2,hv2,SG⟩:=IsL.get h4 (aQ j2);obtain⟨u1,aaj,ru1⟩:=rvs.get hv1;obtain⟨u2,aak,ru2⟩:=PK.get hv2;have E1:its.toArray[j]=u1:=by have:=bz.mp aaj;obtain⟨_,h⟩:=this;simpa using h
      have E2:its'.toArray[j]=u2:=by have:=bz.mp aak;obtain⟨_,h⟩:=this;simpa using h
      rw[E1,E2];exact(Lg I n A.in1 _ _ _ _ _ _ _ hu1 SE SG ru1 ru2 f).1
     subst e';have R1:=vp.tuples (A:=A) (e:=eqJ (yD n) xs ys) pl pl' hu0 he;have R2:=vq.tuples (A:=A) (e:=eqJ (yD n) xs ys) pl pl' hu0 he;rw[<-s1,<-s2]at R1 R2;exact⟨R1,R2⟩
   refine⟨?_,main⟩
   by_cases ha:a=a'
   ·subst ha
    have:=xB I (n+1) _ _ _ _ hx0 hy0 e0;subst this;exact .same _
   ·exact .of_refs ha main.1
  ·exact PJ hx hy rv sX e
end
section
variable{X:Cx}{E:Str->Hp->Prop}{pos:Pos}
def U4(K:ak)(ne:Bool):R2:=λv w H Q=>∃x y b,Is K Tr H x v/\Is K Tr H y w/\yD 6 x y=aa b/\Q (.bl (if ne=true then !b else b)) H
def oY(hu:X.A.units+6<gF):yJ X (jm .Eq) (U4 X.K false):=by intro pins s σ H v w u u' Q I rx ry h;obtain⟨x,y,b,hx,hy,e,q⟩:=h;exact(Lg I 6 X.A x y v w u u' b hu hx hy rx ry e).2.1 X.prog X.w _ _ ⟨.bl b,H,I,rfl,q⟩
def mh(hu:X.A.units+6<gF):yJ X (jm .NotEq) (U4 X.K true):=by intro pins s σ H v w u u' Q I rx ry h;obtain⟨x,y,b,hx,hy,e,q⟩:=h;exact(Lg I 6 X.A x y v w u u' b hu hx hy rx ry e).2.2 X.prog X.w _ _ ⟨.bl (!b),H,I,rfl,q⟩
def CW(x y:D):Option D:=(yD 6 x y).map .bl
def zE(x y:D):Option D:=(yD 6 x y).map λb=>.bl (!b)
def lh:tQ X (U4 X.K false) CW:=λx y d e=>by
 unfold CW at e;cases h:yD 6 x y with
 |none=>rw[h]at e;cases e
 |some b=>
  rw[h]at e;cases e;exact⟨_,rfl,λH v w Q i1 i2 q=>⟨x,y,b,i1,i2,h,q⟩⟩
def jx:tQ X (U4 X.K true) zE:=λx y d e=>by
 unfold zE at e;cases h:yD 6 x y with
 |none=>rw[h]at e;cases e
 |some b=>
  rw[h]at e;cases e;exact⟨_,rfl,λH v w Q i1 i2 q=>⟨x,y,b,i1,i2,h,q⟩⟩
def cG.u6 {k:Nat}{A:bh}(r:cG k A):A.units+6<gF:=by have:=r.un;lia
end
def Kp(nt:Nat)(b:D->DE->R DE):Prop:=∀(d:D)(r ts e':DE),ts.length=nt->b d (ts++r)=.ok e'->∃ts',e'=ts'++r/\ts'.length=nt
def XA(nt:Nat)(b:List D->DE->R DE):Prop:=∀(d:List D)(r ts e':DE),ts.length=nt->b d (ts++r)=.ok e'->∃ts',e'=ts'++r/\ts'.length=nt
def kpN{nt:Nat}(i:Nat)(hi:i<nt:=by decide):Kp nt λd env=>.ok (env.set i (.val d)):=λd r ts e' hl h=>by cases h;exact⟨ts.set i (.val d),by rw[List.set_append_left _ _ (by lia)],by simp[hl]⟩
def adX{nt:Nat}:XA nt λds env=>match ds with
  |[]=>.ok env
  |_=>.bad:=λd r ts e' hl h=>by
 cases d with
 |nil=>cases h;exact⟨ts,rfl,hl⟩
 |cons _ _=>cases h
def aal{nt:Nat}{b:D->DE->R DE}{k:List D->DE->R DE}(hb:Kp nt b)(hk:XA nt k):XA nt λds env=>match ds with
   |d::r=>(b d env).bind λe'=>k r e'
   |_=>.bad:=λd r ts e' hl h=>by
 cases d with
 |nil=>cases h
 |cons x xs=>
  obtain⟨e1,h1,h2⟩:=R.ju (show(b x (ts++r)).bind (λe'=>k xs e')=.ok e' from h);obtain⟨t1,rfl,l1⟩:=hb x r ts e1 hl h1;exact hk xs r t1 e' l1 h2
def kpT{nt n:Nat}{b:List D->DE->R DE}(hb:XA nt b):Kp nt λd env=>match d with
   |.tup ds=>if ds.length=n then b ds env else .bad
   |_=>.bad:=λd r ts e' hl h=>by
 cases d with
 |tup ds=>
  have h':(if ds.length=n then b ds (ts++r)else .bad)=.ok e':=h;split at h'
  ·exact hb ds r ts e' hl h'
  ·cases h'
 |non=>cases h
 |bl _=>cases h
 |int _=>cases h
 |str _=>cases h
 |lst _=>cases h
 |exc _=>cases h
 |fn _=>cases h
theorem Kp.ok {nt:Nat}{b:D->DE->R DE}(h:Kp nt b):∀ds d e,b d (lV nt ds)=.ok e->∃ts,e=ts++ds.map Sl.val/\ts.length=nt:=λds d e q=>h d _ _ e (by simp) q
structure Df(K:ak)(mg:Str->Option ah)(x:Str)(st:aD)(ps:List Str)(f:ae)(fd:aL):Prop where
 F:Gd K x x st f fd
 b:Binds K fd ps []
 m:mg x=aa (.ref f)
 ns:rR K dH x=aa (aa (.ref f))
abbrev Oz:Str->ah:=λ_=>.none
section
variable{X:Cx}{E:Str->Hp->Prop}{pos:Pos}{k:Nat}{fa:ae}{fd:aL}{st:aD}{ps:List Str}{x:Str}{p:Pos}{e:ao}{es:List ao}{f:DE->R (List D)}
def fD1{m:List D->R D}(d:Df X.K X.mg x st ps fa fd)(F:fA X.prog X.w X.K X.mg X.base oN k fa fd ps (K5 X.K Oz m))(hr:cG k X.A)
  (ha:PA X (e::es) (Ou X.K E f))(hg:Gl X x:=by rfl)(hdb:(x==("__debug__":Str))=false:=by decide)(he:ar (e::es) X.env=(false,aw e X.env)::ar es X.env:=by rfl)(hpl:(bp pos (ar es X.env)).any (·.1)=false:=by rfl):
  PE X (.Call (.Name x p) (e::es) [] pos) (tD X.K E λenv=>(f env).bind m):=fD F d.m d.F.kp d.b hr oV ha hg hdb he hpl
def ScD(m:List D->R D):Prop:=∀ds d,m ds=.ok d->∃z,toV d=aa z
def ScL(m:List D->R (List D)):Prop:=∀ds xs,m ds=.ok xs->∀d∈xs,∃z,toV d=aa z
def XC{m:List D->R D}(hsc:ScD m)(d:Df X.K X.mg x st ps fa fd)(F:fA X.prog X.w X.K X.mg X.base oN k fa fd ps (K5 X.K Oz m))(hr:cG k X.A)
  (ha:PA X (e::es) (xq X.K E f))(hg:Gl X x:=by rfl)(hdb:(x==("__debug__":Str))=false:=by decide)(he:ar (e::es) X.env=(false,aw e X.env)::ar es X.env:=by rfl)(hpl:(bp pos (ar es X.env)).any (·.1)=false:=by rfl):
  PE X (.Call (.Name x p) (e::es) [] pos) (tD X.K E λenv=>(f env).bind m):=fB F hsc d.m d.F.kp d.b hr oV ha hg hdb he hpl
def Bh{m:List D->R (List D)}(d:Df X.K X.mg x st ps fa fd)(F:fA X.prog X.w X.K X.mg X.base oN k fa fd ps (Sz X.K Oz m))(hr:cG k X.A)
  (ha:PA X (e::es) (Ou X.K E f))(hg:Gl X x:=by rfl)(hdb:(x==("__debug__":Str))=false:=by decide)(he:ar (e::es) X.env=(false,aw e X.env)::ar es X.env:=by rfl)(hpl:(bp pos (ar es X.env)).any (·.1)=false:=by rfl):
  PE X (.Call (.Name x p) (e::es) [] pos) (tF X.K E λenv=>(f env).bind m):=fF F d.m d.F.kp d.b hr oV ha hg hdb he hpl
def ahM{m:List D->R (List D)}(hsc:ScL m)(d:Df X.K X.mg x st ps fa fd)(F:fA X.prog X.w X.K X.mg X.base oN k fa fd ps (Sz X.K Oz m))(hr:cG k X.A)
  (ha:PA X (e::es) (xq X.K E f))(hg:Gl X x:=by rfl)(hdb:(x==("__debug__":Str))=false:=by decide)(he:ar (e::es) X.env=(false,aw e X.env)::ar es X.env:=by rfl)(hpl:(bp pos (ar es X.env)).any (·.1)=false:=by rfl):
  PE X (.Call (.Name x p) (e::es) [] pos) (tF X.K E λenv=>(f env).bind m):=fFB F hsc d.m d.F.kp d.b hr oV ha hg hdb he hpl
end
abbrev Ok(P:aR)(w:aE)(K:ak)(mg:Str->Option ah)(base:aC)(k:Nat)(f:ae)(fd:aL)(ps:List Str)(m:List D->R D):Prop:=fA P w K mg base oN k f fd ps (K5 K Oz m)
abbrev qc(P:aR)(w:aE)(K:ak)(mg:Str->Option ah)(base:aC)(k:Nat)(f:ae)(fd:aL)(ps:List Str)(m:List D->R (List D)):Prop:=fA P w K mg base oN k f fd ps (Sz K Oz m)
section
variable{P:aR}{w:aE}{K:ak}{mg:Str->Option ah}{base:aC}
def mkD{x:Str}{st:aD}{f:ae}{fd:aL}{N ps:List Str}{k:Nat}{m:List D->R D}{b:DE->R Out}(S:bc N ps (au st))(d:Df K mg x st ps f fd)
  (hb:∀(cdv:ah)(A:bh)(outer:List Env)(s:aj)(H:Hp)(E:XK),cG k (A.deeper (eT x (au st) s.heap.objs.size f cdv))->vP (ud oN P w K mg base N x (au st) f cdv A outer s H E).JW (dq st) (tS K EN b))
  (hm:∀ds d,m ds=.ok d->ds.length=ps.length/\(b (aT N.length ds)).bind aK=.ok d)(hne:∀ds c,m ds≠.err c):
  Ok P w K mg base (k+1) f fd ps m:=ahn d.F S hm hne hb
def mkF{x:Str}{st:aD}{f:ae}{fd:aL}{N ps:List Str}{k:Nat}{m:List D->R (List D)}{b:DE->R Out}(S:bc N ps (au st))(d:Df K mg x st ps f fd)
  (hb:∀(cdv:ah)(A:bh)(outer:List Env)(s:aj)(H:Hp)(E:XK),cG k (A.deeper (eT x (au st) s.heap.objs.size f cdv))->vP (ud oN P w K mg base N x (au st) f cdv A outer s H E).JW (dq st) (tS K EN b))
  (hm:∀ds d,m ds=.ok d->ds.length=ps.length/\(b (aT N.length ds)).bind aM=.ok d)(hne:∀ds c,m ds≠.err c):
  qc P w K mg base (k+1) f fd ps m:=aho d.F S hm hne hb
end
section
variable{X:Cx}{E:Str->Hp->Prop}{pos:Pos}
def GA(x y:D):Option D:=match y with
 |.non=>aa (.bl (match x with
  |.non=>false
  |_=>true))
 |_=>none
def U5{K:ak}{P:ae->Prop}{H:Hp}{x:D}{v:V}(h:Is K P H x v):decide (v=V.non)=(match x with
  |.non=>true
  |_=>false):=by
 cases x with
 |non=>cases h;rfl
 |bl _=>cases h;rfl
 |int _=>cases h;rfl
 |str _=>cases h;rfl
 |lst _=>obtain⟨a,vs,rfl,_⟩:=h;rfl
 |tup _=>obtain⟨a,vs,rfl,_⟩:=h;rfl
 |exc _=>obtain⟨a,vs,rfl,_⟩:=h;rfl
 |fn _=>obtain⟨a,rfl,_⟩:=h;rfl
def PL:tQ X (λx y H Q=>y=.non/\Q (.bl (!decide (x=.non))) H) GA:=λx y d e=>by
 unfold GA at e;split at e
 ·cases e
  refine⟨_,rfl,λH v w Q h1 h2 q=>⟨h2,?_⟩⟩;rw[U5 h1];cases x<;>exact q
 ·cases e
def U6(xs:List D):D->R (List D)
 |.int k=> @ite _ (-(2^63)<=k/\k<2^63/\xs.length*k.toNat<=aH) (dM _) (.ok (bf k.toNat xs).flatten) .bad
 |_=>.bad
theorem IsL.rep {K:ak}{P:ae->Prop}{H:Hp}{ds:List D}{vs:List V}(h:IsL K P H ds vs):∀n:Nat,IsL K P H (bf n ds).flatten (bf n vs).flatten
 |0=>rfl
 |n+1=>by rw[gH,gH,fM,fM];exact h.app (IsL.rep h n)
def ahN{a b:ao}{fa:DE->R (List D)}{fb:DE->R D}(ha:PE X a (tF X.K E fa))(hb:PE X b (tB X.K E fb)):PE X (.BinOp a .Mult b pos) (tF X.K E λenv=>(fa env).bind λx=>(fb env).bind λy=>U6 x y):=
 imp (wW ZQ ha hb) λσ H Q ⟨g,env,os,r,m⟩=>⟨g,env,os,r,m.bind.mono λx _ m1 a1 v1 H1 s1 hn hH i1=>⟨g,env,os,r.same s1,m1.bind.mono λy _ m2 w H2 s2 i2=>by
  unfold U6 at m2;split at m2
  ·rename_i k _
   split at m2
   ·rename_i c
    have Sy:IsL X.K (g.P os) H1 x v1:=IsL.ext ⟨λb o p _=>⟨p.1,λz=>p.2 (bg _ z)⟩,λ_ _ _ q=>q⟩ _ _ i1;refine⟨a1,k,v1,rfl,i2,s2 _ _ hH,c.1,c.2.1,by rw[Sy.length];exact c.2.2,λp hp=>?_⟩;obtain⟨b1,b2,b3,b4⟩:=NB r (s1.trans s2) hp ((Sy.same s2).rep k.toNat);exact m2 p _ _ b1 b2 b3 b4
   ·exact m2.elim
  ·exact m2.elim⟩⟩
def Bj:eO "range"=aa (.type "range"):=by decide +kernel
def rW:List D->R (List D)
 |[.int j]=> @ite _ (0<=j/\j<=1000000) (dM _) (.ok (vU 0 j.toNat)) .bad
 |_=>.bad
def U7{K:ak}{P:ae->Prop}{H:Hp}{n:Nat}:IsL K P H (vU 0 n) ((bZ n).map λi=>V.int (0+(i:Nat))):=by
 unfold vU
 induction (bZ n)with
 |nil=>rfl
 |cons x r ih=>exact⟨_,_,rfl,rfl,ih⟩
def CA{acc:List ah}{n:Nat}(h1:acc.length=n)(h2:∀(j:Nat)(v:ah),acc[j]?=aa v->∃t,v=.int (0+(j:Nat)) t):Vals ((bZ n).map λi=>V.int (0+(i:Nat))) acc:=by
 have gen:∀(l:List ah)(k:Nat),(∀(j:Nat)(v:ah),l[j]?=aa v->∃t,v=.int (0+((k+j:Nat):Int)) t)->Vals ((Lh k l.length).map λi=>V.int (0+(i:Nat))) l:=by
  intro l
  induction l with
  |nil=>intro k _;exact .nil
  |cons x r ih=>
   intro k hk;rw[bQ,Li,bu];refine .cons ?_ (ih (k+1) λj v e=>?_)
   ·obtain⟨t,e⟩:=hk 0 x (by simp)
    exact⟨t,e⟩
   ·obtain⟨t,e⟩:=hk (j+1) v (by simpa using e)
    exact⟨t,by rw[e];congr 2;lia⟩
 subst h1;rw[Lj];exact gen acc 0 λj v e=>by obtain⟨t,q⟩:=h2 j v e;exact⟨t,by rw[q];congr 2;lia⟩
def IV{a:ao}{p p2 wD:Pos}{f:DE->R (List D)}(hc:X.calm=true)(PN:X.mg "list"=none)(hmr:X.mg "range"=none)(ha:PA X [a] (xq X.K E f))(hgl:Gl X "list":=by rfl)(hgr:Gl X "range":=by rfl)
  (hs:ar [a] X.env=[(false,aw a X.env)]:=by rfl)(he:ar [.Call (.Name "range" p2) [a] [] wD] X.env=(false,aw (.Call (.Name "range" p2) [a] [] wD) X.env)::ar [] X.env:=by rfl)(hpl:(bp pos (ar [] X.env)).any (·.1)=false:=by rfl):
  PE X (.Call (.Name "list" p) [.Call (.Name "range" p2) [a] [] wD] [] pos) (tF X.K E λenv=>(f env).bind rW):=by
 intro pins s σ H Q I h;obtain⟨g,env,os,r,m⟩:=h;refine u9 (lZ I hgl PN rV ?_);refine mH ?_ he hpl;rw[he];refine w9 ?_;refine uW (lZ I hgr hmr Bj (mH (fz (ha wD pins s σ H _ I ⟨g,env,os,r,m.bind.mono λds _ q vs H1 s1 i1=>(⟨ds,s1,i1,q⟩:∃ds,bD H H1/\IsL X.K Tr H1 ds vs/\Good E g.H₀ (rW ds) _)⟩) λus s1 ⟨vs,H1,I1,r1,ds,sm,i1,q⟩=>?_) hs rfl));unfold rW at q;split at q
 ·rename_i j
  split at q
  ·rename_i c
   obtain⟨v,rfl,iv⟩:=IsL.Ep i1;have iv':v=.int j:=iv;subst iv';obtain⟨u,rfl,t,rfl⟩:=vals1 r1;refine call_range_1 ?_;have I2:Inv X pins σ H1 {s1 with heap:=s1.heap.push {cls:=.type "range",data:=.fields #[.int 0 s1.toks,.int j t,.int 1 (s1.toks+1)]},toks:=s1.toks+1+1}:=I1.kept λb o e=>cQ _ e;refine w6 ?_;have hd:X.A.handled=none:=I.ok.hd hc;have hsz:iQ 0 j 1=(j.toNat:Nat):=by rw[J1];split<;>lia
   refine U8 hd (rH.new ..) (small_one (by lia) (by lia) (by lia) (by lia)) hsz (by lia) λh' tk tR c' hk hl hit=>?_;obtain⟨hi1,hi2⟩:=hit;have hv:Vals ((bZ j.toNat).map λi=>V.int (0+(i:Nat))) tR.toList:=CA (by simpa using hi1) λi v e=>by obtain⟨t,q⟩:=hi2 i v (by simpa using e);exact⟨t,by rw[q];congr 1;lia⟩
   have hlen:((bZ j.toNat).map λi=>V.int (0+(i:Nat))).length<=aH:=by rw[aG,Ey];exact iM (show j.toNat<=1000000 by lia) (by decide)
   refine⟨.ref _,upd H1 _ (.lst ((bZ j.toNat).map λi=>V.int (0+(i:Nat)))),I2.laid (a:=_) hk (aY _) ⟨hlen,tR.toList,c',hv,by simpa using hl⟩,rfl,?_⟩;have hn:H1 (s1.heap.push {cls:=.type "range",data:=.fields #[.int 0 s1.toks,.int j t,.int 1 (s1.toks+1)]}).objs.size=none:=I2.hok.fresh (aY _);exact q _ _ _ (sm.trans (bF hn _)) (sm.free hn) aP U7
  ·exact q.elim
 ·exact q.elim
end
def nq:D->D->Option D
 |.int i,.int j=>aa (.int (i+j))
 |_,_=>none
def gQ{X:Cx}:tQ X (J2 λi j=>.int (i+j)) nq:=ui (h:=λi j=>.int (i+j)) (λ_ _=>rfl) λx y d e=>by unfold nq at e;split at e<;>cases e;exact⟨_,_,rfl,rfl,rfl⟩
noncomputable def XD(XE sc:cU)(XN N:List Str)(nt:Nat)(caps:List Nat):Bool:=
 sc.kind==.function&&sc.names.all (λy=>y.2 !=.cell&&(y.2 !=.local||sc.names.lookup y.1==aa .local)&&(y.2 !=.free||XE.names.lookup y.1==aa .cell||XE.names.lookup y.1==aa .free))&&
 N.length==nt+caps.length&&decide N.Nodup&&(bZ caps.length).all λj=>match caps[j]?,N[nt+j]? with
  |some i,aa x=>XN[i]?==aa x&&sc.names.lookup x==aa .free&&(XE.names.lookup x==aa .local||XE.names.lookup x==aa .cell||XE.names.lookup x==aa .free)
  |_,_=>false
def Ll{X:Cx}{sc:cU}{N:List Str}{nt:Nat}{caps:List Nat}(XE:cU)(XN:List Str)(h:XD XE sc XN N nt caps=true)(hsc:X.env.scope=XE:=by rfl)(hN:X.N=XN:=by rfl):lg X sc N nt caps:=by
 subst hsc hN;unfold XD at h;simp only [xA,U9,Ez,decide_eq_true_eq,beq_iff_eq,bne_iff_ne,ne_eq]at h;obtain⟨⟨⟨⟨h1,h2⟩,h3⟩,h4⟩,h5⟩:=h;refine⟨by simpa using h1,λy hy=>(h2 y hy).1.1,λy hy e=>?_,λy hy e=>?_,h3,h4,λj i e=>?_⟩
 ·rcases(h2 y hy).1.2 with q|q
  ·exact absurd e q
  ·exact q
 ·rcases(h2 y hy).2 with(q|q)|q
  ·exact absurd e q
  ·exact .inl q
  ·exact .inr q
 ·have hj:j<caps.length:=(bz.mp e).1
  have q:=h5 j (by simpa using hj);rw[e]at q;cases hx:N[nt+j]? with
  |none=>rw[hx]at q;exact absurd q (by simp)
  |some x=>
   rw[hx]at q;simp only [xA,Ez,beq_iff_eq]at q;obtain⟨⟨q1,q2⟩,q3⟩:=q;refine⟨x,rfl,q1,q2,?_⟩;rcases q3 with(q3|q3)|q3
   ·exact .inl q3
   ·exact .inr (.inl q3)
   ·exact .inr (.inr q3)
def aan(i:Nat):Out->R Out
 |.nx e=>.ok (.nx (A0 i e))
 |o=>.ok o
def ad0{X:Cx}{E:Str->Hp->Prop}(i:Nat){st:aD}{f:DE->R Out}(h:PS X st (tS X.K E f)):PS X st (tS X.K E λenv=>(f env).bind (aan i)):=oQ h λDe σ H ⟨g,env,os,r,m⟩=>
 ⟨g,env,os,r,m.bind.mono λo _ q=>by
  cases o with
  |nx e=>
   intro σ' H' os' r' z;have q':jd X.K g H os De (.nx (A0 i e)):=q;unfold A0 at q';split at q'
   ·rename_i xs he
    obtain⟨Xs,r2,hs⟩:=r'.UC he;exact q' σ' H' Xs r2 (z.trans ⟨λa ha=>.inl (hs a ha),λ_ h=>h,λ_ _ _ h=>h⟩)
   ·exact q' σ' H' os' r' z
  |bk e=>exact q
  |ct e=>exact q
  |rt d=>exact q
  |vm xs=>exact q
  |Cu xs=>exact q
  |Ov xs=>exact q
  |Pg xs=>exact q
  |Ik xs=>exact q⟩
def EA(i j:Int):nq (.int i) (.int j)=aa (.int (i+j)):=rfl
def PQ(i j:Int):n8 (.int i) (.int j)=aa (.int (i-j)):=rfl
def PR(i:Int):xt (.int i)=aa (.int (-i)):=rfl
def XF(i j:Int):UE (.int i) (.int j)=aa (.bl (decide (i<j))):=rfl
def XG(i j:Int):kLe (.int i) (.int j)=aa (.bl (decide (i<=j))):=rfl
def XH(i j:Int):K1 (.int i) (.int j)=aa (.bl (decide (j<i))):=rfl
def XI(i j:Int):kGe (.int i) (.int j)=aa (.bl (decide (j<=i))):=rfl
def XJ(i j:Int):CW (.int i) (.int j)=aa (.bl (i==j)):=rfl
def XM(i j:Int):zE (.int i) (.int j)=aa (.bl (!(i==j))):=rfl
def XO(i j:Str):CW (.str i) (.str j)=aa (.bl (i==j)):=rfl
def XQ(i j:Str):zE (.str i) (.str j)=aa (.bl (!(i==j))):=rfl
def IW(i j:Int)(h:(-(2^64)<i/\i<2^64)\/(-(2^64)<j/\j<2^64)):Nz (.int i) (.int j)=aa (.int (i*j)):=if_pos h
def Bk(i j:Int)(h:0<j/\j<1073741824):Gn (.int i) (.int j)=aa (.int (i/j)):=if_pos h
def lj(i j:Int)(h:0<j):uh (.int i) (.int j)=aa (.int (i%j)):=if_pos h
def aao(i j:Int)(h:0<=j/\j<=1000000/\i.natAbs<2^64):Pn (.int i) (.int j)=aa (.int (i^j.toNat)):=if_pos h
def ahP:(10:Int)^(9:Nat)=1000000000:=by rw[show(10:Int)=((10:Nat):Int)from rfl,<-Int.natCast_pow];rfl
def ad1:(10:Int)^(9:Int).toNat=1000000000:=ahP
def PU:Pn (.int 10) (.int 9)=aa (.int 1000000000):=(aao 10 9 (by decide)).trans (by rw[ad1])
def PV(i:Int):Po [.int i]=aa (.int (if i<0 then-i else i)):=rfl
def Ln(i j:Int):K4 [.int i,.int j]=aa (.int (if j>i then j else i)):=rfl
def PX(xs:List D):wB [.lst xs]=aa (.int xs.length):=rfl
def PY(xs:List D):wB [.tup xs]=aa (.int xs.length):=rfl
def XR(b:Bool):nk (.bl b)=.ok b:=rfl
def XS(xs:List D):yB (.lst xs)=.ok xs:=rfl
def XT(i:Int):Sx (.int i)=.ok (aa i):=rfl
def XU(xs:List D)(i:Int):Gs xs (.int i)=R.of (kU xs i):=rfl
def XW(xs:List D)(i:Int):wO (.lst xs) (.int i)=R.of (kU xs i):=rfl
def XX(xs:List D)(i:Int):wO (.tup xs) (.int i)=R.of (kU xs i):=rfl
def lA{α:Type}{xs:List α}(h:xs.length<=aH):fit xs=.ok xs:=if_pos h
def big{n:Nat}(h:n<=1000000):n<=aH:=iM h (by decide)
def ad2{α:Type}:fit ([]:List α)=.ok []:=lA (big (by simp))
def ad3{α:Type}(a:α):fit [a]=.ok [a]:=lA (big (by simp))
def aap{α:Type}(a b:α):fit [a,b]=.ok [a,b]:=lA (big (by simp))
def ad4{α:Type}(a b c:α):fit [a,b,c]=.ok [a,b,c]:=lA (big (by simp))
def ad5{α:Type}(a b c d:α):fit [a,b,c,d]=.ok [a,b,c,d]:=lA (big (by simp))
def PZ(i j:Int)(h: -(2^62)<=i/\i<2^62/\ -(2^62)<=j/\j<2^62):ND [.int i,.int j]=.ok (vU i (j-i).toNat):=if_pos h
def CY(j:Int)(h:0<=j/\j<=1000000):rW [.int j]=.ok (vU 0 j.toNat):=if_pos h
def aaq(xs:List D)(k:Int)(h: -(2^63)<=k/\k<2^63/\xs.length*k.toNat<=aH):U6 xs (.int k)=.ok (bf k.toNat xs).flatten:=if_pos h
def Lo(e:DE)(k:DE->R Out):cJ (.ok (.nx e)) k=k e:=rfl
def Lp(d:D)(k:DE->R Out):cJ (.ok (.rt d)) k=.ok (.rt d):=rfl
def GB(d:List D)(k:DE->R Out):cJ (.ok (.vm d)) k=.ok (.vm d):=rfl
def Lq(i:Nat)(e:DE):aan i (.nx e)=.ok (.nx (A0 i e)):=rfl
theorem yU{S:Type}{b:D->DE->R Out}(J:Nat->S->Prop)(Ev:S->DE):∀(xs:List D)(i:Nat)(s:S),J i s->(∀(j:Nat)(s:S)(x:D),J (i+j) s->xs[j]?=aa x->∃s',b x (Ev s)=.ok (.nx (Ev s'))/\J (i+j+1) s')->∃s',lT b xs (Ev s)=.ok (.nx (Ev s'))/\J (i+xs.length) s'
 |[],i,s,hI,h=>⟨s,rfl,hI⟩
 |x::xs,i,s,hI,h=>by
  obtain⟨s1,h1,h2⟩:=h 0 s x hI rfl;obtain⟨s2,h3,h4⟩:=yU J Ev xs (i+1) s1 (by simpa using h2) λj s y hs hy=>by
   have e:i+1+j=i+(j+1):=by lia
   rw[e]at hs⊢;exact h (j+1) s y hs (by simpa using hy)
  refine⟨s2,?_,by rw[bQ,show i+(xs.length+1)=i+1+xs.length by lia];exact h4⟩;unfold lT;rw[h1];exact h3
theorem qR{b:D->DE->R DE}{ct:DE->R Bool}{fe:DE->R D}{e₀:DE}(g:D->D):∀(xs:List D),(∀x∈xs,∃e,b x e₀=.ok e/\ct e=.ok true/\fe e=.ok (g x))->dO b ct fe e₀ xs=.ok (xs.map g)
 |[],_=>rfl
 |x::xs,h=>by obtain⟨e,h1,h2,h3⟩:=h x (by simp);have ih:=qR g xs λy hy=>h y (by simp[hy]);unfold dO;rw[h1,R.cD,h2,R.cD,if_pos rfl,h3,R.cD,ih];rfl
def bK(ns:List Int):List D:=ns.map .int
def cZ(ns:List Int):(bK ns).length=ns.length:=aG _
def Va{a b:List Int}(h:bK a=bK b):a=b:=by
 induction a generalizing b with
 |nil=>cases b with
  |nil=>rfl
  |cons _ _=>cases h
 |cons x r ih=>cases b with
  |nil=>cases h
  |cons y s=>
   simp only [bK,bu,List.cons.injEq,D.int.injEq]at h;rw[h.1,ih h.2]
def Lr:List D->Option (List Int)
 |[]=>aa []
 |.int i::r=>(Lr r).map (i::·)
 |_::_=>none
def wF(ns:List Int):Lr (bK ns)=aa ns:=by
 induction ns with
 |nil=>rfl
 |cons x r ih=>show(Lr (bK r)).map (x::·)=_;rw[ih];rfl
theorem Bm:∀{xs:List D}{ns:List Int},Lr xs=aa ns->xs=bK ns
 |[],ns,h=>by cases h;rfl
 |.int i::r,ns,h=>by
  unfold Lr at h;cases e:Lr r with
  |none=>rw[e]at h;cases h
  |some ms=>rw[e]at h;cases h;rw[Bm e];rfl
 |.non::r,_,h=>by cases h
 |.bl _::r,_,h=>by cases h
 |.str _::r,_,h=>by cases h
 |.lst _::r,_,h=>by cases h
 |.tup _::r,_,h=>by cases h
theorem CZ(n:Nat):∀(a b:List Int),a.length=b.length->vW (yD n) (bK a) (bK b)=aa (decide (a=b))
 |[],[],_=>rfl
 |[],_::_,h=>by simp at h
 |_::_,[],h=>by simp at h
 |x::a,y::b,h=>by
  have ih:=CZ n a b (by simpa using h);show(yD n (.int x) (.int y)).bind _=_;have e:yD n (.int x) (.int y)=aa (x==y):=by cases n<;>rfl
  rw[e];show(vW (yD n) (bK a) (bK b)).map ((x==y)&&·)=_;rw[ih];show aa ((x==y)&&decide (a=b))=aa (decide (x::a=y::b));congr 1;rw[wY];simp
def GC(n:Nat)(a b:List Int):yD (n+1) (.lst (bK a)) (.lst (bK b))=aa (decide (a=b)):=by
 show(if(bK a).length=(bK b).length then vW (yD n) (bK a) (bK b)else aa false)=_;split
 ·rename_i h
  exact CZ n a b (by simpa[cZ]using h)
 ·rename_i h
  congr 1
  symm
  rw[decide_eq_false_iff_not];rintro rfl;exact h rfl
def ad6(a b:List Int):CW (.lst (bK a)) (.lst (bK b))=aa (.bl (decide (a=b))):=by unfold CW;rw[GC];rfl
def XY(a b:List Int):zE (.lst (bK a)) (.lst (bK b))=aa (.bl (!decide (a=b))):=by unfold zE;rw[GC];rfl
def EB(ns:List Int)(i:Int):kU (bK ns) i=(kU ns i).map .int:=by
 unfold L2.kU;rw[cZ];cases wN ns.length i with
 |none=>rfl
 |some j=>exact bG
def qd(ns:List Int)(lo hi:Option Int):cut (bK ns) lo hi=bK (cut ns lo hi):=by unfold cut;rw[cZ];simp only [bK,List.map_take,qe]
def Av(lo:Int)(n:Nat):vU lo n=bK ((bZ n).map λi=>lo+(i:Nat)):=by unfold vU bK;rw[gK];rfl
def bN(i:Nat)(d:D)(env:DE):R DE:=.ok (env.set i (.val d))
def EC:List D->DE->R DE
 |[],env=>.ok env
 |_::_,_=>.bad
def qg(b:D->DE->R DE)(k:List D->DE->R DE):List D->DE->R DE
 |d::r,env=>(b d env).bind λe'=>k r e'
 |[],_=>.bad
def bT(n:Nat)(b:List D->DE->R DE):D->DE->R DE
 |.tup ds,env=>if ds.length=n then b ds env else .bad
 |_,_=>.bad
def aar(i:Nat)(env:DE)(xs:List D)(d:D):R Out:= @ite _ (xs.length<aH) (dM _) (.ok (.nx (env.set i (.own (xs++[d]))))) (.bad)
def aas(i:Nat)(env:DE)(xs:List D):R Out:=if 0<xs.length then .ok (.nx (env.set i (.own xs.dropLast)))else .bad
def GD(i:Nat)(env:DE)(d:D)(xs:List D):D->R Out
 |.int j=>(match wN xs.length j with
  |some n=>.ok (.nx (env.set i (.own (xs.set n d))))
  |none=>.bad)
 |_=>.bad
def NG(h:Int->Int->Int)(i:Nat)(env:DE):D->D->R Out
 |.int u,.int w=>.ok (.nx (env.set i (.val (.int (h u w)))))
 |_,_=>.bad
section
variable{X:Cx}{E:Str->Hp->Prop}{pos:Pos}
def zR(i:Nat){x:Str}(hN:X.N.Nodup)(hi:X.N[i]?=aa x:=by rfl)(hx:Loc X.env.scope x:=by omega)(hf:X.fn x=true\/X.env.scope.names.lookup x=aa .local:=by omega):
  PG X (.Name x pos) (tG X.K E (bN i)):=gN i hN hi hx hf
def IX:JX X [] (Xv X.K E EC):=by
 have e:EC=λds env=>match ds with
  |[]=>.ok env
  |_=>.bad:=by funext ds env;cases ds<;>rfl
 rw[e];exact adF
def vv{e:ao}{es:List ao}{b:D->DE->R DE}{k:List D->DE->R DE}(h1:PG X e (tG X.K E b))(h2:JX X es (Xv X.K E k))(hs:(g9 (e::es) X.env).map (·.2)=kO e X.env::(g9 es X.env).map (·.2):=by rfl):
  JX X (e::es) (Xv X.K E (qg b k)):=by
 have e':qg b k=λds env=>match ds with
   |d::r=>(b d env).bind λe'=>k r e'
   |_=>.bad:=by funext ds env;cases ds<;>rfl
 rw[e'];exact Z4 h1 h2 hs
def gT2{es:List ao}{kk:Nat}{b:List D->DE->R DE}(n:Nat)(hc:X.calm=true)(h:JX X es (Xv X.K E b))(hn:(g9 es X.env).length=n:=by rfl)(hst:(g9 es X.env).findIdx? (·.1)=none:=by rfl):
  PG X (.Tuple es kk pos) (tG X.K E (bT n b)):=by
 have e':bT n b=λd env=>match d with
   |.tup ds=>if ds.length=n then b ds env else .bad
   |_=>.bad:=by funext d env;cases d<;>rfl
 rw[e'];exact gT hc h hn hst
def xC{nt:Nat}(i:Nat)(hi:i<nt:=by decide):Kp nt (bN i):=kpN i hi
def aat{nt:Nat}:XA nt EC:=by
 have e:EC=λds env=>match ds with
  |[]=>.ok env
  |_=>.bad:=by funext ds env;cases ds<;>rfl
 rw[e];exact adX
def Ls{nt:Nat}{b:D->DE->R DE}{k:List D->DE->R DE}(hb:Kp nt b)(hk:XA nt k):XA nt (qg b k):=by
 have e':qg b k=λds env=>match ds with
   |d::r=>(b d env).bind λe'=>k r e'
   |_=>.bad:=by funext ds env;cases ds<;>rfl
 rw[e'];exact aal hb hk
def ahR{nt:Nat}{b:List D->DE->R DE}(n:Nat)(hb:XA nt b):Kp nt (bT n b):=by
 have e':bT n b=λd env=>match d with
   |.tup ds=>if ds.length=n then b ds env else .bad
   |_=>.bad:=by funext d env;cases d<;>rfl
 rw[e'];exact kpT hb
def ad7(i:Nat){x:Str}{e:ao}{f:DE->R D}{p apos cO:Pos}(he:PE X e (tD X.K E f))(hN:X.N[i]?=aa x:=by rfl)(hv:yF X.env.scope x:=by omega)(hd:(x==("__debug__":Str))=false:=by decide)
  (hcd:(x==("__classdict__":Str))=false:=by decide)
  (hbase:hU (.Name x p) "append" X.env (aw (.Name x p) X.env)=aw (.Name x p) X.env:=by rfl)
  (hfew:((bp cO (ar [e] X.env)).all (λx=> !x.1)&&(kR cO (kT [] X.env)).all (λx=>x.1.isSome)
   &&decide ([e].length+([]:List eU).length+(if([]:List eU).isEmpty then 0 else 1)<30))=true:=by rfl)
  (hline:(apos.endLine==cO.line)=true:=by rfl)(hst:ar [e] X.env=(false,aw e X.env)::ar [] X.env:=by rfl)(hplain:(bp cO (ar [] X.env)).any (·.1)=false:=by rfl)
  (hs:fK (.Call (.Attribute (.Name x p) "append" apos) [e] [] cO) none pos.line X.env=aW false:=by rfl):
  PS X (.Expr (.Call (.Attribute (.Name x p) "append" apos) [e] [] cO) pos) (tS X.K E λenv=>(ownAt i env).bind λxs=>(f env).bind λd=>aar i env xs d):=ahk i he hN hv hd hcd hbase hfew hline hst hplain hs
def ad8(i:Nat){x:Str}{p apos cO:Pos}(hN:X.N[i]?=aa x:=by rfl)(hv:yF X.env.scope x:=by omega)(hd:(x==("__debug__":Str))=false:=by decide)
  (hcd:(x==("__classdict__":Str))=false:=by decide)
  (hbase:hU (.Name x p) "pop" X.env (aw (.Name x p) X.env)=aw (.Name x p) X.env:=by rfl)(hline:(apos.endLine==cO.line)=true:=by rfl)
  (hs:fK (.Call (.Attribute (.Name x p) "pop" apos) [] [] cO) none pos.line X.env=aW false:=by rfl):
  PS X (.Expr (.Call (.Attribute (.Name x p) "pop" apos) [] [] cO) pos) (tS X.K E λenv=>(ownAt i env).bind λxs=>aas i env xs):=ahl i hN hv hd hcd hbase hline hs
def ED(i:Nat){x:Str}{ek e:ao}{fk f:DE->R D}{p tp:Pos}(hk:PE X ek (tB X.K E fk))(he:PE X e (tD X.K E f))(hN:X.N[i]?=aa x:=by rfl)(hv:yF X.env.scope x:=by omega)(hd:(x==("__debug__":Str))=false:=by decide)
  (hcd:(x==("__classdict__":Str))=false:=by decide)
  (ha:∀v,kO (.Subscript (.Name x p) ek tp) X.env v=(do
   let ov<-jO [v] (aw (.Name x p) X.env);let iv<-jO [v,ov] (aw ek X.env)
   uS tp
   jO [v,ov,iv] (Ac ov iv v)
   release [v,ov,iv] []):=by intro _;rfl)
  (hs:Af [.Subscript (.Name x p) ek tp] e pos.line X.env=aW false:=by rfl)(hw:Ag [.Subscript (.Name x p) ek tp] e X.env=aW none:=by rfl)
  (h1:(g9 [.Subscript (.Name x p) ek tp] X.env).map (·.2)=[kO (.Subscript (.Name x p) ek tp) X.env]:=by rfl):
  PS X (.Assign [.Subscript (.Name x p) ek tp] e pos) (tS X.K E λenv=>(f env).bind λd=>(ownAt i env).bind λxs=>(fk env).bind λkd=>GD i env d xs kd):=by
 have h:=Z2 (pos:=pos) i hk he hN hv hd hcd ha hs hw h1;have e':(λenv:DE=>(f env).bind λd=>(ownAt i env).bind λxs=>(fk env).bind λkd=>GD i env d xs kd)=(λenv=>(f env).bind λd=>(ownAt i env).bind λxs=>(fk env).bind λkd=>match kd with
   |.int j=>(match wN xs.length j with
    |some n=>.ok (.nx (env.set i (.own (xs.set n d))))
    |none=>.bad)
   |_=>.bad):=by
  funext env;refine congrArg (R.bind (f env)) (funext λd=>congrArg (R.bind _) (funext λxs=>congrArg (R.bind _) (funext λkd=>?_)));cases kd<;>rfl
 rw[e'];exact h
def X0(i:Nat){x:Str}{e:ao}{op:wU}{h:Int->Int->Int}{f:DE->R D}{pos':Pos}(ho:PIp X op (ipI h))(he:PE X e (tB X.K E f))(hN:X.N.Nodup)(hi:X.N[i]?=aa x:=by rfl)(hx:Loc X.env.scope x:=by omega)
  (hf:X.fn x=true\/X.env.scope.names.lookup x=aa .local:=by omega):
  PS X (.AugAssign (.Name x pos') op e pos) (tS X.K E λenv=>(dU i env).bind λa=>(f env).bind λb=>NG h i env a b):=by
 have h':=ahm (pos:=pos) (pos':=pos') i ho he hN hi hx hf;have e':(λenv:DE=>(dU i env).bind λa=>(f env).bind λb=>NG h i env a b)=(λenv=>(dU i env).bind λa=>(f env).bind λb=>match a,b with
   |.int u,.int w=>.ok (.nx (env.set i (.val (.int (h u w)))))
   |_,_=>.bad):=by
  funext env;refine congrArg (R.bind _) (funext λa=>congrArg (R.bind _) (funext λb=>?_));cases a<;>cases b<;>rfl
 rw[e'];exact h'
end
def Vb(d:D):R D:=match toV d with
 |some _=>.ok d
 |none=>.bad
def IY{x d:D}(h:Vb x=.ok d):x=d/\∃z,toV d=aa z:=by
 unfold Vb at h;cases e:toV x with
 |none=>rw[e]at h;cases h
 |some z=>rw[e]at h;cases h;exact⟨rfl,z,e⟩
def scL:List D->R (List D)
 |[]=>.ok []
 |x::r=>(Vb x).bind λy=>(scL r).bind λys=>.ok (y::ys)
theorem IZ:∀{xs ys:List D},scL xs=.ok ys->xs=ys/\∀d∈ys,∃z,toV d=aa z
 |[],ys,h=>by cases h;exact⟨rfl,λd hd=>nomatch hd⟩
 |x::r,ys,h=>by unfold scL at h;obtain⟨y,h1,h2⟩:=R.ju h;obtain⟨zs,h3,h4⟩:=R.ju h2;cases h4;obtain⟨rfl,hz⟩:=IY h1;obtain⟨rfl,hs⟩:=IZ h3;exact⟨rfl,λd hd=>(aO.mp hd).elim (λe=>by rw[e];exact hz) (hs d)⟩
def X1(i:Int):Vb (.int i)=.ok (.int i):=rfl
def X2(i:Bool):Vb (.bl i)=.ok (.bl i):=rfl
def X3(i:Str):Vb (.str i)=.ok (.str i):=rfl
def X4:Vb .non=.ok .non:=rfl
def nS(ns:List Int):scL (bK ns)=.ok (bK ns):=by
 induction ns with
 |nil=>rfl
 |cons x r ih=>show(Vb (.int x)).bind (λy=>(scL (bK r)).bind λys=>.ok (y::ys))=_;rw[ih];rfl
def mD(n N:Nat)(b:DE->R Out)(ds:List D):R D:=if ds.length=n then((b (aT N ds)).bind aK).ne else .bad
def mS(n N:Nat)(b:DE->R Out)(ds:List D):R D:=if ds.length=n then(((b (aT N ds)).bind aK).bind Vb).ne else .bad
def mF(n N:Nat)(b:DE->R Out)(ds:List D):R (List D):=if ds.length=n then((b (aT N ds)).bind aM).ne else .bad
def dZ(n N:Nat)(b:DE->R Out)(ds:List D):R (List D):=if ds.length=n then(((b (aT N ds)).bind aM).bind scL).ne else .bad
def R.dE {α:Type}{r:R α}{a:α}(h:r.ne=.ok a):r=.ok a:=by
 cases r with
 |ok b=>exact h
 |err c=>cases h
 |bad=>cases h
def R.Lu {α:Type}{r:R α}{c:Str}:r.ne≠.err c:=by cases r<;>intro h<;>cases h
def X5{n N:Nat}{b:DE->R Out}:ScD (mS n N b):=λds d h=>by
 unfold mS at h;split at h
 ·obtain⟨x,_,h2⟩:=R.ju (R.dE h)
  exact(IY h2).2
 ·cases h
def scl{n N:Nat}{b:DE->R Out}:ScL (dZ n N b):=λds d h=>by
 unfold dZ at h;split at h
 ·obtain⟨x,_,h2⟩:=R.ju (R.dE h)
  exact(IZ h2).2
 ·cases h
section
variable{P:aR}{w:aE}{K:ak}{mg:Str->Option ah}{base:aC}
variable{x:Str}{st:aD}{f:ae}{fd:aL}{N ps:List Str}{k:Nat}{b:DE->R Out}
def okD(S:bc N ps (au st))(d:Df K mg x st ps f fd)
  (hb:∀(cdv:ah)(A:bh)(outer:List Env)(s:aj)(H:Hp)(E:XK),cG k (A.deeper (eT x (au st) s.heap.objs.size f cdv))->vP (ud oN P w K mg base N x (au st) f cdv A outer s H E).JW (dq st) (tS K EN b)):
  Ok P w K mg base (k+1) f fd ps (mD ps.length N.length b):=mkD S d hb (λds e h=>by
 unfold mD at h;split at h
 ·rename_i c
  exact⟨c,R.dE h⟩
 ·cases h) λds c h=>by
 unfold mD at h;split at h
 ·exact R.Lu h
 ·cases h
def okS(S:bc N ps (au st))(d:Df K mg x st ps f fd)
  (hb:∀(cdv:ah)(A:bh)(outer:List Env)(s:aj)(H:Hp)(E:XK),cG k (A.deeper (eT x (au st) s.heap.objs.size f cdv))->vP (ud oN P w K mg base N x (au st) f cdv A outer s H E).JW (dq st) (tS K EN b)):
  Ok P w K mg base (k+1) f fd ps (mS ps.length N.length b):=mkD S d hb (λds e h=>by
 unfold mS at h;split at h
 ·rename_i c
  obtain⟨y,h1,h2⟩:=R.ju (R.dE h);obtain⟨rfl,_⟩:=IY h2;exact⟨c,h1⟩
 ·cases h) λds c h=>by
 unfold mS at h;split at h
 ·exact R.Lu h
 ·cases h
def okF(S:bc N ps (au st))(d:Df K mg x st ps f fd)
  (hb:∀(cdv:ah)(A:bh)(outer:List Env)(s:aj)(H:Hp)(E:XK),cG k (A.deeper (eT x (au st) s.heap.objs.size f cdv))->vP (ud oN P w K mg base N x (au st) f cdv A outer s H E).JW (dq st) (tS K EN b)):
  qc P w K mg base (k+1) f fd ps (mF ps.length N.length b):=mkF S d hb (λds e h=>by
 unfold mF at h;split at h
 ·rename_i c
  exact⟨c,R.dE h⟩
 ·cases h) λds c h=>by
 unfold mF at h;split at h
 ·exact R.Lu h
 ·cases h
def wG(S:bc N ps (au st))(d:Df K mg x st ps f fd)
  (hb:∀(cdv:ah)(A:bh)(outer:List Env)(s:aj)(H:Hp)(E:XK),cG k (A.deeper (eT x (au st) s.heap.objs.size f cdv))->vP (ud oN P w K mg base N x (au st) f cdv A outer s H E).JW (dq st) (tS K EN b)):
  qc P w K mg base (k+1) f fd ps (dZ ps.length N.length b):=mkF S d hb (λds e h=>by
 unfold dZ at h;split at h
 ·rename_i c
  obtain⟨y,h1,h2⟩:=R.ju (R.dE h);obtain⟨rfl,_⟩:=IZ h2;exact⟨c,h1⟩
 ·cases h) λds c h=>by
 unfold dZ at h;split at h
 ·exact R.Lu h
 ·cases h
end
section
variable{d:D}{xs:List D}{r:DE}{a:Sl}{i:Nat}
def X6:dU 0 (.val d::r)=.ok d:=rfl
def X7:dU (i+1) (a::r)=dU i r:=rfl
def X8:cB 0 (.val d::r)=.ok d:=rfl
def P1:cB 0 (.own xs::r)=.ok (.lst xs):=rfl
def X9:cB (i+1) (a::r)=cB i r:=rfl
def Yb:qQ 0 (.val (.lst xs)::r)=.ok xs:=rfl
def P4:qQ 0 (.own xs::r)=.ok xs:=rfl
def Yc:qQ (i+1) (a::r)=qQ i r:=rfl
def Yd:ownAt 0 (.own xs::r)=.ok xs:=rfl
def Ye:ownAt (i+1) (a::r)=ownAt i r:=rfl
def Yg:A0 0 (.own xs::r)=.val (.lst xs)::r:=rfl
def Yh:A0 (i+1) (a::r)=a::A0 i r:=by
 unfold A0;rw[List.getElem?_cons_succ];cases e:r[i]? with
 |none=>rfl
 |some sl=>cases sl<;>rfl
end
def bT2(i j:Nat)(a b:D)(env:DE):bT 2 (qg (bN i) (qg (bN j) EC)) (.tup [a,b]) env=.ok ((env.set i (.val a)).set j (.val b)):=rfl
def kB(i:Nat)(a:D)(env:DE):bN i a env=.ok (env.set i (.val a)):=rfl
def gM{ns:List Int}(h:ns.length<=1000000):fit (bK ns)=.ok (bK ns):=lA (by rw[cZ];exact big h)
def vx(a b:List Int):bK a++bK b=bK (a++b):=(b7 ..).symm
def ue(n d:Nat):HT.A8 n d none=d:=rfl
def nX(n d:Nat)(i:Int)(h:0<=i):HT.A8 n d (aa i)=min i.toNat n:=by unfold HT.A8;dsimp only;split<;>lia
def Bo{α:Type}(xs:List α)(m:Int)(h:0<=m):cut xs none (aa m)=xs.take m.toNat:=by
 unfold cut;rw[ue,nX _ _ _ h,Et,Lv];rcases Vc m.toNat xs.length with q|q
 ·rw[EE q]
 ·rw[Vd q,xD,Aw q]
def GF{α:Type}(xs:List α)(m:Int)(h:0<=m):cut xs (aa m) none=xs.drop m.toNat:=by
 unfold cut;rw[ue,nX _ _ _ h];rcases Vc m.toNat xs.length with q|q
 ·rw[EE q,Aw (by rw[nY];exact aY _)]
 ·rw[Vd q,Ay,Ve,List.drop_eq_nil_of_le q]
def C0{cells:List Int}{j:Nat}{x:D}(h:(je (bK cells))[j]?=aa x):∃c,cells[j]?=aa c/\x=.tup [.int (j:Nat),.int c]:=by
 obtain⟨d,hd,rfl⟩:=yS h;unfold bK at hd;rw[bG]at hd;cases q:cells[j]? with
 |none=>rw[q]at hd;cases hd
 |some c=>rw[q]at hd;cases hd;exact⟨c,rfl,rfl⟩
def NH(xs:List D):(je xs).length=xs.length:=by simp[je]
def Lw{i:Nat}{env:DE}{xs:List D}{d:D}(h:xs.length<1000000):aar i env xs d=.ok (.nx (env.set i (.own (xs++[d])))):=if_pos (cY h (by decide))
def Vf{i:Nat}{env:DE}{xs:List D}(h:0<xs.length):aas i env xs=.ok (.nx (env.set i (.own xs.dropLast))):=if_pos h
def GG{i:Nat}{env:DE}{d:D}{xs:List D}{j:Int}(h:0<=j)(h2:j<xs.length):GD i env d xs (.int j)=.ok (.nx (env.set i (.own (xs.set j.toNat d)))):=by
 unfold GD;have:wN xs.length j=aa j.toNat:=by unfold L2.wN;rw[if_pos h,if_pos h2]
 simp only [this]
def Lx{α:Type}{xs:List α}{j:Int}(h:0<=j):kU xs j=xs[j.toNat]?:=by
 unfold L2.kU L2.wN;rw[if_pos h];split
 ·rfl
 ·rename_i c
  symm
  show _=none;rw[List.getElem?_eq_none_iff];lia
def Vg(ns:List Int)(j:Nat)(x:Int):(bK ns).set j (.int x)=bK (ns.set j x):=xE.symm
def Vh(ns:List Int)(j:Nat):(bK ns)[j]?=(ns[j]?).map .int:=bG
def EF(ns:List Int):(bK ns).reverse=bK ns.reverse:=oh.symm
def xF(a:Int)(ns:List Int):D.int a::bK ns=bK (a::ns):=rfl
def Yi(T:String)(i:Int):IS T (.int i)=.ok (.bl (oX (Ex (.int i)) T)):=rfl
def Yj(T:String)(i:Bool):IS T (.bl i)=.ok (.bl (oX (Ex (.bl i)) T)):=rfl
def Yk(T:String)(i:Str):IS T (.str i)=.ok (.bl (oX (Ex (.str i)) T)):=rfl
def Ym(T:String):IS T .non=.ok (.bl (oX (Ex .non) T)):=rfl
def Yn(T:String)(i:List D):IS T (.lst i)=.ok (.bl (oX (Ex (.lst i)) T)):=rfl
def Yo(T:String)(i:List D):IS T (.tup i)=.ok (.bl (oX (Ex (.tup i)) T)):=rfl
def bU:(type_of% @bQ.{0})/\(type_of% @gJ.{0})/\(type_of% @bu.{0,0})/\(type_of% @pU.{0,0})/\(type_of% @gI.{0})/\(type_of% @jS.{0})/\(type_of% @xG.{0})/\(type_of% @gH.{0})/\(type_of% @if_true.{1})/\(type_of% @ite_true.{1})/\(type_of% @Ew)/\(type_of% @Vi)/\(type_of% @X6)/\(type_of% @X7)/\(type_of% @X8)/\(type_of% @P1)/\(type_of% @X9)/\(type_of% @Yb)/\(type_of% @P4)/\(type_of% @Yc):=⟨@bQ.{0},@gJ.{0},@bu.{0,0},@pU.{0,0},@gI.{0},@jS.{0},@xG.{0},@gH.{0},@if_true.{1},@ite_true.{1},@Ew,@Vi,@X6,@X7,@X8,@P1,@X9,@Yb,@P4,@Yc⟩
def bV:(type_of% @Yd)/\(type_of% @Ye)/\(type_of% @Yg)/\(type_of% @Yh)/\(type_of% @Vj.{0})/\(type_of% @Vk.{0})/\(type_of% @R.cD)/\(type_of% @R.pY)/\(type_of% @R.Pu)/\(type_of% @XR)/\(type_of% @XS)/\(type_of% @XT)/\(type_of% @EA)/\(type_of% @PQ)/\(type_of% @PR)/\(type_of% @XF)/\(type_of% @XG)/\(type_of% @XH)/\(type_of% @XI)/\(type_of% @XJ):=⟨@Yd,@Ye,@Yg,@Yh,@Vj.{0},@Vk.{0},@R.cD,@R.pY,@R.Pu,@XR,@XS,@XT,@EA,@PQ,@PR,@XF,@XG,@XH,@XI,@XJ⟩
def bW:(type_of% @XM)/\(type_of% @XO)/\(type_of% @XQ)/\(type_of% @PV)/\(type_of% @Ln)/\(type_of% @PX)/\(type_of% @PY)/\(type_of% @XU)/\(type_of% @XW)/\(type_of% @XX)/\(type_of% @ad2)/\(type_of% @ad3)/\(type_of% @aap)/\(type_of% @ad4)/\(type_of% @ad5)/\(type_of% @Lo)/\(type_of% @Lp)/\(type_of% @GB)/\(type_of% @X1)/\(type_of% @X2):=⟨@XM,@XO,@XQ,@PV,@Ln,@PX,@PY,@XU,@XW,@XX,@ad2,@ad3,@aap,@ad4,@ad5,@Lo,@Lp,@GB,@X1,@X2⟩
def bX:(type_of% @X3)/\(type_of% @X4)/\(type_of% @Lq)/\(type_of% @Yi)/\(type_of% @Yj)/\(type_of% @Yk)/\(type_of% @Ym)/\(type_of% @Yn)/\(type_of% @Yo):=⟨@X3,@X4,@Lq,@Yi,@Yj,@Yk,@Ym,@Yn,@Yo⟩
section
variable{X:Cx}{E:Str->Hp->Prop}{pos:Pos}
def aea{st:aD}:PS X st (tS X.K E λ_=>.bad):=λpins s σ H De I ⟨g,env,os,r,m⟩=>m.elim
end
def Vm:GA .non .non=aa (.bl false):=rfl
def Kep(fs xs:List ae)(h h':aC):Prop:=∀b o,h.get? b=aa o->b∉xs->(b∉fs->h'.get? b=aa o)/\∃sl,h'.get? b=aa {o with slots:=sl}
structure Exc(h:aC)(e T C:ae)(fl:ah):Prop where
 at_:∃vs,h.get? e=aa {cls:=.ref C,data:=.fields vs}/\vs[1]?=aa (.ref T)
 ne:T≠e
 tb:∃oT ts,h.get? T=aa oT/\oT.data=.fields ts/\ts[3]?=aa fl
section
variable{P:aR}{w:aE}{H H':Hp}{h h1 h2:aC}{fs fs' xs:List ae}
def CXF(P:aR)(w:aE):Oo:=λouter H s E ev s'=>∃e T C H',ev=.ref e/\Exc s'.heap e T C .none/\s.heap.get? e=none/\s.heap.get? T=none/\H' e=none/\H' T=none/\s'.os=s.os/\nU s'.gens/\
 Un (Ij outer) [] H H' s.heap s'.heap/\vO P w H' s'.heap/\E (.ref C) none H'
end
def xcK(K:ak)(n:Str):ah:=match rR K dH n with
 |some (aa v)=>v
 |_=>.none
section
variable{P:aR}{w:aE}{K:ak}{mg:Str->Option ah}{base:aC}{N:List Str}{qual:Str}{scope:cU}{f:ae}{cd:ah}{A:bh}{outer:List Env}{s:aj}{H:Hp}{E:XK}
abbrev EW(K:ak)(E:XK):Str->Hp->Prop:=λn H'=>E (xcK K n) none H'
end
abbrev OkX(P:aR)(w:aE)(K:ak)(mg:Str->Option ah)(base:aC)(k:Nat)(f:ae)(fd:aL)(ps:List Str)(m:List D->R D):Prop:=fA P w K mg base (CXF P w) k f fd ps (K5 K (xcK K) m)
abbrev apB(P:aR)(w:aE)(K:ak)(mg:Str->Option ah)(base:aC)(k:Nat)(f:ae)(fd:aL)(ps:List Str)(m:List D->R (List D)):Prop:=fA P w K mg base (CXF P w) k f fd ps (Sz K (xcK K) m)
section
variable{P:aR}{w:aE}{K:ak}{mg:Str->Option ah}{base:aC}
variable{x:Str}{st:aD}{f:ae}{fd:aL}{N ps:List Str}{k:Nat}{b:DE->R Out}
variable(S:bc N ps (au st))(d:Df K mg x st ps f fd)
  (hb:∀(cdv:ah)(A:bh)(outer:List Env)(s:aj)(H:Hp)(E:XK),cG k (A.deeper (eT x (au st) s.heap.objs.size f cdv))->vP (ud (CXF P w) P w K mg base N x (au st) f cdv A outer s H E) (dq st) (tS K (EW K E) b))
include S d hb
end
abbrev hdl(X:Cx)(e:ae):Cx:={X with A:=X.A.mark (aa (.ref e)),calm:=false,xe:=λ_ _=>False}
section
variable{X:Cx}{E:Str->Hp->Prop}{pos:Pos}
def P5(i j:Nat)(env:DE):List D->R Out
 |[a,b]=>.ok (.nx ((env.set i (.val a)).set j (.val b)))
 |_=>.bad
def aeb(i j:Nat){x y:Str}{a b:ao}{f:DE->R (List D)}{px py pt:Pos}{kt k2 Zx}(hc:X.calm=true)(hN:X.N.Nodup)(ha:PA X [a,b] (Ou X.K E f))(hi:X.N[i]?=aa x:=by rfl)(hj:X.N[j]?=aa y:=by rfl)(hij:i≠j:=by decide)
  (hx:X.env.scope.names.lookup x=aa .local:=by rfl)(hy:X.env.scope.names.lookup y=aa .local:=by rfl)
  (hw:Ag [.Tuple [.Name x px,.Name y py] kt pt] (.Tuple [a,b] k2 Zx) X.env=aW (aa [x,y]):=by rfl)
  (hs:Af [.Tuple [.Name x px,.Name y py] kt pt] (.Tuple [a,b] k2 Zx) pos.line X.env=aW false:=by rfl):
  PS X (.Assign [.Tuple [.Name x px,.Name y py] kt pt] (.Tuple [a,b] k2 Zx) pos) (tS X.K E λenv=>(f env).bind (P5 i j env)):=
 oQ (Zw hc hN hi hj hij hx hy ha hw hs) λDe σ H ⟨g,env,os,r,m⟩=>⟨g,env,os,r,m.bind.mono λds _ q vs H' s h=>by
  unfold P5 at q;split at q
  ·rename_i a b
   obtain⟨v,w,rfl,h1,h2⟩:=IsL.UJ h;exact⟨v,w,rfl,q _ H' os (((r.same s).set i h1).set j h2) (.same s os)⟩
  ·exact q.elim⟩
end
theorem jT{K:ak}{P:ae->Prop}{H:Hp}:∀{ns:List Int}{vs:List V},IsL K P H (bK ns) vs->vs=ns.map V.int
 |[],_,h=>h
 |n::ns,_,⟨v,r,e,p,q⟩=>by have p':v=.int n:=p;rw[e,p',jT q];rfl
theorem Ly{K:ak}{P:ae->Prop}{H:Hp}:∀(ns:List Int),IsL K P H (bK ns) (ns.map V.int)
 |[]=>rfl
 |n::ns=>⟨_,_,rfl,rfl,Ly ns⟩
def wb(xs:List D):Option D:=(Lr xs).map λns=>.int ns.sum
def sortI(ns:List Int):List Int:=ns.mergeSort (λa b=>decide (a<=b))
def GH(xs:List D):R (List D):=match Lr xs with
 |some ns=>if ns.length<64 then .ok (bK (sortI ns))else .bad
 |none=>.bad
def uj(xs:List D):D->R D
 |.int k=>match Lr xs with
  |some ns=>if k∈ns then .ok (.int (ns.idxOf k:Nat))else .bad
  |none=>.bad
 |_=>.bad
def aav:eO "sum"=aa (.builtin "sum"):=by decide +kernel
def NI:eO "sorted"=aa (.builtin "sorted"):=by decide +kernel
def GJ{a b:List Int}(p:a.Perm b)(o:a.Pairwise (·<=·)):a=sortI b:=by refine PySem.W.lks_uniq (p.trans (List.mergeSort_perm b _).symm) o ?_;have h:=List.pairwise_mergeSort (le:=λa b:Int=>decide (a<=b)) (λa b c h1 h2=>by simp only [decide_eq_true_eq]at h1 h2⊢;lia) (λa b=>by simp only [Ez,decide_eq_true_eq];lia) b;exact h.imp λh=>by simpa using h
section
variable{X:Cx}{E:Str->Hp->Prop}{pos:Pos}
def aec{p:Pos}{a:ao}{f:DE->R (List D)}(hc:X.calm=true)(hm:X.mg "sum"=none)(ha:PE X a (tL X.K E f))(hg:Gl X "sum":=by rfl)
  (he:ar [a] X.env=(false,aw a X.env)::ar [] X.env:=by rfl)(hpl:(bp pos (ar [] X.env)).any (·.1)=false:=by rfl):PE X (.Call (.Name "sum" p) [a] [] pos) (tD X.K E λenv=>(f env).bind λxs=>R.of (wb xs)):=by
 refine imp (nj (r:=λxs H Q=>∃(l:ae)(ns:List Int),xs=[.ref l]/\fG X.K H l (ns.map V.int)/\Q (.int ns.sum) H) ?_ hg hm aav (aS ha bA he) (by decide) (by decide) he hpl) λσ H Q ⟨g,env,os,r,m⟩=>⟨g,env,os,r,m.bind.mono λxs _ q l vs H' s hl i=>?_⟩
 ·intro pins s σ H xs us Q I r h
  obtain⟨l,ns,rfl,hl,q⟩:=h;obtain⟨u,rfl,ru⟩:=vals1 r;have e:u=.ref l:=ru;subst e;obtain⟨its,rv,pl,hz⟩:=I.list hl;have ia:=intsAre_of rv;obtain⟨ys,hx⟩:=ia.allInts.items;have Vn:s.heap.IsList l (intItems ys):=hx▸pl.isList;have hh:X.A.handled=none:=I.ok.hd hc;have e1:ns=ys.toList.map (·.1):=by rw[<-nums_intItems,<-hx];exact(show numsOf its.toArray.toList=ns from ia.numsOf).symm
  refine sum_intListG hh Vn λh' tk t' hk=>?_;have e2:preSum (numAt ys) ys.size=ns.sum:=by rw[preSum_eq,Aw (by simp),e1]
  rw[e2];exact⟨.int _,H,I.kept (s:=s) (t':=tk) hk,⟨_,rfl⟩,q⟩
 ·obtain⟨d,e,q2⟩:=q.of
  unfold wb at e;cases z:Lr xs with
  |none=>rw[z]at e;cases e
  |some ns=>
   rw[z]at e;have ex:=Bm z;subst ex;have ev:=jT i;subst ev;cases e;exact⟨l,ns,rfl,hl,q2 _ H' s rfl⟩
def Vo{p:Pos}{a:ao}{f:DE->R (List D)}(hm:X.mg "sorted"=none)(ha:PE X a (tL X.K E f))(hg:Gl X "sorted":=by rfl)
  (he:ar [a] X.env=(false,aw a X.env)::ar [] X.env:=by rfl)(hpl:(bp pos (ar [] X.env)).any (·.1)=false:=by rfl):PE X (.Call (.Name "sorted" p) [a] [] pos) (tF X.K E λenv=>(f env).bind GH):=by
 refine imp (nj (r:=λxs H Q=>∃(l:ae)(ns:List Int),xs=[.ref l]/\fG X.K H l (ns.map V.int)/\ns.length<64/\∀p,H p=none->Q (.ref p) (upd H p (.lst ((sortI ns).map V.int)))) ?_ hg hm NI (aS ha bA he) (by decide) (by decide) he hpl) λσ H Q ⟨g,env,os,r,m⟩=>⟨g,env,os,r,m.bind.mono λxs _ q l vs H' s hl i=>?_⟩
 ·intro pins s σ H xs us Q I r h
  obtain⟨l,ns,rfl,hl,h64,q⟩:=h;obtain⟨u,rfl,ru⟩:=vals1 r;have e:u=.ref l:=ru;subst e;obtain⟨its,rv,pl,hz⟩:=I.list hl;have ia:=intsAre_of rv;refine PyProof.Rows.sorted_ints pl.isList ia (by rw[ve.length ia];exact h64) λout ns' a1 a2 a3=>?_;have es:=GJ a2 a3;subst es;obtain⟨n,hn⟩:=sortedAll_at s.heap its out;refine⟨.ref _,_,I.laid (a:=s.heap.objs.size+1) (o:=.lst ((sortI ns).map V.int)) (t':=s.toks) (λ_ _=>sortedAll_old) (Kr _) ⟨?_,out.toList,n,yL a1,?_⟩,rfl,q _ (I.hok.fresh (Kr _))⟩
  ·rw[aG,a2.length_eq]
   exact DG (KS h64 (by decide))
  ·rw[hn]
 ·unfold GH at q
  split at q
  ·rename_i ns z
   split at q
   ·rename_i c
    have ex:=Bm z;subst ex;have ev:=jT i;subst ev;refine⟨l,ns,rfl,hl,c,λp hp=>?_⟩;obtain⟨b1,b2,b3,b4⟩:=NB r s hp (Ly (K:=X.K) (P:=g.P os) (H:=H') (sortI ns));exact q p _ _ b1 b2 b3 b4
   ·exact q.elim
  ·exact q.elim
def aaw(K:ak):V->List V->Hp->VK->Prop:=λx xs H Q=>∃(l:ae)(ns:List Int)(k:Int),x=.ref l/\xs=[.int k]/\fG K H l (ns.map V.int)/\k∈ns/\Q (.int (ns.idxOf k:Nat)) H
def P6:MtR X "list.index" (aaw X.K):=by
 intro pins s σ H x xs v us Q I rx r h;obtain⟨l,ns,k,rfl,rfl,hl,hk,q⟩:=h;obtain⟨u,rfl,t,ru⟩:=vals1 r;subst ru;cases rx;obtain⟨its,rv,pl,hz⟩:=I.list hl;have ia:=intsAre_of rv;obtain⟨o,n,h1,h2,h3,h4⟩:=pl;cases o;simp only at h2 h3 h4;subst h2 h3 h4;have hlen:=ia.length;have hj:ns.idxOf k<ns.length:=List.idxOf_lt_length_iff.mpr hk;have hz2:ns.length<=aH:=by simpa using hz
 refine xh Vp ⟨_,h1,rfl⟩ PySem.F.entry_list_index (PySem.F.args_list_index_2 _ _)
  (SeqAt.list_indexAt l its.toArray n none _ (.int k t) (isInt k) (ns.idxOf k) (by simpa[hlen]using hj) (by have h63:=wu;lia) ?_ ?_) ⟨h1,λy hy=>(eq_isInt k t ia y (by simpa using hy)).at _ _,⟨.int _,H,I.tok _,⟨_,rfl⟩,q⟩⟩
 ·show isInt k its[ns.idxOf k]=true
  rw[isInt_at k ia _ (by lia) hj];simpa using Lz hj
 ·intro j hjs hlt
  show isInt k its[j]=false;rw[isInt_at k ia j (by simpa using hjs) (by simp at hjs;lia)];exact ne_of_lt_idxOf hlt _
def P7{o e:ao}{apos cO:Pos}{fo:DE->R (List D)}{f:DE->R D}(ho:PE X o (tL X.K E fo))(he:PE X e (tB X.K E f))
  (hbase:hU o "index" X.env (aw o X.env)=aw o X.env:=by rfl)
  (hfew:((bp cO (ar [e] X.env)).all (λx=> !x.1)&&(kR cO (kT [] X.env)).all (λx=>x.1.isSome)
   &&decide ([e].length+([]:List eU).length+(if([]:List eU).isEmpty then 0 else 1)<30))=true:=by rfl)
  (hline:(apos.endLine==cO.line)=true:=by rfl)(hst:ar [e] X.env=(false,aw e X.env)::ar [] X.env:=by rfl)(hplain:(bp cO (ar [] X.env)).any (·.1)=false:=by rfl):
  PE X (.Call (.Attribute o "index" apos) [e] [] cO) (tD X.K E λenv=>(fo env).bind λxs=>(f env).bind λk=>uj xs k):=
 imp (ug jt Vp PySem.F.type_list_index P6 ho (aS he bA hst) hbase hfew hline hst hplain) λσ H Q ⟨g,env,os,r,m⟩=>⟨g,env,os,r,m.bind.mono λxs _ m1 l vs H1 s1 hl i=>⟨.inl ⟨rfl,vs,hl⟩,g,env,os,r.same s1,m1.bind.mono λk _ q v H2 s2 i2=>by
  unfold uj at q;split at q
  ·rename_i kk _
   split at q
   ·rename_i ns z
    split at q
    ·rename_i c
     have ex:=Bm z;subst ex;have ev:=jT i;subst ev;have e2:v=.int kk:=i2;subst e2;exact⟨l,ns,kk,rfl,rfl,s2.seq hl,c,q _ H2 (s1.trans s2) rfl⟩
    ·exact q.elim
   ·exact q.elim
  ·exact q.elim⟩⟩
end
def P8(lo c:Int)(n:Nat):List D:=(bZ n).map λi=>.int (lo+(i:Nat)*c)
abbrev RC(a b c:Int):Prop:= -1000000<=a/\a<=1000000/\ -1000000<=b/\b<=1000000/\c≠0/\ -1000000<=c/\c<=1000000
def P9:List D->R (List D)
 |[.int a,.int b,.int c]=> @ite _ (RC a b c) (dM _) (.ok (P8 a c (iQ a b c).toNat)) .bad
 |_=>.bad
def xH{a b c:Int}(h:RC a b c):0<=iQ a b c/\iQ a b c<=2000000:=by
 unfold iQ;have e:∀x y:Int,0<=x->x<2000000->1<=y->0<=x/y/\x/y<2000000:=λx y h1 h2 h3=>⟨Int.ediv_nonneg h1 (by lia),Int.lt_of_le_of_lt (Int.ediv_le_self _ h1) h2⟩
 split
 ·split
  ·have:=e (b-a-1) c (by lia) (by lia) (by lia)
   lia
  ·lia
 ·split
  ·have:=e (a-b-1) (-c) (by lia) (by lia) (by lia)
   lia
  ·lia
def Vq{a b c:Int}(h:RC a b c):Vr a b c=true:=by have hs:=xH h;unfold Vr;simp only [rX,xA,Ez,decide_eq_true_eq,beq_iff_eq];refine⟨by lia,.inr ?_⟩;split<;>simp only [xA,decide_eq_true_eq]<;>lia
section
variable{X:Cx}{E:Str->Hp->Prop}{pos:Pos}{tg:ao}
def IsL.aax {K:ak}{P:ae->Prop}{H:Hp}{d d2 d3:D}{vs:List V}(h:IsL K P H [d,d2,d3] vs):∃v w z,vs=[v,w,z]/\Is K P H d v/\Is K P H d2 w/\Is K P H d3 z:=by obtain⟨v,r,rfl,p,q⟩:=h;obtain⟨w,z,rfl,p2,p3⟩:=IsL.UJ q;exact⟨v,w,z,rfl,p,p2,p3⟩
def vals3{x y z:V}{us:List ah}(r:Vals [x,y,z] us):∃u v w,us=[u,v,w]/\RelV x u/\RelV y v/\RelV z w:=by
 cases r with
 |cons p q=>
  obtain⟨v,w,rfl,p2,p3⟩:=vals2 q;exact⟨_,v,w,rfl,p,p2,p3⟩
def Vs{K:ak}{P:ae->Prop}{H:Hp}{lo c:Int}{n:Nat}:IsL K P H (P8 lo c n) ((bZ n).map λi=>V.int (lo+(i:Nat)*c)):=by
 unfold P8
 induction (bZ n)with
 |nil=>rfl
 |cons x r ih=>exact⟨_,_,rfl,rfl,ih⟩
def Bp{acc:List ah}{lo c:Int}{n:Nat}(h1:acc.length=n)(h2:∀(j:Nat)(v:ah),acc[j]?=aa v->∃t,v=.int (lo+(j:Nat)*c) t):Vals ((bZ n).map λi=>V.int (lo+(i:Nat)*c)) acc:=by
 have gen:∀(l:List ah)(k:Nat),(∀(j:Nat)(v:ah),l[j]?=aa v->∃t,v=.int (lo+((k+j:Nat):Int)*c) t)->Vals ((Lh k l.length).map λi=>V.int (lo+(i:Nat)*c)) l:=by
  intro l
  induction l with
  |nil=>intro k _;exact .nil
  |cons x r ih=>
   intro k hk;rw[bQ,Li,bu];refine .cons ?_ (ih (k+1) λj v e=>?_)
   ·obtain⟨t,e⟩:=hk 0 x (by simp)
    exact⟨t,e⟩
   ·obtain⟨t,e⟩:=hk (j+1) v (by simpa using e)
    exact⟨t,by rw[e,show k+(j+1)=k+1+j by lia]⟩
 subst h1;rw[Lj];exact gen acc 0 λj v e=>by obtain⟨t,q⟩:=h2 j v e;exact⟨t,by rw[q,jv]⟩
def Vt{a b c:ao}{p p2 wD:Pos}{f:DE->R (List D)}(hc:X.calm=true)(PN:X.mg "list"=none)(hmr:X.mg "range"=none)(ha:PA X [a,b,c] (xq X.K E f))(hgl:Gl X "list":=by rfl)(hgr:Gl X "range":=by rfl)
  (hs:ar [a,b,c] X.env=(false,aw a X.env)::ar [b,c] X.env:=by rfl)(aay:(bp wD (ar [b,c] X.env)).any (·.1)=false:=by rfl)(he:ar [.Call (.Name "range" p2) [a,b,c] [] wD] X.env=(false,aw (.Call (.Name "range" p2) [a,b,c] [] wD) X.env)::ar [] X.env:=by rfl)(hpl:(bp pos (ar [] X.env)).any (·.1)=false:=by rfl):
  PE X (.Call (.Name "list" p) [.Call (.Name "range" p2) [a,b,c] [] wD] [] pos) (tF X.K E λenv=>(f env).bind P9):=by
 intro pins s σ H Q I h;obtain⟨g,env,os,r,m⟩:=h;refine u9 (lZ I hgl PN rV ?_);refine mH ?_ he hpl;rw[he];refine w9 ?_;refine uW (lZ I hgr hmr Bj (mH (fz (ha wD pins s σ H _ I ⟨g,env,os,r,m.bind.mono λds _ q vs H1 s1 i1=>(⟨ds,s1,i1,q⟩:∃ds,bD H H1/\IsL X.K Tr H1 ds vs/\Good E g.H₀ (P9 ds) _)⟩) λus s1 ⟨vs,H1,I1,r1,ds,sm,i1,q⟩=>?_) hs aay));unfold P9 at q;split at q
 ·rename_i x y z
  split at q
  ·rename_i h
   obtain⟨v1,v2,v3,rfl,k1,k2,k3⟩:=IsL.aax i1;have k1':v1=.int x:=k1;have k2':v2=.int y:=k2;have k3':v3=.int z:=k3;subst k1' k2' k3';obtain⟨u1,u2,u3,rfl,⟨t1,rfl⟩,⟨t2,rfl⟩,⟨t3,rfl⟩⟩:=vals3 r1;refine call_range_3 h.2.2.2.2.1 ?_ (.inl (TH (by lia)));have I2:Inv X pins σ H1 {s1 with heap:=s1.heap.push {cls:=.type "range",data:=.fields #[.int x t1,.int y t2,.int z t3]},toks:=s1.toks}:=I1.kept λb o e=>cQ _ e;refine w6 ?_;have hd:X.A.handled=none:=I.ok.hd hc;have hn2:=xH h;have hsz:iQ x y z=((iQ x y z).toNat:Nat):=by lia
   refine U8 hd (rH.new ..) (Vq h) hsz (by lia) λh' tk tR c' hk hl hit=>?_;obtain⟨hi1,hi2⟩:=hit;have hv:Vals ((bZ (iQ x y z).toNat).map λi=>V.int (x+(i:Nat)*z)) tR.toList:=Bp (by simpa using hi1) λi v e=>hi2 i v (by simpa using e);have hlen:((bZ (iQ x y z).toNat).map λi=>V.int (x+(i:Nat)*z)).length<=aH:=by rw[aG,Ey];exact iM (show(iQ x y z).toNat<=2000000 by lia) (by decide)
   refine⟨.ref _,upd H1 _ (.lst ((bZ (iQ x y z).toNat).map λi=>V.int (x+(i:Nat)*z))),I2.laid (a:=_) hk (aY _) ⟨hlen,tR.toList,c',hv,by simpa using hl⟩,rfl,?_⟩;have hn:H1 (s1.heap.push {cls:=.type "range",data:=.fields #[.int x t1,.int y t2,.int z t3]}).objs.size=none:=I2.hok.fresh (aY _);exact q _ _ _ (sm.trans (bF hn _)) (sm.free hn) aP Vs
  ·exact q.elim
 ·exact q.elim
end
def cl2(X:Cx)(scope:cU)(C:ae):List (Str×ae):=D9 (C+1) scope.names (FP X.env.cells scope.names [])
noncomputable def anr(X:Cx)(scope:cU)(N:List Str)(s:aj)(H:Hp)(fp:List ae)(C:ae)(pl:List (ae×Obj)):Cx where
 prog:=X.prog
 w:=X.w
 K:=X.K
 mg:=X.mg
 base:=X.base
 A:=X.A
 N:=N
 s₀:=s
 H₀:=H
 env:=xy scope (cl2 X scope C) C X.env
 outer:=X.stack
 stack:=X.stack
 ex:=fp
 fn:=λx=>scope.names.lookup x==aa Vu
 calm:=X.calm
 pn:=pl
 xe:=λ_ _=>False
structure aed(X:Cx)(scope:cU)(N:List Str)(nt:Nat)(caps:List Nat):Prop where
 kind:scope.kind=.function
 apart:∀x,scope.names.lookup x=aa .free->(x,Vu)∉scope.names
 names:∀y∈scope.names,y.2=.local->scope.names.lookup y.1=aa .local
 free:∀y∈scope.names,y.2=.free->X.env.kindOf y.1=aa .cell\/X.env.kindOf y.1=aa .free
 len:N.length=nt+caps.length
 nd:N.Nodup
 caps:∀(j i:Nat),caps[j]?=aa i->∃x,N[nt+j]?=aa x/\X.N[i]?=aa x/\scope.names.lookup x=aa .free/\yF X.env.scope x
section
variable{K:ak}{g:Gh}{env:DE}{σ:St}{H H':Hp}{os:List ae}
def eZ{α:Type}{l:List α}{i j:Nat}{x y:α}(e:(l.set i x)[j]?=aa y)(h:y≠x):i≠j/\l[j]?=aa y:=by
 by_cases hj:i=j
 ·subst hj
  exact(h (bR e)).elim
 ·rw[aJ hj]at e
  exact⟨hj,e⟩
theorem qh:∀{a b:List ae},a.map V.ref=b.map V.ref->a=b
 |[],[],_=>rfl
 |[],_::_,h=>by cases h
 |_::_,[],h=>by cases h
 |x::a,y::b,h=>by injection h with h1 h2;injection h1 with h1;rw[h1,qh h2]
def Rel.Qa (r:Rel K g env σ H os){l:List ae}(s:bD H H')(hn:∀a∈l,H a=none):Ext (g.P os) (g.P (l++os)) H H':=
 ⟨λb o p e=>⟨p.1,λhm=>by
  rcases b8.mp hm with z|z
  ·rw[hn b z]at e;cases e
  ·exact p.2 z⟩,λb o _ e=>s b o e⟩
def Rel.ahU (r:Rel K g env σ H os)(s:bD H H')(i:Nat){nss:List (List Int)}{a:ae}{as:List ae}(hn:∀b∈a::as,H b=none)(nd:(a::as).Nodup)(hl:as.length=nss.length)(hH:H' a=aa (.lst (as.map V.ref)))
  (hi:∀(k:Nat)(b:ae)(ns:List Int),as[k]?=aa b->nss[k]?=aa ns->H' b=aa (.lst (ns.map V.int))):
  Rel K g (env.set i (.deep nss)) (σ.set i (aa (.ref a))) H' ((a::as)++os):=by
 have ap:=r.Qa s hn;have f:∀(j:Nat)(sl:Sl),(env.set i (Sl.deep nss))[j]?=aa sl->sl≠.deep nss->i≠j/\env[j]?=aa sl:=λj sl q hn=>eZ q hn;have dp:Dp K H' ((a::as)++os) a as nss:=⟨by simp,hH,hl,nd,λk b ns e1 e2=>⟨gb _ (bg _ (dm e1)),hi k b ns e1 e2⟩⟩
 have hnew:∀x∈a::as,x∉os:=λx hx hm=>by obtain⟨o,ho⟩:=(r.new x hm).2;rw[hn x hx]at ho;cases ho
 refine⟨by simp[r.len],r.ext.trans s,λj d q=>?_,λj xs q=>?_,λj k xs ys b q1 q2 q3 q4=>?_,λb hb=>?_,λj v q=>?_,?_⟩
 ·obtain⟨hj,q⟩:=f j _ q (λz=>nomatch z)
  obtain⟨v,h1,h2⟩:=r.val j d q;exact⟨v,by rw[aJ hj];exact h1,Is.ext ap _ _ h2⟩
 ·obtain⟨hj,q⟩:=f j _ q (λz=>nomatch z)
  obtain⟨b,vs,h1,h2,h3,h4⟩:=r.own j xs q;exact⟨b,vs,by rw[aJ hj];exact h1,cK _ h2,s _ _ h3,IsL.ext ap _ _ h4⟩
 ·obtain⟨hj,q1⟩:=f j _ q1 (λz=>nomatch z)
  obtain⟨hk,q2⟩:=f k _ q2 (λz=>nomatch z);rw[aJ hj]at q3;rw[aJ hk]at q4;exact r.inj j k xs ys b q1 q2 q3 q4
 ·rcases b8.mp hb with z|z
  ·exact⟨r.ext.free (hn b z),(dp.mem b z).2⟩
  ·obtain⟨h1,o,h2⟩:=r.new b z
   exact⟨h1,o,s _ _ h2⟩
 ·obtain⟨hj,q⟩:=f j _ q (λz=>nomatch z)
  rw[aJ hj];exact r.raw j v q
 ·obtain⟨A,dd⟩:=r.Gk
  refine⟨λj=>if j=i then a::as else A j,λj pL q=>?_,λj pL k xs b q1 q2 q3=>?_,λj k pL Qc hjk q1 q2 x hx=>?_⟩
  ·by_cases hj:j=i
   ·subst hj
    have z:=bR q;cases z;exact⟨a,as,if_pos rfl,by rw[iN (by rw[r.len];exact yP q)],dp⟩
   ·have q':=q
    rw[aJ (Ne.symm hj)]at q';obtain⟨b,bs,h1,h2,h3⟩:=dd.dp j pL q';refine⟨b,bs,by rw[if_neg hj];exact h1,by rw[aJ (Ne.symm hj)];exact h2,h3.to λx hx=>?_⟩;obtain⟨z1,o,z2⟩:=h3.mem x hx;exact⟨cK _ z1,by rw[s x o z2,z2]⟩
  ·obtain⟨hk,q2⟩:=f k _ q2 (λz=>nomatch z)
   rw[aJ hk]at q3;show b∉if j=i then a::as else A j
   by_cases hj:j=i
   ·rw[if_pos hj]
    obtain⟨c,vs,h1,h2,_⟩:=r.own k xs q2;rw[q3]at h1;cases h1;exact λz=>hnew b z h2
   ·rw[if_neg hj]
    rw[aJ (Ne.symm hj)]at q1;exact dd.ow j pL k xs b q1 q2 q3
  ·show x∉if k=i then a::as else A k
   have Cn:x∈if j=i then a::as else A j:=hx
   by_cases hj:j=i
   ·have hk:k≠i:=λz=>hjk (by rw[hj,z])
    rw[if_pos hj]at Cn;rw[if_neg hk];rw[aJ (Ne.symm hk)]at q2;exact λz=>hnew x Cn (dd.mem q2 x z).1
   ·rw[if_neg hj]at Cn
    rw[aJ (Ne.symm hj)]at q1
    by_cases hk:k=i
    ·rw[if_pos hk]
     exact λz=>hnew x z (dd.mem q1 x Cn).1
    ·rw[if_neg hk]
     rw[aJ (Ne.symm hk)]at q2;exact dd.dj j k pL Qc hjk q1 q2 x Cn
def Rel.ahV (r:Rel K g env σ H os){i:Nat}{nss:List (List Int)}(e:env[i]?=aa (.deep nss)){a:ae}{as:List ae}(hσ:σ[i]?=aa (aa (.ref a)))(ha:H a=aa (.lst (as.map V.ref))){k:Nat}{b:ae}{ns:List Int}(hk:as[k]?=aa b)(hns:k<nss.length)(ns':List Int):
  b∈os/\Rel K g (env.set i (.deep (nss.set k ns'))) σ (upd H b (.lst (ns'.map V.int))) os:=by
 obtain⟨A,dd⟩:=r.Gk;obtain⟨a0,Bq,hA,h1,h3⟩:=dd.dp i nss e;rw[hσ]at h1;cases h1;have has:Bq=as:=by
  have z:=h3.ha;rw[ha]at z;have z2:as.map V.ref=Bq.map V.ref:=by injection z with z;injection z
  exact(qh z2).symm
 subst has;have qC:b∈os:=(h3.it k b nss[k] hk (aQ hns)).1;have Vv:b∈A i:=by rw[hA];exact bg _ (dm hk)
 refine⟨qC,?_⟩;have ex:Ext (g.P os) (g.P os) H (upd H b (.lst (ns'.map V.int))):=⟨λ_ _ p _=>p,λc o p q=>by rw[aB (λz=>p.2 (by rw[z];exact qC))];exact q⟩
 have f:∀(j:Nat)(sl:Sl),(env.set i (Sl.deep (nss.set k ns')))[j]?=aa sl->sl≠.deep (nss.set k ns')->i≠j/\env[j]?=aa sl:=λj sl q hn=>eZ q hn;have hba:b≠a:=λz=>(eR.mp h3.nd).1 (by rw[<-z];exact dm hk);refine⟨by simp[r.len],λc o q=>?_,λj d q=>?_,λj xs q=>?_,λj k xs ys c q1 q2 q3 q4=>?_,λc hc=>?_,λj v q=>?_,?_⟩
 ·rw[aB (λz=>by rw[z,(r.new b qC).1]at q;cases q)]
  exact r.ext c o q
 ·obtain⟨hj,q⟩:=f j _ q (λz=>nomatch z)
  obtain⟨v,h1,h2⟩:=r.val j d q;exact⟨v,h1,Is.ext ex _ _ h2⟩
 ·obtain⟨hj,q⟩:=f j _ q (λz=>nomatch z)
  obtain⟨c,vs,h1,h2,h3',h4⟩:=r.own j xs q;have hcb:c≠b:=λz=>dd.ow i nss j xs c e q h1 (by rw[z];exact Vv);exact⟨c,vs,h1,h2,by rw[aB hcb];exact h3',IsL.ext ex _ _ h4⟩
 ·obtain⟨hj,q1⟩:=f j _ q1 (λz=>nomatch z)
  obtain⟨hk,q2⟩:=f k _ q2 (λz=>nomatch z);exact r.inj j k xs ys c q1 q2 q3 q4
 ·obtain⟨z1,o,z2⟩:=r.new c hc
  refine⟨z1,?_⟩
  by_cases z:c=b
  ·exact⟨_,by rw[z];exact aP⟩
  ·exact⟨o,by rw[aB z];exact z2⟩
 ·obtain⟨hj,q⟩:=f j _ q (λz=>nomatch z)
  exact r.raw j v q
 ·have h3k:∀(m:Nat),Bq[m]?=aa b->m=k:=λm hm=>by
   have ahX:=(eR.mp h3.nd).2;have hm1:=(bz.mp hm).1;have hk1:=(bz.mp hk).1;exact(JT ahX).mp (by rw[(bz.mp hm).2,(bz.mp hk).2])
  refine⟨A,λj pL q=>?_,λj pL m xs c q1 q2 q3=>?_,λj m pL Qc Yp q1 q2 x hx=>?_⟩
  ·by_cases hj:i=j
   ·subst hj
    have z:=bR q;cases z;refine⟨a,Bq,hA,hσ,h3.ma,by rw[aB (Ne.symm hba)];exact h3.ha,by rw[kW];exact h3.len,h3.nd,λm c ms e1 e2=>?_⟩
    by_cases hm:c=b
    ·subst hm
     have hmk:=h3k m e1;subst hmk;rw[iN hns]at e2;cases e2;exact⟨qC,aP⟩
    ·have hmk:k≠m:=λz=>hm (by rw[z]at hk;rw[hk]at e1;cases e1;rfl)
     rw[aJ hmk]at e2;rw[aB hm];exact h3.it m c ms e1 e2
   ·rw[aJ hj]at q
    obtain⟨c,cs,z1,z2,z3⟩:=dd.dp j pL q;refine⟨c,cs,z1,z2,z3.to λx hx=>?_⟩;have hxb:x≠b:=λz=>dd.dj i j nss pL hj e q b Vv (by rw[z1,<-z];exact hx);exact⟨(z3.mem x hx).1,aB hxb⟩
  ·obtain⟨_,q2⟩:=f m _ q2 (λz=>nomatch z)
   by_cases hj:i=j
   ·subst hj
    exact dd.ow i nss m xs c e q2 q3
   ·rw[aJ hj]at q1
    exact dd.ow j pL m xs c q1 q2 q3
  ·have p1:∃ms,env[j]?=aa (.deep ms):=by
    by_cases hj:i=j
    ·subst hj;exact⟨nss,e⟩
    ·rw[aJ hj]at q1;exact⟨pL,q1⟩
   have p2:∃ms,env[m]?=aa (.deep ms):=by
    by_cases hj:i=m
    ·subst hj;exact⟨nss,e⟩
    ·rw[aJ hj]at q2;exact⟨Qc,q2⟩
   obtain⟨m1,p1⟩:=p1;obtain⟨m2,p2⟩:=p2;exact dd.dj j m m1 m2 Yp p1 p2 x hx
end
section
variable{X:Cx}{E:Str->Hp->Prop}{pos:Pos}
noncomputable def tFr(K:ak)(E:Str->Hp->Prop)(f:DE->R (List (List Int))):TA:=λσ H Q=>∃g env os,Rel K g env σ H os/\Good E g.H₀ (f env) λnss=>∀(as:List ae)(H':Hp),bD H H'->(∀b∈as,H b=none)->as.Nodup->as.length=nss.length->
 (∀(k:Nat)(b:ae)(ns:List Int),as[k]?=aa b->nss[k]?=aa ns->H' b=aa (.lst (ns.map V.int)))->Q (as.map V.ref) H'
def Yq:PA X [] (tFr X.K E λ_=>.ok []):=Pj bA λσ H Q ⟨g,env,os,r,m⟩=>m [] H (bD.refl H) (λ_ z=>nomatch z) .nil rfl (λ_ _ _ z=>by simp at z)
def Yr(i:Nat){x:Str}{es:List ao}{f:DE->R (List (List Int))}{pos' p:Pos}(he:PA X es (tFr X.K E f))(hN:X.N.Nodup)(hi:X.N[i]?=aa x:=by rfl)(hx:Loc X.env.scope x:=by omega)(hs:fK (.List es p) (aa (.Name x pos')) pos.line X.env=aW false:=by rfl)
  (hf:X.fn x=true\/X.env.scope.names.lookup x=aa .local:=by omega):PS X (.Assign [.Name x pos'] (.List es p) pos) (tS X.K E λenv=>(f env).bind λnss=>(fit nss).bind λnss=>.ok (.nx (env.set i (.deep nss)))):=
 oQ (gy hN hi hx (wy he) hs hf) λDe σ H ⟨g,env,os,r,m⟩=>⟨g,env,os,r,m.bind.mono λnss _ m1 as H1 s1 hn nd hl hc=>by
  obtain⟨hz,q⟩:=m1.bind.fit;refine⟨by rw[aG,hl];exact hz,λp hp=>?_⟩;have ahZ:p∉as:=λz=>by obtain⟨k,hk,rfl⟩:=pZ z;have:=hc k _ _ (aQ hk) (aQ (by rw[<-hl];exact hk));rw[hp]at this;cases this
  have sp:=bF hp (.lst (as.map V.ref));have hnew:∀b∈p::as,H b=none:=λb hb=>by
   rcases aO.mp hb with rfl|hb
   ·exact s1.free hp
   ·exact hn b hb
  have s2:=s1.trans sp;refine q _ _ ((p::as)++os) (r.ahU s2 i hnew (eR.mpr ⟨ahZ,nd⟩) hl aP λk b ns e1 e2=>sp _ _ (hc k b ns e1 e2)) ⟨λb hb=>?_,λb hb=>s2.free hb,λb o _ hb=>s2 b o hb⟩;rcases b8.mp hb with z|z
  ·exact .inr (hnew b z)
  ·exact .inl z⟩
end
def Qd:Out->R (List (List Int))
 |.Ik nss=>.ok nss
 |_=>.bad
def spT(K:ak)(m:List D->R (List (List Int))):Sp:=λvs H Q E=>∃P ds,IsL K P H ds vs/\(match m ds with
 |.ok nss=>∀(a:ae)(as:List ae)(H':Hp),bD H H'->ZZ H H' a as nss->Q (.ref a) H'
 |_=>False)
def mT(n N:Nat)(b:DE->R Out)(ds:List D):R (List (List Int)):=if ds.length=n then((b (aT N ds)).bind Qd).ne else .bad
abbrev OkT(P:aR)(w:aE)(K:ak)(mg:Str->Option ah)(base:aC)(k:Nat)(f:ae)(fd:aL)(ps:List Str)(m:List D->R (List (List Int))):Prop:=fA P w K mg base oN k f fd ps (spT K m)
section
variable{P:aR}{w:aE}{K:ak}{mg:Str->Option ah}{base:aC}
def okT{x:Str}{st:aD}{f:ae}{fd:aL}{N ps:List Str}{k:Nat}{b:DE->R Out}(S:bc N ps (au st))(d:Df K mg x st ps f fd)
  (hb:∀(cdv:ah)(A:bh)(outer:List Env)(s:aj)(H:Hp)(E:XK),cG k (A.deeper (eT x (au st) s.heap.objs.size f cdv))->vP (ud oN P w K mg base N x (au st) f cdv A outer s H E).JW (dq st) (tS K EN b)):
  OkT P w K mg base (k+1) f fd ps (mT ps.length N.length b):=by
 refine d.F.ok S (λvs H Q E h=>?_) (λcdv A outer s H vs Q E hr h=>?_)
 ·obtain⟨Pa,ds,i,h⟩:=h
  cases e:mT ps.length N.length b ds with
  |ok nss=>
   rw[i.length];unfold mT at e;split at e
   ·assumption
   ·cases e
  |err c=>rw[e]at h;exact h.elim
  |bad=>rw[e]at h;exact h.elim
 ·obtain⟨Pa,ds,i,h⟩:=h
  refine⟨_,hb cdv A outer s H E hr,⟨⟨Pa,H⟩,aT N.length ds,[],vo i,?_⟩⟩;cases e:mT ps.length N.length b ds with
  |err c=>rw[e]at h;exact h.elim
  |bad=>rw[e]at h;exact h.elim
  |ok nss=>
   rw[e]at h;unfold mT at e;split at e
   ·have q:=R.dE e
    cases eb:b (aT N.length ds)with
    |bad=>rw[eb]at q;cases q
    |err c=>rw[eb]at q;cases q
    |ok o=>
     rw[eb]at q;cases o with
     |Ik pL=>
      cases q;exact λa as H' s' nd=>h a as H' s' nd
     |Cu _=>cases q
     |Ov _=>cases q
     |Pg _=>cases q
     |vm _=>cases q
     |rt _=>cases q
     |nx _=>cases q
     |bk _=>cases q
     |ct _=>cases q
   ·cases e
end
section
variable{X:Cx}{E:Str->Hp->Prop}{pos:Pos}
def tDp(K:ak)(E:Str->Hp->Prop)(f:DE->R (List (List Int))):TE:=λσ H Q=>∃g env os,Rel K g env σ H os/\Good E g.H₀ (f env) λnss=>∀(a:ae)(as:List ae)(H':Hp),bD H H'->ZZ H H' a as nss->Q (.ref a) H'
def fT1{x:Str}{st:aD}{ps:List Str}{fa:ae}{fd:aL}{k:Nat}{p:Pos}{e:ao}{es:List ao}{f:DE->R (List D)}{m:List D->R (List (List Int))}(d:Df X.K X.mg x st ps fa fd)(F:OkT X.prog X.w X.K X.mg X.base k fa fd ps m)(hr:cG k X.A)
  (ha:PA X (e::es) (xq X.K E f))(hg:Gl X x:=by rfl)(hdb:(x==("__debug__":Str))=false:=by decide)(he:ar (e::es) X.env=(false,aw e X.env)::ar es X.env:=by rfl)(hpl:(bp pos (ar es X.env)).any (·.1)=false:=by rfl):
  PE X (.Call (.Name x p) (e::es) [] pos) (tDp X.K E λenv=>((f env).bind m).ne):=
 imp (ie (E:=λ_ _ _=>False) F hr hg d.m d.F.kp d.b .nil oV ha hdb he hpl) λσ H Q ⟨g,env,os,r,q⟩=>⟨g,env,os,r,by
  dsimp only at q;cases ef:f env with
  |bad=>rw[ef]at q;exact q.elim
  |err c=>rw[ef]at q;exact q.elim
  |ok ds=>
   rw[ef]at q;cases em:m ds with
   |bad=>rw[show((R.ok ds).bind m)=m ds from rfl,em]at q;exact q.elim
   |err c=>rw[show((R.ok ds).bind m)=m ds from rfl,em]at q;exact q.elim
   |ok nss=>
    rw[show((R.ok ds).bind m)=m ds from rfl,em]at q;intro vs H1 s1 i1;show spT X.K m (vs++[]) H1 Q _;rw[bq];refine⟨_,ds,i1,?_⟩;rw[em];exact λa as H' s' nd=>q a as H' (s1.trans s') (nd.back s1)⟩
def kj(i:Nat)(env:DE):R (List (List Int)):=match env[i]? with
 |some (.deep (.ls nss))=>.ok nss
 |_=>.bad
theorem Good.deep {H₀:Hp}{i:Nat}{env:DE}{p:List (List Int)->Prop}(h:Good E H₀ (kj i env) p):∃nss:List (List Int),env[i]?=aa (.deep nss)/\p nss:=by
 unfold kj at h;split at h
 ·rename_i nss e
  exact⟨nss,e,h⟩
 ·exact h.elim
def Ys(i:Nat){x:Str}{p:Pos}(hN:X.N[i]?=aa x:=by rfl)(hv:yF X.env.scope x:=by omega)(hd:(x==("__debug__":Str))=false:=by decide)
  (hcd:(x==("__classdict__":Str))=false:=by decide):PS X (.Return (aa (.Name x p)) pos) (tS X.K E λenv=>(kj i env).bind λnss=>.ok (.Ik nss)):=
 oQ (nE (gx hN hv hd hcd)) λDe σ H ⟨g,env,os,r,m⟩=>by obtain⟨nss,e,q⟩:=m.bind.deep;obtain⟨A,dd⟩:=r.Gk;obtain⟨a,as,hA,h1,h3⟩:=dd.dp i nss e;exact⟨.ref a,h1,(show jd X.K g H os De (.Ik nss)from q) a as H r.ext ⟨λb hb=>(r.new b (h3.mem b hb).1).1,h3.nd,h3.len,h3.ha,λk b ns e1 e2=>(h3.it k b ns e1 e2).2⟩⟩
end
section
variable{X:Cx}{E:Str->Hp->Prop}{pos:Pos}
def Rel.EG {K:ak}{g:Gh}{env:DE}{σ:St}{H:Hp}{os:List ae}(r:Rel K g env σ H os){ix:Nat}{nss:List (List Int)}(e:env[ix]?=aa (.deep nss)):∃(a:ae)(as:List ae),σ[ix]?=aa (aa (.ref a))/\H a=aa (.lst (as.map V.ref))/\as.length=nss.length/\∀(k:Nat)(ns:List Int),nss[k]?=aa ns->∃b,as[k]?=aa b/\H b=aa (.lst (ns.map V.int)):=by
 obtain⟨A,dd⟩:=r.Gk;obtain⟨a,as,_,h1,h3⟩:=dd.dp ix nss e;refine⟨a,as,h1,h3.ha,h3.len,λk ns hk=>?_⟩;have hl:k<as.length:=by rw[h3.len];exact(bz.mp hk).1
 exact⟨as[k],aQ hl,(h3.it k _ ns (aQ hl) hk).2⟩
def GK(nss:List (List Int)):D->R (Nat×List Int)
 |.int i=>(match wN nss.length i with
  |some k=>(match nss[k]? with
   |some ns=>.ok (k,ns)
   |none=>.bad)
  |none=>.bad)
 |_=>.bad
theorem Good.GK {H₀:Hp}{nss:List (List Int)}{a:D}{p:Nat×List Int->Prop}(h:Good E H₀ (GK nss a) p):∃i k ns,a=.int i/\wN nss.length i=aa k/\nss[k]?=aa ns/\p (k,ns):=by
 unfold DL.GK at h;split at h
 ·rename_i i
  split at h
  ·rename_i k hk
   split at h
   ·rename_i ns hns
    exact⟨i,k,ns,rfl,hk,hns,h⟩
   ·exact h.elim
  ·exact h.elim
 ·exact h.elim
def aaA{α:Type}{xs:List α}{i:Int}{k:Nat}{x:α}(h:wN xs.length i=aa k)(hx:xs[k]?=aa x):kU xs i=aa x:=by unfold L2.kU;rw[h];exact hx
end
section
variable{K:ak}{g:Gh}{env:DE}{σ:St}{H H1:Hp}{os:List ae}
def Rel.aeg (r:Rel K g env σ H os)(s:bD H H1){i:Nat}{nss:List (List Int)}(e:env[i]?=aa (.deep nss)){a b:ae}{as:List ae}{ns:List Int}(hσ:σ[i]?=aa (aa (.ref a)))(ha:H a=aa (.lst (as.map V.ref)))(hn:H b=none)(hb:H1 b=aa (.lst (ns.map V.int))):
  a∈os/\Rel K g (env.set i (.deep (nss++[ns]))) σ (upd H1 a (.lst (as.map V.ref++[.ref b]))) (b::os):=by
 obtain⟨A,dd⟩:=r.Gk;obtain⟨a0,Bq,hA,h1,h3⟩:=dd.dp i nss e;rw[hσ]at h1;cases h1;have has:Bq=as:=by
  have z:=h3.ha;rw[ha]at z;have z2:as.map V.ref=Bq.map V.ref:=by injection z with z;injection z
  exact(qh z2).symm
 subst has;have qC:a∈os:=h3.ma;have hnew:b∉os:=λhm=>by obtain⟨o,ho⟩:=(r.new b hm).2;rw[hn]at ho;cases ho
 have hab:b≠a:=λz=>hnew (by rw[z];exact qC);refine⟨qC,?_⟩;have ex:Ext (g.P os) (g.P (b::os)) H (upd H1 a (.lst (Bq.map V.ref++[.ref b]))):=⟨λc o p q=>⟨p.1,λhm=>by
  rcases aO.mp hm with z|z
  ·rw[z,hn]at q;cases q
  ·exact p.2 z⟩,λc o p q=>by rw[aB (λz=>p.2 (by rw[z];exact qC))];exact s c o q⟩
 have f:∀(j:Nat)(sl:Sl),(env.set i (Sl.deep (nss++[ns])))[j]?=aa sl->sl≠.deep (nss++[ns])->i≠j/\env[j]?=aa sl:=λj sl q hn=>eZ q hn;have keep:∀c∈os,c≠a->∀o,H c=aa o->(upd H1 a (.lst (Bq.map V.ref++[.ref b]))) c=aa o:=λc _ hc o ho=>by rw[aB hc];exact s c o ho
 refine⟨by simp[r.len],λc o q=>?_,λj d q=>?_,λj xs q=>?_,λj k xs ys c q1 q2 q3 q4=>?_,λc hc=>?_,λj v q=>?_,?_⟩
 ·rw[aB (λz=>by rw[z,(r.new a qC).1]at q;cases q)]
  exact s _ _ (r.ext c o q)
 ·obtain⟨hj,q⟩:=f j _ q (λz=>nomatch z)
  obtain⟨v,h1,h2⟩:=r.val j d q;exact⟨v,h1,Is.ext ex _ _ h2⟩
 ·obtain⟨hj,q⟩:=f j _ q (λz=>nomatch z)
  obtain⟨c,vs,h1,h2,h3',h4⟩:=r.own j xs q;have hca:c≠a:=λz=>dd.ow i nss j xs c e q h1 (by rw[z,hA];exact g8);exact⟨c,vs,h1,bg _ h2,keep c h2 hca _ h3',IsL.ext ex _ _ h4⟩
 ·obtain⟨hj,q1⟩:=f j _ q1 (λz=>nomatch z)
  obtain⟨hk,q2⟩:=f k _ q2 (λz=>nomatch z);exact r.inj j k xs ys c q1 q2 q3 q4
 ·rcases aO.mp hc with z|z
  ·rw[z]
   exact⟨r.ext.free hn,_,by rw[aB hab];exact hb⟩
  ·obtain⟨z1,o,z2⟩:=r.new c z
   refine⟨z1,?_⟩
   by_cases w:c=a
   ·exact⟨_,by rw[w];exact aP⟩
   ·exact⟨o,keep c z w o z2⟩
 ·obtain⟨hj,q⟩:=f j _ q (λz=>nomatch z)
  exact r.raw j v q
 ·have sub:∀(j':Nat)(y:ae),(y∈if j'=i then a::(Bq++[b])else A j')->y∈A j'\/(j'=i/\y=b):=λj' y hy=>by
   by_cases hj:j'=i
   ·rw[if_pos hj]at hy
    rw[hj,hA];rcases aO.mp hy with w|w
    ·rw[w];exact .inl g8
    ·rcases b8.mp w with w|w
     ·exact .inl (bg _ w)
     ·exact .inr ⟨rfl,by simpa using w⟩
   ·rw[if_neg hj]at hy
    exact .inl hy
  have p1:∀(j:Nat)(ms:Ct),(env.set i (Sl.deep (nss++[ns])))[j]?=aa (.deep ms)->∃ms',env[j]?=aa (.deep ms'):=λj ms q=>by
   by_cases hj:i=j
   ·subst hj;exact⟨nss,e⟩
   ·rw[aJ hj]at q;exact⟨ms,q⟩
  refine⟨λj=>if j=i then a::(Bq++[b])else A j,λj pL q=>?_,λj pL m xs c q1 q2 q3 hx=>?_,λj m pL Qc Yp q1 q2 x hx hx2=>?_⟩
  ·by_cases hj:j=i
   ·have q':=q
    rw[hj]at q';have z:=bR q';cases z;refine⟨a,Bq++[b],if_pos hj,by rw[hj];exact hσ,bg _ h3.ma,by rw[b7];exact aP,by rw[b9,b9,h3.len];rfl,?_,λm c ms e1 e2=>?_⟩
    ·have ah0:b∉Bq:=λz=>hnew (h3.mem b (bg _ z)).1
     have nd:=eR.mp h3.nd;refine eR.mpr ⟨λz=>?_,?_⟩
     ·rcases b8.mp z with w|w
      ·exact nd.1 w
      ·have:a=b:=by simpa using w
       exact hab this.symm
     ·rw[LA]
      refine⟨nd.2,by simp,λx hx y hy=>?_⟩;have hy':y=b:=by simpa using hy
      rw[hy'];exact λz=>ah0 (by rw[<-z];exact hx)
    ·by_cases hm:m<Bq.length
     ·rw[ed hm]at e1
      rw[ed (by rw[<-h3.len];exact hm)]at e2;obtain⟨w1,w2⟩:=h3.it m c ms e1 e2;have hca:c≠a:=λz=>(eR.mp h3.nd).1 (by rw[<-z];exact dm e1);exact⟨bg _ w1,keep c w1 hca _ w2⟩
     ·have hk2:m=Bq.length:=by
       have:=(bz.mp e1).1;rw[b9]at this;simp at this;lia
      subst hk2;have z1':b=c:=by simpa using e1
      rw[h3.len]at e2;have z2':ns=ms:=by simpa using e2
      subst z1' z2';exact⟨g8,by rw[aB hab];exact hb⟩
   ·rw[aJ (Ne.symm hj)]at q
    obtain⟨c,cs,z1,z2,z3⟩:=dd.dp j pL q;refine⟨c,cs,by rw[if_neg hj];exact z1,z2,z3.to λx hx=>?_⟩;have hxa:x≠a:=λz=>dd.dj i j nss pL (Ne.symm hj) e q a (by rw[hA];exact g8) (by rw[z1,<-z];exact hx);obtain⟨w1,o,w2⟩:=z3.mem x hx;exact⟨bg _ w1,by rw[keep x w1 hxa o w2,w2]⟩
  ·have q2':=(f m _ q2 (λz=>nomatch z)).2
   obtain⟨ms',p⟩:=p1 j pL q1;rcases sub j c hx with w|⟨_,w⟩
   ·exact dd.ow j ms' m xs c p q2' q3 w
   ·obtain⟨c',vs,w1,w2,_⟩:=r.own m xs q2'
    rw[q3]at w1;cases w1;exact hnew (by rw[<-w];exact w2)
  ·obtain⟨m1,w1⟩:=p1 j pL q1
   obtain⟨m2,w2⟩:=p1 m Qc q2;rcases sub j x hx with u|⟨u1,u⟩<;>rcases sub m x hx2 with v|⟨v1,v⟩
   ·exact dd.dj j m m1 m2 Yp w1 w2 x u v
   ·exact hnew (by rw[<-v];exact(dd.mem w1 x u).1)
   ·exact hnew (by rw[<-u];exact(dd.mem w2 x v).1)
   ·exact Yp (by rw[u1,v1])
end
section
variable{X:Cx}{E:Str->Hp->Prop}{pos:Pos}
def I0(ix:Nat)(env:DE)(nss:List (List Int))(kn:Nat×List Int):D->R Out
 |.int v=> @ite _ (kn.2.length<aH) (dM _) (.ok (.nx (env.set ix (.deep (nss.set kn.1 (kn.2++[v])))))) .bad
 |_=>.bad
theorem Good.I0 {H₀:Hp}{ix:Nat}{env:DE}{nss:List (List Int)}{kn:Nat×List Int}{d:D}{p:Out->Prop}(h:Good E H₀ (I0 ix env nss kn d) p):∃v,d=.int v/\kn.2.length<aH/\p (.nx (env.set ix (.deep (nss.set kn.1 (kn.2++[v]))))):=by
 unfold DL.I0 at h;split at h
 ·split at h
  ·rename_i c
   exact⟨_,rfl,c,h⟩
  ·exact h.elim
 ·exact h.elim
def aaC(ix:Nat){x:Str}{ei e:ao}{fi f:DE->R D}{p Qe apos cO:Pos}(hi:PE X ei (tB X.K E fi))(he:PE X e (tB X.K E f))(hN:X.N[ix]?=aa x:=by rfl)(hv:yF X.env.scope x:=by omega)(hd:(x==("__debug__":Str))=false:=by decide)
  (hcd:(x==("__classdict__":Str))=false:=by decide)(hpi:rN ei:=by exact λ_ _=>rfl)
  (hbase:hU (.Subscript (.Name x p) ei Qe) "append" X.env (aw (.Subscript (.Name x p) ei Qe) X.env)=aw (.Subscript (.Name x p) ei Qe) X.env:=by rfl)
  (hfew:((bp cO (ar [e] X.env)).all (λx=> !x.1)&&(kR cO (kT [] X.env)).all (λx=>x.1.isSome)
   &&decide ([e].length+([]:List eU).length+(if([]:List eU).isEmpty then 0 else 1)<30))=true:=by rfl)
  (hline:(apos.endLine==cO.line)=true:=by rfl)(hst:ar [e] X.env=(false,aw e X.env)::ar [] X.env:=by rfl)(hplain:(bp cO (ar [] X.env)).any (·.1)=false:=by rfl)
  (hs:fK (.Call (.Attribute (.Subscript (.Name x p) ei Qe) "append" apos) [e] [] cO) none pos.line X.env=aW false:=by rfl):
  PS X (.Expr (.Call (.Attribute (.Subscript (.Name x p) ei Qe) "append" apos) [e] [] cO) pos) (tS X.K E λenv=>(kj ix env).bind λnss=>(fi env).bind λa=>(GK nss a).bind λkn=>(f env).bind λd=>I0 ix env nss kn d):=
 oQ (iO (ug jt n9 og fX (ja ig (gx hN hv hd hcd) hi hpi) (aS he bA hst) hbase hfew hline hst hplain) hs) λDe σ H ⟨g,env,os,r,m⟩=>by obtain⟨nss,e1,m2⟩:=m.bind.deep;obtain⟨a,as,q1,q2,q3,q4⟩:=r.EG e1;refine⟨.ref a,q1,g,env,os,r,m2.bind.mono λda _ m3 w H2 s2 i2=>?_⟩;obtain⟨i,k,ns,rfl,hk,hns,m4⟩:=m3.bind.GK;obtain⟨b,hb1,hb2⟩:=q4 k ns hns;refine⟨a,as.map V.ref,i,.ref b,rfl,i2,fG.of (s2 _ _ q2),aaA (by rw[aG,q3];exact hk) (by rw[bG,hb1];rfl),.inl ⟨rfl,_,fG.of (s2 _ _ hb2)⟩,g,env,os,r.same s2,m4.bind.mono λd _ m5 v H3 s3 i3=>?_⟩;obtain⟨u,rfl,hl,m6⟩:=m5.I0;have iu:v=.int u:=i3;subst iu;have r3:=r.same (s2.trans s3);have hb3:=s3 _ _ (s2 _ _ hb2);obtain⟨qC,r4⟩:=r3.ahV (ns:=ns) e1 q1 (s3 _ _ (s2 _ _ q2)) hb1 (bz.mp hns).1 (ns++[u]);refine⟨b,ns.map V.int,.int u,rfl,rfl,hb3,by rw[aG];exact hl,?_⟩;rw[b7]at r4;exact(show jd X.K g H os De (.nx _)from m6) σ _ os r4 ((yA.same (s2.trans s3) os).trans (.mut qC))
def Qf(ix:Nat)(env:DE)(nss:List (List Int))(ns:List Int):R Out:= @ite _ (nss.length<aH) (dM _) (.ok (.nx (env.set ix (.deep (nss++[ns]))))) .bad
def Yt(ix:Nat){x:Str}{e:ao}{f:DE->R (List D)}{p apos cO:Pos}(he:PE X e (tF X.K E f))(hN:X.N[ix]?=aa x:=by rfl)(hv:yF X.env.scope x:=by omega)(hd:(x==("__debug__":Str))=false:=by decide)
  (hcd:(x==("__classdict__":Str))=false:=by decide)
  (hbase:hU (.Name x p) "append" X.env (aw (.Name x p) X.env)=aw (.Name x p) X.env:=by rfl)
  (hfew:((bp cO (ar [e] X.env)).all (λx=> !x.1)&&(kR cO (kT [] X.env)).all (λx=>x.1.isSome)
   &&decide ([e].length+([]:List eU).length+(if([]:List eU).isEmpty then 0 else 1)<30))=true:=by rfl)
  (hline:(apos.endLine==cO.line)=true:=by rfl)(hst:ar [e] X.env=(false,aw e X.env)::ar [] X.env:=by rfl)(hplain:(bp cO (ar [] X.env)).any (·.1)=false:=by rfl)
  (hs:fK (.Call (.Attribute (.Name x p) "append" apos) [e] [] cO) none pos.line X.env=aW false:=by rfl):
  PS X (.Expr (.Call (.Attribute (.Name x p) "append" apos) [e] [] cO) pos) (tS X.K E λenv=>(kj ix env).bind λnss=>(f env).bind λxs=>(R.of (Lr xs)).bind λns=>Qf ix env nss ns):=
 oQ (iO (ug jt n9 og fX (gx hN hv hd hcd) (aS he bA hst) hbase hfew hline hst hplain) hs) λDe σ H ⟨g,env,os,r,m⟩=>by
  obtain⟨nss,e1,m2⟩:=m.bind.deep;obtain⟨a,as,q1,q2,q3,q4⟩:=r.EG e1;refine⟨.ref a,q1,.inl ⟨rfl,_,fG.of q2⟩,g,env,os,r,m2.bind.mono λxs _ m3 b vs H1 s1 hn hH i1=>?_⟩;obtain⟨ns,e2,m4⟩:=m3.bind.of;have e3:=Bm e2;subst e3;have e4:=jT i1;subst e4;unfold Qf at m4;split at m4
  ·rename_i c
   obtain⟨hos,r2⟩:=r.aeg s1 e1 q1 q2 hn hH;refine⟨a,as.map V.ref,.ref b,rfl,rfl,s1 _ _ q2,by rw[aG,q3];exact c,?_⟩;refine(show jd X.K g H os De (.nx _)from m4) σ _ (b::os) r2 ⟨λy hy=>?_,λy hy=>?_,λy o hy ho=>?_⟩
   ·rcases aO.mp hy with z|z
    ·rw[z];exact .inr hn
    ·exact .inl z
   ·by_cases z:y=a
    ·rw[z,aP]at hy;cases hy
    ·rw[aB z]at hy;exact s1.free hy
   ·rw[aB (λz=>hy (by rw[z];exact hos))];exact s1 _ _ ho
  ·exact m4.elim
end
section
variable{X:Cx}{E:Str->Hp->Prop}{pos:Pos}{k:Nat}{fa:ae}{fd:aL}{st:aD}{ps:List Str}{x:Str}{p:Pos}{e:ao}{es:List ao}{f:DE->R (List D)}
abbrev ah1:=List (Str×(List D->R (List D)))
def FnR(X:Cx)(n:Str)(m:List D->R (List D)):Prop:=∃st ps fa fd k,Df X.K X.mg n st ps fa fd/\fA X.prog X.w X.K X.mg X.base oN k fa fd ps (Sz X.K Oz m)/\cG k X.A
def FnT(X:Cx)(tab:ah1):Prop:=∀n m,tab.lookup n=aa m->FnR X n m
end
section
variable{K:ak}{g:Gh}{env:DE}{σ:St}{H H':Hp}{os:List ae}
def Rel.setC (r:Rel K g env σ H os)(s:bD H H')(i:Nat){c:Ct}{a:ae}{as:List ae}(hn:∀b∈a::as,H b=none)(dp:Dp K H' ((a::as)++os) a as c):
  Rel K g (env.set i (.deep c)) (σ.set i (aa (.ref a))) H' ((a::as)++os):=by
 have ap:=r.Qa s hn;have f:∀(j:Nat)(sl:Sl),(env.set i (Sl.deep c))[j]?=aa sl->sl≠.deep c->i≠j/\env[j]?=aa sl:=λj sl q hn=>eZ q hn;have hnew:∀x∈a::as,x∉os:=λx hx hm=>by obtain⟨o,ho⟩:=(r.new x hm).2;rw[hn x hx]at ho;cases ho
 refine⟨by simp[r.len],r.ext.trans s,λj d q=>?_,λj xs q=>?_,λj k xs ys b q1 q2 q3 q4=>?_,λb hb=>?_,λj v q=>?_,?_⟩
 ·obtain⟨hj,q⟩:=f j _ q (λz=>nomatch z)
  obtain⟨v,h1,h2⟩:=r.val j d q;exact⟨v,by rw[aJ hj];exact h1,Is.ext ap _ _ h2⟩
 ·obtain⟨hj,q⟩:=f j _ q (λz=>nomatch z)
  obtain⟨b,vs,h1,h2,h3,h4⟩:=r.own j xs q;exact⟨b,vs,by rw[aJ hj];exact h1,cK _ h2,s _ _ h3,IsL.ext ap _ _ h4⟩
 ·obtain⟨hj,q1⟩:=f j _ q1 (λz=>nomatch z)
  obtain⟨hk,q2⟩:=f k _ q2 (λz=>nomatch z);rw[aJ hj]at q3;rw[aJ hk]at q4;exact r.inj j k xs ys b q1 q2 q3 q4
 ·rcases b8.mp hb with z|z
  ·exact⟨r.ext.free (hn b z),(dp.mem b z).2⟩
  ·obtain⟨h1,o,h2⟩:=r.new b z
   exact⟨h1,o,s _ _ h2⟩
 ·obtain⟨hj,q⟩:=f j _ q (λz=>nomatch z)
  rw[aJ hj];exact r.raw j v q
 ·obtain⟨A,dd⟩:=r.Gk
  refine⟨λj=>if j=i then a::as else A j,λj pL q=>?_,λj pL k xs b q1 q2 q3=>?_,λj k pL Qc hjk q1 q2 x hx=>?_⟩
  ·by_cases hj:j=i
   ·subst hj
    have z:=bR q;cases z;exact⟨a,as,if_pos rfl,by rw[iN (by rw[r.len];exact yP q)],dp⟩
   ·have q':=q
    rw[aJ (Ne.symm hj)]at q';obtain⟨b,bs,h1,h2,h3⟩:=dd.dp j pL q';refine⟨b,bs,by rw[if_neg hj];exact h1,by rw[aJ (Ne.symm hj)];exact h2,h3.to λx hx=>?_⟩;obtain⟨z1,o,z2⟩:=h3.mem x hx;exact⟨cK _ z1,by rw[s x o z2,z2]⟩
  ·obtain⟨hk,q2⟩:=f k _ q2 (λz=>nomatch z)
   rw[aJ hk]at q3;show b∉if j=i then a::as else A j
   by_cases hj:j=i
   ·rw[if_pos hj]
    obtain⟨c,vs,h1,h2,_⟩:=r.own k xs q2;rw[q3]at h1;cases h1;exact λz=>hnew b z h2
   ·rw[if_neg hj]
    rw[aJ (Ne.symm hj)]at q1;exact dd.ow j pL k xs b q1 q2 q3
  ·show x∉if k=i then a::as else A k
   have Cn:x∈if j=i then a::as else A j:=hx
   by_cases hj:j=i
   ·have hk:k≠i:=λz=>hjk (by rw[hj,z])
    rw[if_pos hj]at Cn;rw[if_neg hk];rw[aJ (Ne.symm hk)]at q2;exact λz=>hnew x Cn (dd.mem q2 x z).1
   ·rw[if_neg hj]at Cn
    rw[aJ (Ne.symm hj)]at q1
    by_cases hk:k=i
    ·rw[if_pos hk]
     exact λz=>hnew x z (dd.mem q1 x Cn).1
    ·rw[if_neg hk]
     rw[aJ (Ne.symm hk)]at q2;exact dd.dj j k pL Qc hjk q1 q2 x Cn
end
def C1:D->R Int
 |.int i=>.ok i
 |_=>.bad
section
variable{X:Cx}{E:Str->Hp->Prop}{pos:Pos}
theorem Good.int {H₀:Hp}{d:D}{p:Int->Prop}(h:Good E H₀ (C1 d) p):∃i:Int,d=.int i/\p i:=by
 unfold C1 at h;split at h
 ·rename_i i
  exact⟨i,rfl,h⟩
 ·exact h.elim
end
def ah2:Out->R (List (List Int))
 |.Ov nss=>.ok nss
 |_=>.bad
def mP(n N:Nat)(b:DE->R Out)(ds:List D):R (List (List Int)):=if ds.length=n then((b (aT N ds)).bind ah2).ne else .bad
section
variable{X:Cx}{E:Str->Hp->Prop}{pos:Pos}
def toS:List D->Option (List Str)
 |[]=>aa []
 |.str x::r=>(toS r).map (x::·)
 |_::_=>none
def anv:D->R Str
 |.str i=>.ok i
 |_=>.bad
theorem Br{K:ak}{P:ae->Prop}{H:Hp}:∀{as:List ae}{nss:List (List Int)},as.length=nss.length->(∀b∈as,P b)->(∀(k:Nat)(b:ae)(ns:List Int),as[k]?=aa b->nss[k]?=aa ns->H b=aa (.lst (ns.map V.int)))->IsL K P H (nss.map λns=>D.lst (ns.map D.int)) (as.map V.ref)
 |[],[],_,_,_=>rfl
 |[],_::_,h,_,_=>by simp at h
 |_::_,[],h,_,_=>by simp at h
 |a::as,ns::nss,h,hp,hi=>⟨_,_,rfl,⟨a,_,rfl,.inl ⟨hp a (by simp),.inl (hi 0 a ns rfl rfl)⟩,dX ns⟩,Br (by simpa using h) (λb hb=>hp b (by simp[hb])) λk b ms e1 e2=>hi (k+1) b ms e1 e2⟩
def PE.ah3 {e:ao}{f:DE->R (List (List Int))}(h:PE X e (tDp X.K E f)):PE X e (tL X.K E λenv=>(f env).bind λnss=>.ok (nss.map λns=>D.lst (ns.map D.int))):=
 imp h λσ H Q ⟨g,env,os,r,m⟩=>⟨g,env,os,r,m.bind.mono λnss _ q a as H' s nd=>q a _ H' s (fG.of nd.ha) (Br nd.len (λb hb=>r.fresh (nd.fr b (bg _ hb))) nd.it)⟩
end
section
variable{X:Cx}{E:Str->Hp->Prop}{pos:Pos}
def ah4(T:List (Str×Int)):List (Str×PyData):=T.map λp=>(p.1,PyData.int p.2)
def anw(K:ak)(a:ae)(T:List (Str×Int)):Prop:=KTD.tabLook KTD.flatLooks (λb=>K.lookup b) a (ah4 T)=true
end
section
variable{X:Cx}{E:Str->Hp->Prop}{pos:Pos}
def xJ:D->R Unit
 |.int 1=>.ok ()
 |_=>.bad
def Good.one {H₀:Hp}{d:D}{p:Unit->Prop}(h:Good E H₀ (xJ d) p):d=.int 1/\p ():=by
 unfold xJ at h;split at h
 ·exact⟨rfl,h⟩
 ·exact h.elim
end
section
variable{X:Cx}{E:Str->Hp->Prop}{pos:Pos}
def anx:D->R Unit
 |.int 2=>.ok ()
 |_=>.bad
end
section
variable{K:ak}{g:Gh}{env:DE}{σ:St}{H H1:Hp}{os:List ae}
def Rel.aej (r:Rel K g env σ H os){i:Nat}{c:Ct}(e:env[i]?=aa (.deep c)){a:ae}(hσ:σ[i]?=aa (aa (.ref a))){b:ae}{o:HO}(hb:∀as,Dp K H os a as c->b∈a::as):
  b∈os/\Rel K g (env.set i .no) σ (upd H b o) os:=by
 obtain⟨A,dd⟩:=r.Gk;obtain⟨a0,Bq,hA,h1,h3⟩:=dd.dp i c e;rw[hσ]at h1;cases h1;have Vv:b∈A i:=by rw[hA];exact hb _ h3
 have qC:b∈os:=(dd.mem e b Vv).1;refine⟨qC,?_⟩;have ex:Ext (g.P os) (g.P os) H (upd H b o):=⟨λ_ _ p _=>p,λc o p q=>by rw[aB (λz=>p.2 (by rw[z];exact qC))];exact q⟩
 have f:∀(j:Nat)(sl:Sl),(env.set i Sl.no)[j]?=aa sl->sl≠.no->i≠j/\env[j]?=aa sl:=λj sl q hn=>eZ q hn;refine⟨by simp[r.len],λc' o' q=>?_,λj d q=>?_,λj xs q=>?_,λj k xs ys c' q1 q2 q3 q4=>?_,λc' hc=>?_,λj v q=>?_,?_⟩
 ·rw[aB (λz=>by rw[z,(r.new b qC).1]at q;cases q)]
  exact r.ext c' o' q
 ·obtain⟨hj,q⟩:=f j _ q (λz=>nomatch z)
  obtain⟨v,h1,h2⟩:=r.val j d q;exact⟨v,h1,Is.ext ex _ _ h2⟩
 ·obtain⟨hj,q⟩:=f j _ q (λz=>nomatch z)
  obtain⟨c',vs,h1,h2,h3',h4⟩:=r.own j xs q;have hcb:c'≠b:=λz=>dd.ow i _ j xs c' e q h1 (by rw[z];exact Vv);exact⟨c',vs,h1,h2,by rw[aB hcb];exact h3',IsL.ext ex _ _ h4⟩
 ·obtain⟨hj,q1⟩:=f j _ q1 (λz=>nomatch z)
  obtain⟨hk,q2⟩:=f k _ q2 (λz=>nomatch z);exact r.inj j k xs ys c' q1 q2 q3 q4
 ·obtain⟨z1,o',z2⟩:=r.new c' hc
  refine⟨z1,?_⟩
  by_cases z:c'=b
  ·exact⟨_,by rw[z];exact aP⟩
  ·exact⟨o',by rw[aB z];exact z2⟩
 ·obtain⟨hj,q⟩:=f j _ q (λz=>nomatch z)
  exact r.raw j v q
 ·refine⟨A,λj pL q=>?_,λj pL m xs c' q1 q2 q3=>?_,λj m pL Qc Yp q1 q2 x hx=>?_⟩
  ·obtain⟨hj,q⟩:=f j _ q (λz=>nomatch z)
   obtain⟨c',cs,z1,z2,z3⟩:=dd.dp j pL q;refine⟨c',cs,z1,z2,z3.to λx hx=>?_⟩;have hxb:x≠b:=λz=>dd.dj i j _ pL hj e q b Vv (by rw[z1,<-z];exact hx);exact⟨(z3.mem x hx).1,aB hxb⟩
  ·obtain⟨_,q1⟩:=f j _ q1 (λz=>nomatch z)
   obtain⟨_,q2⟩:=f m _ q2 (λz=>nomatch z);exact dd.ow j pL m xs c' q1 q2 q3
  ·obtain⟨_,q1⟩:=f j _ q1 (λz=>nomatch z)
   obtain⟨_,q2⟩:=f m _ q2 (λz=>nomatch z);exact dd.dj j m pL Qc Yp q1 q2 x hx
end
section
variable{X:Cx}{E:Str->Hp->Prop}{pos:Pos}
def anz:D->R Unit
 |.int 0=>.ok ()
 |_=>.bad
end
def Vw:D->D->Option D
 |.int i,.int j=> @ite _ (Nm i j) (dM _) (aa (.int (i*2^j.toNat))) none
 |_,_=>none
section
variable{X:Cx}{E:Str->Hp->Prop}{pos:Pos}
def Vx:tQ X (rI Nm λi j=>.int (i*2^j.toNat)) Vw:=xu (h:=λi j=>.int (i*2^j.toNat)) (λ_ _=>rfl) λx y d e=>by
 unfold Vw at e;split at e
 ·split at e
  ·rename_i i j c
   cases e;exact⟨i,j,rfl,rfl,c,rfl⟩
  ·cases e
 ·cases e
def aek:PIp X .BitOr (ipI λi j=>EH i j):=by intro pins s σ H x y v u Q I r1 r2 h;obtain⟨i,j,rfl,rfl,q⟩:=h;obtain⟨t,rfl⟩:=r1;obtain⟨t',rfl⟩:=r2;exact ior_int ⟨.int _,H,I.tok _,⟨_,rfl⟩,q⟩
end
section
variable{K:ak}{g:Gh}{env:DE}{σ:St}{H H1:Hp}{os:List ae}
def Rel.ael (r:Rel K g env σ H os){i:Nat}{c c':Ct}(e:env[i]?=aa (.deep c)){a:ae}(hσ:σ[i]?=aa (aa (.ref a))){o:HO}{as':List ae}
  (hd:∀as,Dp K H os a as c->(∀x,x∈as'↔x∈as)/\Dp K (upd H a o) os a as' c'):a∈os/\Rel K g (env.set i (.deep c')) σ (upd H a o) os:=by
 obtain⟨A,dd⟩:=r.Gk;obtain⟨a0,Bq,hA,h1,h3⟩:=dd.dp i c e;rw[hσ]at h1;cases h1;obtain⟨hm,S7⟩:=hd Bq h3;have qC:a∈os:=(h3.mem a (by simp)).1;have Vv:a∈A i:=by rw[hA];simp
 refine⟨qC,?_⟩;have ex:Ext (g.P os) (g.P os) H (upd H a o):=⟨λ_ _ p _=>p,λc o p q=>by rw[aB (λz=>p.2 (by rw[z];exact qC))];exact q⟩
 have f:∀(j:Nat)(sl:Sl),(env.set i (Sl.deep c'))[j]?=aa sl->sl≠.deep c'->i≠j/\env[j]?=aa sl:=λj sl q hn=>eZ q hn;refine⟨by simp[r.len],λb o' q=>?_,λj d q=>?_,λj xs q=>?_,λj k xs ys b q1 q2 q3 q4=>?_,λb hc=>?_,λj v q=>?_,?_⟩
 ·rw[aB (λz=>by rw[z,(r.new a qC).1]at q;cases q)]
  exact r.ext b o' q
 ·obtain⟨hj,q⟩:=f j _ q (λz=>nomatch z)
  obtain⟨v,h1,h2⟩:=r.val j d q;exact⟨v,h1,Is.ext ex _ _ h2⟩
 ·obtain⟨hj,q⟩:=f j _ q (λz=>nomatch z)
  obtain⟨b,vs,h1,h2,h3',h4⟩:=r.own j xs q;have hcb:b≠a:=λz=>dd.ow i c j xs b e q h1 (by rw[z];exact Vv);exact⟨b,vs,h1,h2,by rw[aB hcb];exact h3',IsL.ext ex _ _ h4⟩
 ·obtain⟨hj,q1⟩:=f j _ q1 (λz=>nomatch z)
  obtain⟨hk,q2⟩:=f k _ q2 (λz=>nomatch z);exact r.inj j k xs ys b q1 q2 q3 q4
 ·obtain⟨z1,o',z2⟩:=r.new b hc
  refine⟨z1,?_⟩
  by_cases z:b=a
  ·exact⟨_,by rw[z];exact aP⟩
  ·exact⟨o',by rw[aB z];exact z2⟩
 ·obtain⟨hj,q⟩:=f j _ q (λz=>nomatch z)
  exact r.raw j v q
 ·have sub:∀(j:Nat)(y:ae),(y∈if j=i then a::as' else A j)->y∈A j:=λj y hy=>by
   by_cases hj:j=i
   ·rw[if_pos hj]at hy
    rw[hj,hA];rcases aO.mp hy with w|w
    ·rw[w];exact g8
    ·exact bg _ ((hm y).mp w)
   ·rw[if_neg hj]at hy
    exact hy
  have p1:∀(j:Nat)(ms:Ct),(env.set i (Sl.deep c'))[j]?=aa (.deep ms)->∃ms',env[j]?=aa (.deep ms'):=λj ms q=>by
   by_cases hj:i=j
   ·subst hj;exact⟨c,e⟩
   ·rw[aJ hj]at q;exact⟨ms,q⟩
  refine⟨λj=>if j=i then a::as' else A j,λj pL q=>?_,λj pL m xs b q1 q2 q3 hx=>?_,λj m pL Qc Yp q1 q2 x hx hx2=>?_⟩
  ·by_cases hj:j=i
   ·have q':=q
    rw[hj]at q';have z:=bR q';cases z;exact⟨a,as',if_pos hj,by rw[hj];exact hσ,S7⟩
   ·rw[aJ (Ne.symm hj)]at q
    obtain⟨b,cs,z1,z2,z3⟩:=dd.dp j pL q;refine⟨b,cs,by rw[if_neg hj];exact z1,z2,z3.to λx hx=>?_⟩;have hxb:x≠a:=λz=>dd.dj i j c pL (Ne.symm hj) e q a Vv (by rw[z1,<-z];exact hx);exact⟨(z3.mem x hx).1,aB hxb⟩
  ·have q2':=(f m _ q2 (λz=>nomatch z)).2
   obtain⟨ms',p⟩:=p1 j pL q1;exact dd.ow j ms' m xs b p q2' q3 (sub j b hx)
  ·obtain⟨m1,w1⟩:=p1 j pL q1
   obtain⟨m2,w2⟩:=p1 m Qc q2;exact dd.dj j m m1 m2 Yp w1 w2 x (sub j x hx) (sub m x hx2)
end
section
variable{X:Cx}{E:Str->Hp->Prop}{pos:Pos}
def aem(ix:Nat){x:Str}{p apos cO:Pos}(hN:X.N[ix]?=aa x:=by rfl)(hv:yF X.env.scope x:=by omega)(hd:(x==("__debug__":Str))=false:=by decide)
  (hcd:(x==("__classdict__":Str))=false:=by decide)
  (hbase:hU (.Name x p) "reverse" X.env (aw (.Name x p) X.env)=aw (.Name x p) X.env:=by rfl)(hline:(apos.endLine==cO.line)=true:=by rfl)
  (hs:fK (.Call (.Attribute (.Name x p) "reverse" apos) [] [] cO) none pos.line X.env=aW false:=by rfl):
  PS X (.Expr (.Call (.Attribute (.Name x p) "reverse" apos) [] [] cO) pos) (tS X.K E λenv=>(kj ix env).bind λnss=>.ok (.nx (env.set ix (.deep (.ls nss.reverse))))):=
 oQ (iO (Ef jt PySem.F.slot_list_reverse PySem.F.type_list_reverse IL (gx hN hv hd hcd) hbase hline) hs) λDe σ H ⟨g,env,os,r,m⟩=>by
  obtain⟨nss,e1,m2⟩:=m.bind.deep;obtain⟨a,as,q1,q2,q3,q4⟩:=r.EG e1;refine⟨.ref a,q1,.inl ⟨rfl,_,fG.of q2⟩,a,as.map V.ref,rfl,rfl,q2,?_⟩;obtain⟨hos,r2⟩:=r.ael (c':=.ls nss.reverse) (o:=.lst (as.map V.ref).reverse) (as':=as.reverse) e1 q1 (λBq dp=>by
   have d:Bc HO.lst H os a Bq nss:=dp;have has:Bq=as:=by
    have z:=d.ha;rw[q2]at z;have z2:as.map V.ref=Bq.map V.ref:=by injection z with z;injection z
    exact(qh z2).symm
   subst has;refine⟨λx=>qi,d.ma,by rw[<-oh];exact aP,by rw[bE,bE];exact d.len,?_,λk b ns e1 e2=>?_⟩
   ·have nd:=eR.mp d.nd
    exact eR.mpr ⟨λz=>nd.1 (qi.mp z),(LB Bq).nodup_iff.mpr nd.2⟩
   ·have hk:=(bz.mp e1).1
    rw[bE]at hk;rw[rT hk]at e1;rw[rT (by rw[<-d.len];exact hk),<-d.len]at e2;obtain⟨w1,w2⟩:=d.it _ b ns e1 e2;have hba:b≠a:=λz=>(eR.mp d.nd).1 (by rw[<-z];exact dm e1);exact⟨w1,by rw[aB hba];exact w2⟩)
  exact(show jd X.K g H os De (.nx _)from m2) σ _ os r2 (.mut hos)
end
def dfm{K:ak}{h:aC}{mg:Str->Option ah}{x:Str}{st:aD}{ps:List Str}{f:ae}{oc:ah}{od an:Option ae}{Ot:Array (Option ah)}{kV doc pm cdv ct:ah}(X:K.In h)(G:h.Ns dH mg)(a:rR K dH x=aa (aa (.ref f)))
  (l:K.lookup f=aa ⟨oc,od,.func (gf x x (iT st) (dq st) (au st) .none kV doc pm an cdv ct),Ot⟩)(c:xf K cdv x=true)(k:jP K (.ref f)=true)
  (hb:∀(kV doc pm:ah)(an:Option ae)(cdv ct:ah)(us:List ah),us.length=ps.length->nW (gf x x (iT st) (dq st) (au st) .none kV doc pm an cdv ct) ⟨us,[]⟩=aW (ps.zip us)):
  Df K mg x st ps f (gf x x (iT st) (dq st) (au st) .none kV doc pm an cdv ct):=⟨IM l c k,(IM l c k).binds hb,EI X G a,a⟩
def vz{N P:List Str}{sc:cU}(h1:sc.kind=.function:=by rfl)(h2:sc.isCoroutine=false:=by rfl)(h3:sc.isGenerator=false:=by rfl)(h4:N.Nodup:=by decide +kernel)(h5:N.take P.length=P:=by rfl)
  (h6:∀x∈P,sc.names.lookup x=aa .local\/sc.names.lookup x=aa .cell:=by decide +kernel)(h7:∀y∈sc.names,y.2≠.free:=by decide +kernel):bc N P sc:=⟨h1,h2,h3,h4,h5,h6,h7⟩
def zS(n:Int):Obj:={cls:=.type "range_iterator",data:=.fields #[rawInt (0+(n-1)*1),rawInt n,rawInt (-1)]}
def Vy:isSubtype (.type "range_iterator") (.type "reversed")=aW false:=by rw[isSubtype_type];kernel_rfl
section
variable{prog:aR}{w:aE}{A:bh}{E:ah->aj->Prop}{s:aj}
def Vz{r:ae}{n:Int}{t u v:Tok}{Q:ah->aj->Prop}(h0:0<=n)(h1:n<=1000000)(hr:rH s.heap r 0 n 1 t u v)
  (h:Q (.ref s.heap.objs.size) {s with heap:=s.heap.push (zS n)}):aA (az prog w) A (call (.builtin "range.__reversed__") [.ref r]) Q E s:=by
 refine VA LC ⟨_,hr,rfl⟩ PySem.F.entry_range_reversed ?_ (PySem.F.args_range_reversed_1 _);have hsz:iQ 0 n 1=n:=by rw[J1];split<;>lia
 have hsm:(rX 0&&rX n&&rX 1&&rX (-1)&&rX (0-1)&&rX n)=true:=by unfold rX;simp only [xA,decide_eq_true_eq];lia
 obtain⟨hp,g,d,tk,os⟩:=s
 wp_walk using VB hr
 rw[hsz,hsm,if_neg (show¬((!true)=true)from gE)];dsimp only;rw[if_pos rfl];exact aV (DQ (ck ⟨_,rfl,h⟩))
def aaD{r:ae}{n:Int}{t u v:Tok}{Q:ah->aj->Prop}(h0:0<=n)(h1:n<=1000000)(hr:rH s.heap r 0 n 1 t u v)
  (h:Q (.ref s.heap.objs.size) {s with heap:=s.heap.push (zS n)}):kQ (az prog w) A (.call (.builtin "reversed.__new__") ⟨[.type "reversed",.ref r],[]⟩) (wants Q E) s:=by
 have hT:s.TypeIs (.ref r) "range":=⟨_,hr,rfl⟩
 have nb:¬((ah.builtin "range.__reversed__"==ah.none)=true):=gE;refine codeAny_of_tree (show aA _ A.in1 (do
  checkBuiltinCall "reversed.__new__" ⟨[.type "reversed",.ref r],[]⟩
  again (.builtin "reversed.__new__" ⟨[.type "reversed",.ref r],[]⟩)) _ _ s from ?_)
 refine aV (Az (PySem.F.newCall_reversed_1 _) (ck ⟨plainId_quiet VC _,?_⟩));refine codeAny_builtin PySem.F.entry_reversed_new ?_;rw[bh.under_plainId VC _];show aA _ _ (do
  let x<-EJ.SmallTypes.newClass "reversed" ⟨[.type "reversed",.ref r],[]⟩
  _) _ _ _
 refine aV (Az (newClass_reversed (.ref r)) ?_)
 try dsimp only
 refine aV (Az (a:=()) (by kernel_rfl) (aV (Az (a:=()) (by kernel_rfl) ?_)))
 try dsimp only
 refine aV (Ei hT LC.lookup ?_)
 try dsimp only
 refine aV (Az (LC.bind (.ref r)) ?_)
 try dsimp only
 rw[if_neg nb];refine aV (wpAny_rule (aV (m:=runValue (.call (.builtin "range.__reversed__") ⟨[.ref r],[]⟩)) ?_));show aA _ _ (call (.builtin "range.__reversed__") [.ref r]) _ _ _;refine Vz h0 h1 hr ?_
 first
 |exact ck h
 |exact aV (ck (ck h))
def aaE{r:ae}{n:Int}{t u v:Tok}{Q:ah->aj->Prop}(h0:0<=n)(h1:n<=1000000)(hr:rH s.heap r 0 n 1 t u v)
  (h:Q (.ref s.heap.objs.size) {s with heap:=s.heap.push (zS n)}):aA (az prog w) A (call (.type "reversed") [.ref r]) Q E s:=by
 have hc:kQ (az prog w) A.in1 (.call (.builtin "reversed.__new__") ⟨.type "reversed"::[.ref r],[]⟩) (wants (λo z=>o=.ref s.heap.objs.size/\z={s with heap:=s.heap.push (zS n)}) E) s:=aaD h0 h1 hr ⟨rfl,rfl⟩;refine callType_other (U:="range_iterator") (by decide +kernel) PySem.F.create_reversed ⟨_,_,PySem.F.mro_reversed⟩ PySem.F.made_reversed Vy (PySem.F.typeCall_reversed_1 _) hc ?_;rintro o z ⟨rfl,rfl⟩;exact⟨⟨_,iP _ rfl,rfl⟩,h⟩
def VD{it:ae}{x left c:Int}{Q:Bool->aj->Prop}(hit:wV s.heap it x left c)(h0:0<=left)(h1:left<=1000000)(h:∀tk,Q false {s with toks:=tk}):aA (az prog w) A (VE (.ref it)) Q E s:=by
 have hT:s.TypeIs (.ref it) "range_iterator":=⟨_,hit,rfl⟩
 have hcall:∀(Q':ah->aj->Prop),(∀u tk,Q' (.int left u) {s with toks:=tk})->aA (az prog w) A (call (.builtin "range_iterator.__length_hint__") [.ref it]) Q' E s:=λQ' hq=>by
  refine VA PySem.F.slot_range_iterator_length_hint hT PySem.F.entry_range_iterator_length_hint ?_ (PySem.F.args_range_iterator_length_hint_1 _);obtain⟨hp,g,d,tk,os⟩:=s
  wp_walk using VB hit
  exact⟨_,rfl,hq _ _⟩
 have Xx:Al left.toNat=false:=by simp[Al,aH];lia
 unfold VE;refine aV (Ei hT PySem.F.nolen_ra (show aA _ A (specialOf (cP it) (cV "__length_hint__")>>=_) _ _ _ from aV (Ei hT PySem.F.hint_ra ?_)));generalize hid:("range_iterator.__length_hint__":String)=id0
 wp_delta
 rw[show splitId id0=aa ("range_iterator","__length_hint__")from by subst hid;decide +kernel];subst hid;refine aV (wpAny_isInstance (b:=true) hT (by rw[isSubtype_type];kernel_rfl) ?_);refine EK (λz=>absurd z (by decide)) λ_=>EK (λ_=>?_) λz=>absurd (by decide +kernel) z;refine EK (λ_=>?_) λz=>absurd rfl z;refine aV (hcall _ λu tk=>aV (m:=asInt? (.int left u)) (ck ?_));dsimp only;rw[if_neg (by rw[Xx];decide)];exact ck (h tk)
def aaF{R:Result->aj->Prop}{it:ae}{n:Nat}(hh:A.handled=none)(hn:n<=1000000)(hit:wV s.heap it ((n:Int)-1) n (-1))(S:ae)(res:ah)(c₀:Nat)
  (hS:s.heap.get? S=aa {cls:=.type "list",data:=.seq #[] c₀})(hSi:S≠it)
  (hR:∀h' tk tR c',(∀b o,b≠S->b≠it->s.heap.get? b=aa o->h'.get? b=aa o)->h'.get? S=aa {cls:=.type "list",dict:=none,data:=.seq tR c',slots:=#[]}->
   ItemsOf (λi v=>∃t,v=.int ((n:Int)-1+i*(-1)) t) tR n->R (.ok (.ret res)) {s with heap:=h',toks:=tk}):
  aA (az prog w) A.in1 (EL (.ref S) (.ref it) res)
   (λfin s'=>match fin with|.done f=>R (.ok f) s'|.again c'=>c'.quiet=true/\kQ (az prog w) A c' R s') (λe s'=>R (.error e) s') s:=by
 have hT:s.TypeIs (.ref it) "range_iterator":=⟨_,hit,rfl⟩
 have W:=(Tv (prog:=prog) (w:=w) (A:=A.in1) hh it ((n:Int)-1) (-1) n).toS;have e1:VF (.ref S) (.ref it)=false:=by simp[VF,hSi]
 have e2:(rC "range_iterator"==rC "list")=false:=by decide
 have e3:(rC "range_iterator"==rC "tuple")=false:=by decide
 have st0:∀tk,wV ({s with toks:=tk}:aj).heap it ((n:Int)-1+((0:Nat):Int)*(-1)) ((n:Int)-((0:Nat):Int)) (-1):=λtk=>by rw[show(n:Int)-1+((0:Nat):Int)*(-1)=(n:Int)-1 by lia,show(n:Int)-((0:Nat):Int)=n by lia];exact hit
 unfold EL;refine aV (wpAny_typeOf hT ?_);simp only [e1,e2,e3,Ug,Ew,if_false];refine aV (W.self 0 _ _ _ (st0 s.toks) (aV (Ae (VD hit (by lia) (by lia) λtk=>?_))));refine EK (λz=>absurd z (by decide)) λ_=>ck ⟨plainId_quiet PySem.F.plain_extend_loop _,?_⟩;refine codeAny_extend_loopS W (iM hn (by decide)) S (λhm=>hSi (cL.mp hm)) res n 0 _ #[] c₀ rfl (iR _) (st0 tk) hS (ItemsOf.nil _) λs' tR c' hm hS' hacc=>?_;rw[Moved.eq_with hm];exact hR s'.heap s'.toks tR c' (λb o hb hb2 e=>hm.heap b o (λhmem=>by
  rcases aO.mp hmem with z|z
  ·exact hb z
  ·exact hb2 (cL.mp z)) e) hS' hacc
def VG{Q:ah->aj->Prop}{it:ae}{n:Nat}(hh:A.handled=none)(hn:n<=1000000)(hit:wV s.heap it ((n:Int)-1) n (-1))
  (hQ:∀h' tk tR c',(∀b o,b≠it->s.heap.get? b=aa o->h'.get? b=aa o)->h'.get? s.heap.objs.size=aa {cls:=.type "list",dict:=none,data:=.seq tR c',slots:=#[]}->
   ItemsOf (λi v=>∃t,v=.int ((n:Int)-1+i*(-1)) t) tR n->Q (.ref s.heap.objs.size) {s with heap:=h',toks:=tk}):aA (az prog w) A (call (.type "list") [.ref it]) Q E s:=by
 have hlt:it<s.heap.objs.size:=bM hit;have hS:(s.heap.push {cls:=.type "list",data:=.seq #[]}).get? s.heap.objs.size=aa {cls:=.type "list",data:=.seq #[]}:=iP _ rfl;refine callType_codes (Q₁:=λo z=>o=.ref s.heap.objs.size/\z={s with heap:=s.heap.push {cls:=.type "list",data:=.seq #[]}}) PySem.F.called_list (PySem.F.typeCall_list_1 _) PySem.F.entry_list_init (code_list_new _ ⟨rfl,rfl⟩) ?_;rintro o z ⟨rfl,rfl⟩;refine⟨⟨_,hS,rfl⟩,PySem.F.args_list_init_2 _ _,?_⟩;show aA _ _ (do
  let old<-VH (.ref s.heap.objs.size)
  EJ.List.listUpdate (.ref s.heap.objs.size) (λ_=>#[])
  letGo old.toList.reverse
  EL (.ref s.heap.objs.size) (.ref it) .none) _ _ _
 refine aV ?_;unfold VH;refine aV (wpAny_seqItems hS rfl (ck ?_));show aA _ _ (do
  updateSeq s.heap.objs.size (λ_=>#[])
  letGo (#[]:Array ah).toList.reverse
  EL (.ref s.heap.objs.size) (.ref it) .none) _ _ _
 refine aV (wpAny_updateSeq hS rfl (aV (wpAny_letGo ?_)));have hS2:=Uh (vg (λ_=>(#[]:Array ah))) hS rfl;have oth:∀b o,b≠s.heap.objs.size->s.heap.get? b=aa o->((s.heap.push {cls:=.type "list",data:=.seq #[]}).update s.heap.objs.size (vg (λ_=>(#[]:Array ah)))).get? b=aa o:=
  λb o hb e=>(KD _ _ (Ne.symm hb)).trans (cQ _ e)
 refine aaF (A:=A.in1) hh hn (oth it _ (du hlt) hit) s.heap.objs.size .none _ hS2 (DT hlt) λh' tk tR c' hk hS' hacc=>⟨rfl,?_⟩
 exact hQ h' tk tR c' (λb o hb e=>hk b o (du (bM e)) hb (oth b o (du (bM e)) e)) hS' hacc
end
def aaG(n:Nat):List D:=(bZ n).map λi=>D.int ((n:Int)-1-(i:Nat))
def Bs(n:Nat):List V:=(bZ n).map λi=>V.int ((n:Int)-1-(i:Nat))
def GO:List D->R (List D)
 |[.int j]=> @ite _ (0<=j/\j<=1000000) (dM _) (.ok (aaG j.toNat)) .bad
 |_=>.bad
def VI{K:ak}{P:ae->Prop}{H:Hp}(n:Nat):IsL K P H (aaG n) (Bs n):=by
 unfold aaG Bs
 induction (bZ n)with
 |nil=>rfl
 |cons x r ih=>exact⟨_,_,rfl,rfl,ih⟩
def NJ{acc:List ah}{n:Nat}(h1:acc.length=n)(h2:∀(j:Nat)(v:ah),acc[j]?=aa v->∃t,v=.int ((n:Int)-1-(j:Nat)) t):Vals (Bs n) acc:=by
 have gen:∀(l:List ah)(k:Nat),(∀(j:Nat)(v:ah),l[j]?=aa v->∃t,v=.int ((n:Int)-1-((k+j:Nat):Int)) t)->Vals ((Lh k l.length).map λi=>V.int ((n:Int)-1-(i:Nat))) l:=by
  intro l
  induction l with
  |nil=>intro k _;exact .nil
  |cons x r ih=>
   intro k hk;rw[bQ,Li,bu];obtain⟨t,e⟩:=hk 0 x rfl;refine .cons ⟨t,e⟩ (ih (k+1) λj v e=>?_);obtain⟨t,e⟩:=hk (j+1) v (by simpa using e);exact⟨t,by rw[e,show k+(j+1)=k+1+j by lia]⟩
 have:=gen acc 0 λj v e=>by rw[jv];exact h2 j v e
 rw[h1,<-Lj]at this;exact this
section
variable{X:Cx}{E:Str->Hp->Prop}{pos:Pos}
def aaH{a:ao}{p p2 p3 wD NK:Pos}{f:DE->R (List D)}(hc:X.calm=true)(PN:X.mg "list"=none)(hmv:X.mg "reversed"=none)(hmr:X.mg "range"=none)(ha:PA X [a] (xq X.K E f))(hgl:Gl X "list":=by rfl)(hgv:Gl X "reversed":=by rfl)(hgr:Gl X "range":=by rfl)
  (hs:ar [a] X.env=[(false,aw a X.env)]:=by rfl)(he2:ar [.Call (.Name "range" p3) [a] [] NK] X.env=(false,aw (.Call (.Name "range" p3) [a] [] NK) X.env)::ar [] X.env:=by rfl)
  (he:ar [.Call (.Name "reversed" p2) [.Call (.Name "range" p3) [a] [] NK] [] wD] X.env=(false,aw (.Call (.Name "reversed" p2) [.Call (.Name "range" p3) [a] [] NK] [] wD) X.env)::ar [] X.env:=by rfl)
  (hpl:(bp pos (ar [] X.env)).any (·.1)=false:=by rfl)(aay:(bp wD (ar [] X.env)).any (·.1)=false:=by rfl):
  PE X (.Call (.Name "list" p) [.Call (.Name "reversed" p2) [.Call (.Name "range" p3) [a] [] NK] [] wD] [] pos) (tF X.K E λenv=>(f env).bind GO):=by
 intro pins s σ H Q I ⟨g,env,os,r,m⟩;refine u9 (lZ I hgl PN rV (mH ?_ he hpl));rw[he];refine w9 (uW (lZ I hgv hmv zD (mH ?_ he2 aay)));rw[he2];refine w9 (uW (lZ I hgr hmr Bj (mH (fz (ha NK pins s σ H _ I ⟨g,env,os,r,m.bind.mono λds _ q vs H1 s1 i1=>(⟨ds,s1,i1,q⟩:∃ds,bD H H1/\IsL X.K Tr H1 ds vs/\Good E g.H₀ (GO ds) _)⟩) λus s1 ⟨vs,H1,I1,r1,ds,sm,i1,q⟩=>?_) hs rfl)));unfold GO at q;split at q
 ·rename_i j
  split at q
  ·rename_i c
   obtain⟨v,rfl,iv⟩:=IsL.Ep i1;have iv':v=.int j:=iv;subst iv';obtain⟨u,rfl,t,rfl⟩:=vals1 r1;obtain⟨n,rfl⟩:∃n:Nat,j=n:=⟨j.toNat,by lia⟩
   rw[bw]at q;have hd:X.A.handled=none:=I.ok.hd hc;refine call_range_1 (w6 ?_);generalize hR:({cls:=.type "range",data:=.fields #[.int 0 s1.toks,.int (n:Int) t,.int 1 (s1.toks+1)]}:Obj)=oR;refine aaE (n:=n) (by lia) c.2 (show rH _ _ 0 (n:Int) 1 s1.toks t (s1.toks+1)from by rw[<-hR];exact rH.new ..) (w6 ?_);have k1:∀b o,s1.heap.get? b=aa o->((s1.heap.push oR).push (zS n)).get? b=aa o:=λb o e=>cQ _ (cQ _ e);have hit:((s1.heap.push oR).push (zS n)).get? (s1.heap.push oR).objs.size=aa (zS n):=iP _ rfl;refine VG (n:=n) hd (by lia) (by show((s1.heap.push oR).push (zS n)).get? (s1.heap.push oR).objs.size=_;rw[hit];unfold zS;rw[show 0+((n:Int)-1)*1=(n:Int)-1 by lia]) λh' tk tR c' hk hl ah6=>?_
   obtain⟨hi1,hi2⟩:=ah6;have hv:Vals (Bs n) tR.toList:=NJ (by simpa using hi1) λi v e=>by obtain⟨t,q⟩:=hi2 i v (by simpa using e);exact⟨t,by rw[q];congr 1;lia⟩
   have hlen:(Bs n).length<=aH:=by unfold Bs;rw[aG,Ey];exact iM (show n<=1000000 by lia) (by decide)
   have UA:∀b o,s1.heap.get? b=aa o->h'.get? b=aa o:=λb o e=>hk b o (du (KS (bM e) (by rw[Aj];exact D7 _))) (k1 b o e);have hsz:s1.heap.objs.size<=((s1.heap.push oR).push (zS n)).objs.size:=by rw[Aj,Aj];lia
   have hn1:H1 ((s1.heap.push oR).push (zS n)).objs.size=none:=I1.hok.fresh hsz;refine⟨.ref _,upd H1 _ (.lst (Bs n)),I1.laid (a:=((s1.heap.push oR).push (zS n)).objs.size) (t':=tk) UA hsz ⟨hlen,tR.toList,c',hv,by simpa using hl⟩,rfl,?_⟩;exact q _ _ _ (sm.trans (bF hn1 _)) (sm.free hn1) aP (VI n)
  ·exact q.elim
 ·exact q.elim
end
def scB(d:D):Bool:=(toV d).isSome
def anD:D->Bool
 |.tup xs=>xs.all scB
 |_=>false
def apQ(H:Hp)(c:ae):Prop:=∃vs,Rd H c (.lst vs)
abbrev Fm:=Int×List (List Int)
def pH(q:Fm):D:=.tup [.int q.1,.lst (q.2.map λns=>.lst (ns.map .int))]
def tfO:Out->R Fm
 |.Cu (.tf h nss)=>.ok (h,nss)
 |_=>.bad
def aeo(K:ak)(m:List D->R Fm):Sp:=λvs H Q E=>∃P ds,IsL K P H ds vs/\(match m ds with
 |.ok ts=>∀(a:ae)(H':Hp),bD H H'->Cw K H H' a (.tf ts.1 ts.2)->Q (.ref a) H'
 |_=>False)
def Qg(n N:Nat)(b:DE->R Out)(ds:List D):R Fm:=if ds.length=n then((b (aT N ds)).bind tfO).ne else .bad
abbrev zT(P:aR)(w:aE)(K:ak)(mg:Str->Option ah)(base:aC)(k:Nat)(f:ae)(fd:aL)(ps:List Str)(m:List D->R Fm):Prop:=fA P w K mg base oN k f fd ps (aeo K m)
section
variable{P:aR}{w:aE}{K:ak}{mg:Str->Option ah}{base:aC}
def aaI{x:Str}{st:aD}{f:ae}{fd:aL}{N ps:List Str}{k:Nat}{b:DE->R Out}(S:bc N ps (au st))(d:Df K mg x st ps f fd)
  (hb:∀(cdv:ah)(A:bh)(outer:List Env)(s:aj)(H:Hp)(E:XK),cG k (A.deeper (eT x (au st) s.heap.objs.size f cdv))->vP (ud oN P w K mg base N x (au st) f cdv A outer s H E).JW (dq st) (tS K EN b)):
  zT P w K mg base (k+1) f fd ps (Qg ps.length N.length b):=by
 refine d.F.ok S (λvs H Q E h=>?_) (λcdv A outer s H vs Q E hr h=>?_)
 ·obtain⟨Pa,ds,i,h⟩:=h
  cases e:Qg ps.length N.length b ds with
  |ok nss=>
   rw[i.length];unfold Qg at e;split at e
   ·assumption
   ·cases e
  |err c=>rw[e]at h;exact h.elim
  |bad=>rw[e]at h;exact h.elim
 ·obtain⟨Pa,ds,i,h⟩:=h
  refine⟨_,hb cdv A outer s H E hr,⟨⟨Pa,H⟩,aT N.length ds,[],vo i,?_⟩⟩;cases e:Qg ps.length N.length b ds with
  |err c=>rw[e]at h;exact h.elim
  |bad=>rw[e]at h;exact h.elim
  |ok nss=>
   rw[e]at h;unfold Qg at e;split at e
   ·have q:=R.dE e
    cases eb:b (aT N.length ds)with
    |bad=>rw[eb]at q;cases q
    |err c=>rw[eb]at q;cases q
    |ok o=>
     rw[eb]at q;cases o with
     |Cu c=>
      cases c with
      |tf h0 ts=>cases q;exact λa H' s' nd=>h a H' s' nd
      |ls _=>cases q
      |tp _=>cases q
      |dk _=>cases q
      |tq _ _=>cases q
      |tv _ _=>cases q
      |tr _=>cases q
     |Pg _=>cases q
     |Ov _=>cases q
     |Ik _=>cases q
     |vm _=>cases q
     |rt _=>cases q
     |nx _=>cases q
     |bk _=>cases q
     |ct _=>cases q
   ·cases e
end
section
variable{X:Cx}{E:Str->Hp->Prop}{pos:Pos}
def tFo(K:ak)(E:Str->Hp->Prop)(f:DE->R Fm):TE:=λσ H Q=>∃g env os,Rel K g env σ H os/\Good E g.H₀ (f env) λts=>∀(a:ae)(H':Hp),bD H H'->Cw K H H' a (.tf ts.1 ts.2)->Q (.ref a) H'
def tU{x:Str}{st:aD}{ps:List Str}{fa:ae}{fd:aL}{k:Nat}{p:Pos}{e:ao}{es:List ao}{f:DE->R (List D)}{m:List D->R Fm}(d:Df X.K X.mg x st ps fa fd)(F:zT X.prog X.w X.K X.mg X.base k fa fd ps m)(hr:cG k X.A)
  (ha:PA X (e::es) (xq X.K E f))(hg:Gl X x:=by rfl)(hdb:(x==("__debug__":Str))=false:=by decide)(he:ar (e::es) X.env=(false,aw e X.env)::ar es X.env:=by rfl)(hpl:(bp pos (ar es X.env)).any (·.1)=false:=by rfl):
  PE X (.Call (.Name x p) (e::es) [] pos) (tFo X.K E λenv=>((f env).bind m).ne):=
 imp (ie (E:=λ_ _ _=>False) F hr hg d.m d.F.kp d.b .nil oV ha hdb he hpl) λσ H Q ⟨g,env,os,r,q⟩=>⟨g,env,os,r,by
  dsimp only at q;cases ef:f env with
  |bad=>rw[ef]at q;exact q.elim
  |err c=>rw[ef]at q;exact q.elim
  |ok ds=>
   rw[ef]at q;cases em:m ds with
   |bad=>rw[show((R.ok ds).bind m)=m ds from rfl,em]at q;exact q.elim
   |err c=>rw[show((R.ok ds).bind m)=m ds from rfl,em]at q;exact q.elim
   |ok nss=>
    rw[show((R.ok ds).bind m)=m ds from rfl,em]at q;intro vs H1 s1 i1;show aeo X.K m (vs++[]) H1 Q _;rw[bq];refine⟨_,ds,i1,?_⟩;rw[em];exact λa H' s' nd=>q a H' (s1.trans s') (nd.back s1)⟩
def I8(i:Nat){x:Str}{e:ao}{f:DE->R Fm}{pos':Pos}(he:PE X e (tFo X.K E f))(hN:X.N.Nodup)(hi:X.N[i]?=aa x:=by rfl)(hx:Loc X.env.scope x:=by omega)(hs:fK e (aa (.Name x pos')) pos.line X.env=aW false:=by rfl)
  (hf:X.fn x=true\/X.env.scope.names.lookup x=aa .local:=by omega):PS X (.Assign [.Name x pos'] e pos) (tS X.K E λenv=>(f env).bind λts=>.ok (.nx (env.set i (.deep (.tf ts.1 ts.2))))):=
 oQ (gy hN hi hx he hs hf) λDe σ H ⟨g,env,os,r,m⟩=>⟨g,env,os,r,m.bind.mono λts _ q a H' s nd=>by
  obtain⟨as,fr,dp⟩:=nd;refine q _ H' ((a::as)++os) (r.setC s i (c:=.tf ts.1 ts.2) fr (dp.to λx hx=>⟨gb _ hx,rfl⟩)) ⟨λb hb=>?_,λb hb=>s.free hb,λb o _ hb=>s b o hb⟩;rcases b8.mp hb with z|z
  ·exact .inr (fr b z)
  ·exact .inl z⟩
def Cw.isF {K:ak}{H H':Hp}{P:ae->Prop}{a:ae}{q:Fm}(nd:Cw K H H' a (.tf q.1 q.2))(hP:∀b,H b=none->P b):Is K P H' (pH q) (.ref a):=by obtain⟨as,fr,m,bs,rfl,_,_,h4,h5⟩:=nd;exact⟨a,_,rfl,.inl ⟨hP _ (fr a (by simp)),.inl h4⟩,⟨_,_,rfl,rfl,⟨_,_,rfl,⟨m,_,rfl,.inl ⟨hP _ (fr m (by simp)),.inl h5.ha⟩,Br h5.len (λb hb=>hP _ (fr b (by simp[hb]))) λk b ns e1 e2=>(h5.it k b ns e1 e2).2⟩,rfl⟩⟩⟩
def PE.xK {e:ao}{f:DE->R Fm}(h:PE X e (tFo X.K E f)):PE X e (tD X.K E λenv=>(f env).bind λq=>.ok (pH q)):=
 imp h λσ H Q ⟨g,env,os,r,m⟩=>⟨g,env,os,r,m.bind.mono λts _ q a H' s nd=>q (.ref a) H' s (nd.isF λb hb=>r.fresh hb)⟩
def I9{e:ao}{f:DE->R Fm}(he:PE X e (tFo X.K E f)):PS X (.Return (aa e) pos) (tS X.K E λenv=>(f env).bind λq=>.ok (.Cu (.tf q.1 q.2))):=
 oQ (nE he) λDe σ H ⟨g,env,os,r,m⟩=>⟨g,env,os,r,m.bind.mono λq _ m2 a H' s nd=>(show jd X.K g H os De (.Cu (.tf q.1 q.2))from m2) a H' (r.ext.trans s) (nd.back r.ext)⟩
def xM(i:Nat)(env:DE):R Fm:=match env[i]? with
 |some (.deep (.tf h nss))=>.ok (h,nss)
 |_=>.bad
def Good.fos {H₀:Hp}{i:Nat}{env:DE}{p:Fm->Prop}(h:Good E H₀ (xM i env) p):∃k nss,env[i]?=aa (.deep (.tf k nss))/\p (k,nss):=by
 unfold xM at h;split at h
 ·rename_i k nss e
  exact⟨k,nss,e,h⟩
 ·exact h.elim
def Qh{K:ak}{H₀ H:Hp}{p m:ae}{bs:List ae}{nss:List (List Int)}{s:Int}(hp:H p=none)(h0:H₀ p=none)(fr:∀b∈m::bs,H₀ b=none){os:List ae}(d:Bc HO.lst H os m bs nss):
  Cw K H₀ (upd H p (.tup [.int s,.ref m])) p (.tf s nss):=by
 have hne:∀b∈m::bs,p≠b:=λb hb z=>by obtain⟨_,o,q⟩:=d.mem b hb;rw[<-z,hp]at q;cases q
 refine⟨m::bs,λx hx=>?_,m,bs,rfl,by simp,λz=>hne p z rfl,aP,d.to λx hx=>⟨by simp at hx⊢;rcases hx with rfl|hx<;>simp[*],aB (Ne.symm (hne x hx))⟩⟩;rcases aO.mp hx with rfl|hx
 ·exact h0
 ·exact fr x hx
def aaK(j:Nat){x:Str}{e1 ei:ao}{f1 fi:DE->R D}{px p1 tp:Pos}{x1}(h1:PE X e1 (tB X.K E f1))(hi:PE X ei (tB X.K E fi))(hN:X.N[j]?=aa x:=by rfl)(hv:yF X.env.scope x:=by omega)(hd:(x==("__debug__":Str))=false:=by decide)
  (hcd:(x==("__classdict__":Str))=false:=by decide)(hpi:rN ei:=by exact λ_ _=>rfl)
  (hs:ar [e1,.Subscript (.Name x px) ei p1] X.env=(false,aw e1 X.env)::ar [.Subscript (.Name x px) ei p1] X.env:=by rfl)(hs2:ar [.Subscript (.Name x px) ei p1] X.env=(false,aw (.Subscript (.Name x px) ei p1) X.env)::ar [] X.env:=by rfl):
  PS X (.Return (aa (.Tuple [e1,.Subscript (.Name x px) ei p1] x1 tp)) pos) (tS X.K E λenv=>(f1 env).bind λd=>(C1 d).bind λs=>(xM j env).bind λq=>(fi env).bind λk=>(xJ k).bind λ_=>.ok (.Cu (.tf s q.2))):=
 oQ (nE (wx (aS h1 (aS (ja uf (gx hN hv hd hcd) hi hpi) bA hs2) hs))) λDe σ H ⟨g,env,os,r,m⟩=>⟨g,env,os,r,m.bind.mono λd _ m1 v H1 s1 i1=>by
  obtain⟨s,rfl,m2⟩:=m1.bind.int;have ev:v=.int s:=i1;subst ev;obtain⟨h,nss,e,m3⟩:=m2.bind.fos;have r1:=r.same s1;obtain⟨A,dd⟩:=r1.Gk;obtain⟨a,as,_,q1,b0,bs,rfl,q2,q3,q4,q5⟩:=dd.dp j _ e;refine⟨.ref a,q1,g,env,os,r1,m3.bind.mono λk _ m4 w H2 s2 i2=>?_⟩;obtain⟨rfl,m5⟩:=m4.bind.one;refine⟨a,_,1,.ref b0,rfl,i2,Ck.of (s2 _ _ q4),rfl,(by show 2<=aH;decide),λp hp=>?_⟩;have ss:=s1.trans s2;have q6:=q5.to (H':=H2) (os':=os) λx hx=>by obtain⟨z1,o,z2⟩:=q5.mem x hx;exact⟨z1,by rw[s2 x o z2,z2]⟩
  refine(show jd X.K g H os De (.Cu (.tf s nss))from m5) p _ ((r.ext.trans ss).trans (bF hp _)) (Qh hp ((r.ext.trans ss).free hp) (λb hb=>?_) q6);exact(r.new b (q5.mem b hb).1).1⟩
end
section
variable{K:ak}{g:Gh}{env:DE}{σ:St}{H:Hp}{os:List ae}
def Rel.aaL (r:Rel K g env σ H os){H':Hp}{env':DE}{σ':St}(hl:σ'.length=env'.length)(hs:∀a,a∉os->H' a=H a)(hn:∀a∈os,∃o,H' a=aa o)
  (hv:∀(j:Nat)(sl:Sl),env'[j]?=aa sl->sl=.no\/∃d,sl=.val d/\env[j]?=aa (.val d)/\σ'[j]?=σ[j]?):Rel K g env' σ' H' os:=by
 refine⟨hl,λa o h=>?_,λj d e=>?_,λj xs e=>?_,λj k xs ys b e=>?_,λa ha=>⟨(r.new a ha).1,hn a ha⟩,λj v e=>?_,Gj.none λj c e=>?_⟩
 ·rw[hs a λz=>by rw[(r.new a z).1]at h;cases h]
  exact r.ext a o h
 ·rcases hv j _ e with z|⟨d',z,e2,e3⟩
  ·cases z
  ·cases z
   obtain⟨v,h1,h2⟩:=r.val j d e2;exact⟨v,by rw[e3];exact h1,Is.ext ⟨λ_ _ p _=>p,λc o p q=>by rw[hs c p.2];exact q⟩ _ _ h2⟩
 ·rcases hv j _ e with z|⟨d',z,_⟩<;>cases z
 ·rcases hv j _ e with z|⟨d',z,_⟩<;>cases z
 ·rcases hv j _ e with z|⟨d',z,_⟩<;>cases z
 ·rcases hv j _ e with z|⟨d',z,_⟩<;>cases z
end
def Yu(K:ak)(it io jn:Nat):TS:=ac1 (J0 K (ZC (Uc K) (DJ it) (tC (.int 1)))) (F6 io) (OP (tBM K "list" Eg (DJ io) (Ko (DJ jn) O3)))
def Yv(K:ak)(it jn:Nat):TS:=OP (tBM K "list" Eg (ZC (Uc K) (DJ it) (tC (.int 1))) (Ko (DJ jn) O3))
def Qi{K:ak}{it io jn:Nat}{n:Int}{σ:St}{H:Hp}{D:Ends}{a m:ae}{bs:List ae}{h:Int}{nss:List (List Int)}(h1:σ[it]?=aa (aa (.ref a)))(h2:σ[jn]?=aa (aa (.int n)))(hio:io<σ.length)(hi1:io≠it)(hi2:io≠jn)
  (ha:H a=aa (.tup [.int h,.ref m]))(hm:H m=aa (.lst (bs.map V.ref)))(hl:bs.length=nss.length)(nd:(m::bs).Nodup)(hit:∀(k:Nat)(b:ae)(ns:List Int),bs[k]?=aa b->nss[k]?=aa ns->H b=aa (.lst (ns.map V.int)))(am:a∉m::bs)
  (sz:bs.length<aH)(szr:∀ns∈nss,ns.length<aH)
  (k:∀rv H',(∀x,x∉m::bs->H' x=H x)->(∀x∈m::bs,∃o,H' x=aa o)->D.nx (σ.set io rv) H'):Tj (Yu K it io jn) (Yv K it jn) D σ H:=by
 have mb:m∉bs:=(eR.mp nd).1;have ab:a∉bs:=λz=>am (bg _ z);refine⟨.ref a,h1,a,_,1,.ref m,rfl,rfl,Ck.of ha,rfl,m,rfl,⟨_,fG.of hm⟩,A6 (K:=K) (a:=m) (xs:=bs.map V.ref) (λi σ' H'=>(∃rv,σ'=σ.set io rv)/\(∀x,x∉bs->H' x=H x)/\(∀x∈bs,∃o,H' x=aa o)/\∀(k:Nat)(b:ae)(ns:List Int),i<=k->bs[k]?=aa b->nss[k]?=aa ns->H' b=aa (.lst (ns.map V.int))) ⟨⟨σ[io],(LD hio).symm⟩,λ_ _=>rfl,λx hx=>?_,λk b ns _ e1 e2=>hit k b ns e1 e2⟩ ?_ ?_ ?_⟩
 ·obtain⟨k,hk,rfl⟩:=pZ hx
  exact⟨_,hit k _ _ (aQ hk) (aQ (by rw[<-hl];exact hk))⟩
 ·rintro i σ' H' _ ⟨_,q2,_⟩
  exact fG.of (by rw[q2 m mb];exact hm)
 ·rintro i x σ' H' hx ⟨⟨rv,rfl⟩,q2,q3,q4⟩
  have hib:i<bs.length:=by
   have:=(bz.mp hx).1
   rwa [aG]at this
  rw[bG,aQ hib]at hx;cases hx;have hin:i<nss.length:=by rw[<-hl];exact hib
  have hb:=q4 i _ _ (aY _) (aQ hib) (aQ hin);have hj:((σ.set io rv).set io (aa (.ref bs[i])))[jn]?=aa (aa (.int n)):=by rw[aJ hi2,aJ hi2];exact h2
  refine⟨.ref bs[i],iN (by rw[kW];exact hio),.inl ⟨rfl,_,fG.of hb⟩,.int n,hj,bs[i],_,.int n,rfl,rfl,hb,by rw[aG];exact szr _ (xN _),⟨aa (.ref bs[i]),LG _⟩,λx hx=>?_,λx hx=>?_,λk b ns hk e1 e2=>?_⟩
  ·rw[aB (λz=>hx (by rw[z];exact xN _))]
   exact q2 x hx
  ·by_cases z:x=bs[i]
   ·rw[z];exact⟨_,aP⟩
   ·rw[aB z];exact q3 x hx
  ·have hne:b≠bs[i]:=λz=>by
    obtain⟨hk1,hk2⟩:=bz.mp e1;have:=(JT (eR.mp nd).2).mp (show bs[k]'hk1=bs[i]by rw[hk2,z]);lia
   rw[aB hne];exact q4 k b ns (by lia) e1 e2
 ·rintro σ' H' ⟨⟨rv,rfl⟩,q2,q3,_⟩
  have hm':H' m=aa (.lst (bs.map V.ref)):=by rw[q2 m mb];exact hm
  have hj:(σ.set io rv)[jn]?=aa (aa (.int n)):=by rw[aJ hi2];exact h2
  have Bt:(σ.set io rv)[it]?=aa (aa (.ref a)):=by rw[aJ hi1];exact h1
  refine⟨.ref a,Bt,a,_,1,.ref m,rfl,rfl,Ck.of (by rw[q2 a ab];exact ha),rfl,.inl ⟨rfl,_,fG.of hm'⟩,.int n,hj,m,_,.int n,rfl,rfl,hm',by rw[aG];exact sz,k rv _ (λx hx=>?_) λx hx=>?_⟩
  ·rw[aB (λz=>hx (by rw[z];simp))]
   exact q2 x λz=>hx (bg _ z)
  ·by_cases z:x=m
   ·rw[z];exact⟨_,aP⟩
   ·rw[aB z]
    exact q3 x ((aO.mp hx).resolve_left z)
abbrev El:=ae×List ae×Fm
def AA(e:El):List ae:=e.1::e.2.1
structure C2(H:Hp)(e:El):Prop where
 at_:∃m bs,e.2.1=m::bs/\e.1∉e.2.1/\H e.1=aa (.tup [.int e.2.2.1,.ref m])/\H m=aa (.lst (bs.map V.ref))/\bs.length=e.2.2.2.length/\(m::bs).Nodup/\∀(k:Nat)(b:ae)(ns:List Int),bs[k]?=aa b->e.2.2.2[k]?=aa ns->H b=aa (.lst (ns.map V.int))
def C2.of {K:ak}{H:Hp}{os:List ae}{a:ae}{as:List ae}{q:Fm}(d:Dp K H os a as (.tf q.1 q.2)):C2 H (a,as,q):=by obtain⟨m,bs,e,_,h2,h3,h4⟩:=d;exact⟨m,bs,e,h2,h3,h4.ha,h4.len,h4.nd,λk b ns e1 e2=>(h4.it k b ns e1 e2).2⟩
def C2.to {H H':Hp}{e:El}(d:C2 H e)(h:∀x∈AA e,H' x=H x):C2 H' e:=by
 obtain⟨m,bs,e1,h2,h3,h4,h5,h6,h7⟩:=d.at_
 have ha:∀x∈m::bs,H' x=H x:=λx hx=>h x (by unfold AA;rw[e1];exact bg _ hx);exact⟨m,bs,e1,h2,by rw[h e.1 (by unfold AA;simp)];exact h3,by rw[ha m (by simp)];exact h4,h5,h6,λk b ns q1 q2=>by rw[ha b (bg _ (dm q1))];exact h7 k b ns q1 q2⟩
def C2.there {H:Hp}{e:El}(d:C2 H e):∀x∈AA e,∃o,H x=aa o:=by
 obtain⟨m,bs,e1,h2,h3,h4,h5,h6,h7⟩:=d.at_
 intro x hx;unfold AA at hx;rw[e1]at hx;rcases aO.mp hx with rfl|hx
 ·exact⟨_,h3⟩
 ·rcases aO.mp hx with rfl|hx
  ·exact⟨_,h4⟩
  ·obtain⟨k,hk,rfl⟩:=pZ hx
   exact⟨_,h7 k _ _ (aQ hk) (aQ (by rw[<-h5];exact hk))⟩
def Qj{K:ak}{it io jn:Nat}{n:Int}{σ:St}{H:Hp}{D:Ends}{L:ae}{els:List El}(hit:it<σ.length)(hio:io<σ.length)(hi1:io≠it)(hi2:io≠jn)(VJ:it≠jn)(h2:σ[jn]?=aa (aa (.int n)))
  (hL:H L=aa (.lst (els.map λe=>.ref e.1)))(hLn:∀e∈els,L∉AA e)(ok:∀e∈els,C2 H e)(sz:∀e∈els,e.2.2.2.length<aH/\∀ns∈e.2.2.2,ns.length<aH)(dj:els.Pairwise λe e'=>∀x∈AA e,x∉AA e')
  (k:∀tv rv H',(∀x,(∀e∈els,x∉AA e)->H' x=H x)->(∀e∈els,∀x∈AA e,∃o,H' x=aa o)->D.nx ((σ.set it tv).set io rv) H'):
  ∃W:Nat->Nat->St->Hp->Prop,(∃m,W 0 m σ H)/\∀i m σ H,W i m σ H->
   ((Sv K L).stop i H/\D.nx σ H)\/((Sv K L).go i H/\∃N:St->Hp->Prop,(∀σ' H',N σ' H'->∃m',m'<m/\W (i+1) m' σ' H')/\∀x H',(Sv K L).yld i H x H'->F6 it x σ H' λσ2 H2=>Tj (Yu K it io jn) (Yv K it jn) {D with nx:=N,ct:=N,bk:=D.nx} σ2 H2):=by
 refine A6 (K:=K) (a:=L) (xs:=els.map λe=>V.ref e.1) (λi σ' H'=>(∃tv rv,σ'=(σ.set it tv).set io rv)/\(∀x,(∀e∈els,x∉AA e)->H' x=H x)/\(∀e∈els,∀x∈AA e,∃o,H' x=aa o)/\∀(k:Nat)(e:El),i<=k->els[k]?=aa e->∀x∈AA e,H' x=H x) ⟨⟨σ[it],σ[io],?_⟩,λ_ _=>rfl,λe he=>(ok e he).there,λ_ _ _ _ _ _=>rfl⟩ ?_ ?_ ?_
 ·rw[LD,LD]
 ·rintro i σ' H' _ ⟨_,q2,_⟩
  exact fG.of (by rw[q2 L hLn];exact hL)
 ·rintro i x σ' H' hx ⟨⟨tv,rv,rfl⟩,q2,q3,q4⟩
  have hie:i<els.length:=by
   have:=(bz.mp hx).1
   rwa [aG]at this
  rw[bG,aQ hie]at hx;cases hx;have he:=xN hie;have hd:∀x∈AA els[i],H' x=H x:=q4 i _ (aY _) (aQ hie);obtain⟨m,bs,e1,g2,g3,g4,g5,g6,g7⟩:=((ok _ he).to hd).at_
  have es:((σ.set it tv).set io rv).set it (aa (V.ref els[i].1))=(σ.set it (aa (V.ref els[i].1))).set io rv:=by rw[Tt _ _ hi1,LG]
  show Tj _ _ _ (((σ.set it tv).set io rv).set it (aa (V.ref els[i].1))) H';rw[es];refine Qi (n:=n) (a:=els[i].1) (h:=els[i].2.2.1) (nss:=els[i].2.2.2) ?_ ?_ (by simp[hio]) hi1 hi2 g3 g4 g5 g6 g7 (by rw[<-e1];exact g2) (by rw[g5];exact(sz _ he).1) (sz _ he).2 λrv' UM w1 w2=>?_
  ·rw[aJ hi1,iN hit]
  ·rw[aJ hi2,aJ VJ]
   exact h2
  ·have out:∀x,x∉AA els[i]->UM x=H' x:=λx hx=>w1 x λz=>hx (by unfold AA;rw[e1];exact bg _ z)
   refine⟨⟨_,rv',LG _⟩,λx hx=>?_,λe Z8 x hx=>?_,λk e hk ek x hx=>?_⟩
   ·rw[out x (hx _ he)]
    exact q2 x hx
   ·by_cases z:x∈m::bs
    ·exact w2 x z
    ·rw[w1 x z]
     exact q3 e Z8 x hx
   ·obtain⟨hk1,hk2⟩:=bz.mp ek
    have:=VL.mp dj i k hie hk1 (by lia);rw[hk2]at this;rw[out x λz=>this x z hx];exact q4 k e (by lia) ek x hx
 ·rintro σ' H' ⟨⟨tv,rv,rfl⟩,q2,q3,_⟩
  exact k tv rv H' q2 q3
def Rel.grow {K:ak}{g:Gh}{env:DE}{σ:St}{H H':Hp}{os:List ae}(r:Rel K g env σ H os)(s:bD H H'){c:Ct}{a:ae}{as:List ae}(fr:∀x∈a::as,H x=none)(dp:Dp K H' (a::as) a as c):Rel K g env σ H' ((a::as)++os):=by have:=r.setC s env.length (c:=c) fr (dp.to λx hx=>⟨gb _ hx,rfl⟩);rw[VM (aY _),VM (by rw[r.len];exact aY _)]at this;exact this
def C2.same {H H':Hp}{e:El}(d:C2 H e)(s:bD H H'):C2 H' e:=d.to λx hx=>by obtain⟨o,h⟩:=d.there x hx;rw[s x o h,h]
def apart{H:Hp}{e e':El}(d:C2 H e)(f:∀x∈AA e',H x=none):∀x∈AA e,x∉AA e':=λx hx z=>by obtain⟨o,h⟩:=d.there x hx;rw[f x z]at h;cases h
def VN:Sl->Bool
 |.no=>true
 |.val _=>true
 |_=>false
def EO(it io i1 i2:Nat)(env:DE):DE:=(((env.set i1 .no).set i2 .no).set it .no).set io .no
def Qk{it io i1 i2:Nat}{env:DE}(h:(EO it io i1 i2 env).all VN=true){j:Nat}{sl:Sl}(e:(EO it io i1 i2 env)[j]?=aa sl):sl=.no\/∃d,sl=.val d/\env[j]?=aa (.val d)/\it≠j/\io≠j:=by
 have hv:VN sl=true:=U9.mp h sl (dm e);cases sl with
 |no=>exact .inl rfl
 |val d=>
  refine .inr ⟨d,rfl,?_⟩;unfold EO at e;obtain⟨n1,e⟩:=eZ e (λz=>nomatch z);obtain⟨n2,e⟩:=eZ e (λz=>nomatch z);obtain⟨n3,e⟩:=eZ e (λz=>nomatch z);obtain⟨n4,e⟩:=eZ e (λz=>nomatch z);exact⟨e,n2,n1⟩
 |own _=>cases hv
 |raw _=>cases hv
 |deep _=>cases hv
noncomputable def GQ(it io i1 i2 jn:Nat)(env:DE)(qs:List Fm):R Out:=match env[jn]? with
 |some (.val (.int _))=> @ite _ ((io≠it/\io≠jn/\it≠jn/\i1≠i2/\it<env.length/\io<env.length)/\(EO it io i1 i2 env).all VN=true/\∀q∈qs,q.2.length<1000/\∀ns∈q.2,ns.length<1000) (dM _) (.ok (.nx (EO it io i1 i2 env))) .bad
 |_=>.bad
section
variable{X:Cx}{E:Str->Hp->Prop}{pos:Pos}
def Good.aaL {H₀:Hp}{it io i1 i2 jn:Nat}{env:DE}{qs:List Fm}{p:Out->Prop}(h:Good E H₀ (GQ it io i1 i2 jn env qs) p):∃n:Int,env[jn]?=aa (.val (.int n))/\(io≠it/\io≠jn/\it≠jn/\i1≠i2/\it<env.length/\io<env.length)/\(EO it io i1 i2 env).all VN=true/\(∀q∈qs,q.2.length<1000/\∀ns∈q.2,ns.length<1000)/\p (.nx (EO it io i1 i2 env)):=by
 unfold GQ at h;split at h
 ·rename_i n e
  split at h
  ·rename_i c
   exact⟨n,e,c.1,c.2.1,c.2.2,h⟩
  ·exact h.elim
 ·exact h.elim
def aep(it io i1 i2 jn:Nat){told row x1 x2 nm:Str}{e3 e4 e5:ao}{f3 f4 f5:DE->R Fm}{k1 k2}{p1 p2 p3 p4 p5 p6 p7 q1 q2 lp sp1 sp2 ip1 ip2 ap1 ap2 cp1 cp2 ep1 ep2 fp:Pos}(hp:DS (az X.prog X.w) X.A X.env X.xe)(hc:X.calm=true)(hN:X.N.Nodup)
  (h3:PE X e3 (tFo X.K E f3))(h4:PE X e4 (tFo X.K E f4))(h5:PE X e5 (tFo X.K E f5))
  (nt:X.N[it]?=aa told:=by rfl)(nr:X.N[io]?=aa row:=by rfl)(n1:X.N[i1]?=aa x1:=by rfl)(n2:X.N[i2]?=aa x2:=by rfl)(nn:X.N[jn]?=aa nm:=by rfl)
  (vt:yF X.env.scope told:=by omega)(vr:yF X.env.scope row:=by omega)(v1:yF X.env.scope x1:=by omega)(v2:yF X.env.scope x2:=by omega)(vn:yF X.env.scope nm:=by omega)
  (lt:Loc X.env.scope told:=by omega)(lr:Loc X.env.scope row:=by omega)
  (ft:X.fn told=true\/X.env.scope.names.lookup told=aa .local:=by omega)(fr:X.fn row=true\/X.env.scope.names.lookup row=aa .local:=by omega)
  (dt:(told==("__debug__":Str))=false:=by decide)(dr:(row==("__debug__":Str))=false:=by decide)(d1:(x1==("__debug__":Str))=false:=by decide)(d2:(x2==("__debug__":Str))=false:=by decide)(dn:(nm==("__debug__":Str))=false:=by decide)
  (ct:(told==("__classdict__":Str))=false:=by decide)(cr:(row==("__classdict__":Str))=false:=by decide)(c1:(x1==("__classdict__":Str))=false:=by decide)(c2:(x2==("__classdict__":Str))=false:=by decide)(cn:(nm==("__classdict__":Str))=false:=by decide)
  (s1:ar [.Name x1 q1,.Name x2 q2,e3,e4,e5] X.env=(false,aw (.Name x1 q1) X.env)::ar [.Name x2 q2,e3,e4,e5] X.env:=by rfl)(s2:ar [.Name x2 q2,e3,e4,e5] X.env=(false,aw (.Name x2 q2) X.env)::ar [e3,e4,e5] X.env:=by rfl)
  (s3:ar [e3,e4,e5] X.env=(false,aw e3 X.env)::ar [e4,e5] X.env:=by rfl)(s4:ar [e4,e5] X.env=(false,aw e4 X.env)::ar [e5] X.env:=by rfl)(s5:ar [e5] X.env=(false,aw e5 X.env)::ar [] X.env:=by rfl)
  (hb1:hU (.Name row p4) "append" X.env (aw (.Name row p4) X.env)=aw (.Name row p4) X.env:=by rfl)
  (hb2:hU (.Subscript (.Name told p6) (.Constant (.int 1) k2 ip2) sp2) "append" X.env (aw (.Subscript (.Name told p6) (.Constant (.int 1) k2 ip2) sp2) X.env)=aw (.Subscript (.Name told p6) (.Constant (.int 1) k2 ip2) sp2) X.env:=by rfl)
  (hf1:((bp cp1 (ar [.Name nm p5] X.env)).all (λx=> !x.1)&&(kR cp1 (kT [] X.env)).all (λx=>x.1.isSome)
   &&decide ([Expr.Name nm p5].length+([]:List eU).length+(if([]:List eU).isEmpty then 0 else 1)<30))=true:=by rfl)
  (hf2:((bp cp2 (ar [.Name nm p7] X.env)).all (λx=> !x.1)&&(kR cp2 (kT [] X.env)).all (λx=>x.1.isSome)
   &&decide ([Expr.Name nm p7].length+([]:List eU).length+(if([]:List eU).isEmpty then 0 else 1)<30))=true:=by rfl)
  (hl1:(ap1.endLine==cp1.line)=true:=by rfl)(hl2:(ap2.endLine==cp2.line)=true:=by rfl)
  (ht1:ar [.Name nm p5] X.env=(false,aw (.Name nm p5) X.env)::ar [] X.env:=by rfl)(ht2:ar [.Name nm p7] X.env=(false,aw (.Name nm p7) X.env)::ar [] X.env:=by rfl)
  (hn1:(bp cp1 (ar [] X.env)).any (·.1)=false:=by rfl)(hn2:(bp cp2 (ar [] X.env)).any (·.1)=false:=by rfl)
  (hs1:fK (.Call (.Attribute (.Name row p4) "append" ap1) [.Name nm p5] [] cp1) none ep1.line X.env=aW false:=by rfl)
  (hs2:fK (.Call (.Attribute (.Subscript (.Name told p6) (.Constant (.int 1) k2 ip2) sp2) "append" ap2) [.Name nm p7] [] cp2) none ep2.line X.env=aW false:=by rfl)
  (ho1:∀v,rJ (.List [.Name x1 q1,.Name x2 q2,e3,e4,e5] lp) X.env v=aW v:=by intro _;rfl)(ho2:∀v,rJ (.Subscript (.Name told p3) (.Constant (.int 1) k1 ip1) sp1) X.env v=aW v:=by intro _;rfl):
  PS X (.For (.Name told p1) (.List [.Name x1 q1,.Name x2 q2,e3,e4,e5] lp) [.For (.Name row p2) (.Subscript (.Name told p3) (.Constant (.int 1) k1 ip1) sp1) [.Expr (.Call (.Attribute (.Name row p4) "append" ap1) [.Name nm p5] [] cp1) ep1] [] fp,.Expr (.Call (.Attribute (.Subscript (.Name told p6) (.Constant (.int 1) k2 ip2) sp2) "append" ap2) [.Name nm p7] [] cp2) ep2] [] pos)
   (tS X.K E λenv=>(xM i1 env).bind λq1=>(xM i2 env).bind λq2=>(f3 env).bind λq3=>(f4 env).bind λq4=>(f5 env).bind λq5=>GQ it io i1 i2 jn env [q1,q2,q3,q4,q5]):=
 oQ (DV hp hc (uV (wy (aS (gx n1 v1 d1 c1) (aS (gx n2 v2 d2 c2) (aS h3 (aS h4 (aS h5 bA s5) s4) s3) s2) s1))) (uT hN nt lt ft)
  (bj (DV hp hc (uV (ja uf (gx nt vt dt ct) jD (λ_ _=>rfl))) (uT hN nr lr fr) (dJ (iO (ug jt n9 og fX (gx nr vr dr cr) (aS (gx nn vn dn cn) bA ht1) hb1 hf1 hl1 ht1 hn1) hs1)) ho2)
   (dJ (iO (ug jt n9 og fX (ja uf (gx nt vt dt ct) jD (λ_ _=>rfl)) (aS (gx nn vn dn cn) bA ht2) hb2 hf2 hl2 ht2 hn2) hs2))) ho1) λDe σ H ⟨g,env,os,r,m⟩=>by
  obtain⟨k1,ns1,e1,m⟩:=m.bind.fos;obtain⟨k2,ns2,e2,m⟩:=m.bind.fos;obtain⟨A,dd⟩:=r.Gk;obtain⟨a1,as1,A1,z1,D1⟩:=dd.dp i1 _ e1;obtain⟨a2,as2,A2,z2,D2⟩:=dd.dp i2 _ e2;refine⟨.ref a1,z1,.ref a2,z2,g,env,os,r,m.bind.mono λq3 _ m a3 H3 s3 nd3=>?_⟩;obtain⟨as3,vQ,D3⟩:=nd3;refine⟨g,env,os,r.same s3,m.bind.mono λq4 _ m a4 H4 s4 nd4=>?_⟩;obtain⟨as4,Ql,D4⟩:=nd4;refine⟨g,env,os,r.same (s3.trans s4),m.bind.mono λq5 _ m a5 H5 s5 nd5=>?_⟩;obtain⟨as5,Iz,D5⟩:=nd5;refine⟨(by show 5<=aH;decide),λL hL=>?_⟩;obtain⟨n,ej,⟨c1,c2,c3,c4,c5,c6⟩,hall,hsz,mp⟩:=m.aaL;have s6:=bF hL (.lst [.ref a1,.ref a2,.ref a3,.ref a4,.ref a5]);have r5:=((r.grow s3 vQ D3).grow s4 Ql D4).grow s5 Iz D5;have r6:=r5.same s6;have t1:C2 H (a1,as1,(k1,ns1)):=C2.of (q:=(k1,ns1)) D1;have t2:C2 H (a2,as2,(k2,ns2)):=C2.of (q:=(k2,ns2)) D2;have t3:=C2.of D3;have t4:=C2.of D4;have t5:=C2.of D5;have s34:=s3.trans s4;have s45:=s4.trans s5;have Ja:=s34.trans s5;have hj:σ[jn]?=aa (aa (.int n)):=by obtain⟨v,w1,w2⟩:=r.val jn _ ej;have w3:v=.int n:=w2;rw[w1,w3]
  have hlen:σ.length=env.length:=r.len;have hLf:∀{e:El},C2 H5 e->L∉AA e:=λd z=>by obtain⟨o,h⟩:=d.there L z;rw[hL]at h;cases h
  have aia:∀x∈AA (a1,as1,(k1,ns1)),x∉AA (a2,as2,(k2,ns2)):=λx hx=>by have:=dd.dj i1 i2 _ _ c4 e1 e2 x (by rw[A1];exact hx);rw[A2]at this;exact this
  have f4':∀x∈a4::as4,H x=none:=λx hx=>s3.free (Ql x hx);have f5':∀x∈a5::as5,H x=none:=λx hx=>s34.free (Iz x hx);have aib:∀x∈a5::as5,H3 x=none:=λx hx=>s4.free (Iz x hx);refine⟨L,rfl,⟨_,fG.of aP⟩,Qj (n:=n) (els:=[(a1,as1,(k1,ns1)),(a2,as2,(k2,ns2)),(a3,as3,q3),(a4,as4,q4),(a5,as5,q5)]) (by rw[hlen];exact c5) (by rw[hlen];exact c6) c1 c2 c3 hj aP ?_ ?_ ?_ ?_ ?_⟩
  ·intro e he
   simp only [aO,jw,or_false]at he;rcases he with rfl|rfl|rfl|rfl|rfl
   ·exact hLf (t1.same Ja)
   ·exact hLf (t2.same Ja)
   ·exact hLf (t3.same s45)
   ·exact hLf (t4.same s5)
   ·exact hLf t5
  ·intro e he
   simp only [aO,jw,or_false]at he;rcases he with rfl|rfl|rfl|rfl|rfl
   ·exact(t1.same Ja).same s6
   ·exact(t2.same Ja).same s6
   ·exact(t3.same s45).same s6
   ·exact(t4.same s5).same s6
   ·exact t5.same s6
  ·intro e he
   have big:∀{x:Nat},x<1000->x<aH:=λh=>cY h (by decide);have:e.2.2∈[(k1,ns1),(k2,ns2),q3,q4,q5]:=by simp only [aO,jw,or_false]at he⊢;rcases he with rfl|rfl|rfl|rfl|rfl<;>simp
   have h:=hsz _ this;exact⟨big h.1,λns hn=>big (h.2 ns hn)⟩
  ·refine .cons (λe he=>?_) (.cons (λe he=>?_) (.cons (λe he=>?_) (.cons (λe he=>?_) (.cons (λe he=>nomatch he) .nil))))
   ·simp only [aO,jw,or_false]at he
    rcases he with rfl|rfl|rfl|rfl
    ·exact aia
    ·exact apart t1 vQ
    ·exact apart t1 f4'
    ·exact apart t1 f5'
   ·simp only [aO,jw,or_false]at he
    rcases he with rfl|rfl|rfl
    ·exact apart t2 vQ
    ·exact apart t2 f4'
    ·exact apart t2 f5'
   ·simp only [aO,jw,or_false]at he
    rcases he with rfl|rfl
    ·exact apart t3 Ql
    ·exact apart t3 aib
   ·simp only [aO,jw,or_false]at he
    subst he;exact apart t4 Iz
  ·intro tv rv H' w1 w2
   have o1:∀x∈a1::as1,x∈os:=λx hx=>(dd.mem e1 x (by rw[A1];exact hx)).1;have o2:∀x∈a2::as2,x∈os:=λx hx=>(dd.mem e2 x (by rw[A2];exact hx)).1;have oo:∀e∈([(a1,as1,(k1,ns1)),(a2,as2,(k2,ns2)),(a3,as3,q3),(a4,as4,q4),(a5,as5,q5)]:List El),∀x∈AA e,x∈(a5::as5)++((a4::as4)++((a3::as3)++os)):=λe he x hx=>by
    simp only [aO,jw,or_false]at he;rcases he with rfl|rfl|rfl|rfl|rfl
    ·exact cK _ (cK _ (cK _ (o1 x hx)))
    ·exact cK _ (cK _ (cK _ (o2 x hx)))
    ·exact cK _ (cK _ (gb _ hx))
    ·exact cK _ (gb _ hx)
    ·exact gb _ hx
   have there:∀x,(∃o,upd H5 L (.lst [.ref a1,.ref a2,.ref a3,.ref a4,.ref a5]) x=aa o)->∃o,H' x=aa o:=λx hx=>by
    by_cases z:∀e∈([(a1,as1,(k1,ns1)),(a2,as2,(k2,ns2)),(a3,as3,q3),(a4,as4,q4),(a5,as5,q5)]:List El),x∉AA e
    ·rw[w1 x z];exact hx
    ·exact jU λhq=>z λe he hxe=>hq (w2 e he x hxe)
   have hs:∀a,a∉(a5::as5)++((a4::as4)++((a3::as3)++os))->H' a=upd H5 L (.lst [.ref a1,.ref a2,.ref a3,.ref a4,.ref a5]) a:=λa ha=>w1 a λe he hx=>ha (oo e he a hx);have rm:=r6.aaL (H':=H') (env':=EO it io i1 i2 env) (σ':=(σ.set it tv).set io rv) (by unfold EO;simp[hlen]) hs (λa ha=>there a (r6.new a ha).2) λj sl e=>by
    rcases Qk hall e with z|⟨d,z1,z2,z3,z4⟩
    ·exact .inl z
    ·exact .inr ⟨d,z1,z2,by rw[aJ z4,aJ z3]⟩
   have s06:=Ja.trans s6;refine(show jd X.K g H os De (.nx _)from mp) _ H' _ rm ⟨λa ha=>?_,λa ha=>?_,λa o hn hx=>?_⟩
   ·rcases b8.mp ha with z|z
    ·exact .inr (f5' a z)
    ·rcases b8.mp z with z|z
     ·exact .inr (f4' a z)
     ·rcases b8.mp z with z|z
      ·exact .inr (vQ a z)
      ·exact .inl z
   ·cases hq:H a with
    |none=>rfl
    |some o=>
     obtain⟨o',h'⟩:=there a ⟨o,s06 a o hq⟩;rw[ha]at h';cases h'
   ·rw[hs a λz=>?_]
    ·exact s06 a o hx
    ·rcases b8.mp z with z|z
     ·rw[f5' a z]at hx;cases hx
     ·rcases b8.mp z with z|z
      ·rw[f4' a z]at hx;cases hx
      ·rcases b8.mp z with z|z
       ·rw[vQ a z]at hx;cases hx
       ·exact hn z
def LH(ix:Nat)(env:DE)(q:Fm):R Out:= @ite _ (q.2.length<1000) (dM _) (.ok (.nx (env.set ix .no))) .bad
def aaQ(ix:Nat){x:Str}{ei e:ao}{fi f:DE->R D}{p Qe apos cO:Pos}(hi:PE X ei (tB X.K E fi))(he:PE X e (tD X.K E f))(hN:X.N[ix]?=aa x:=by rfl)(hv:yF X.env.scope x:=by omega)(hd:(x==("__debug__":Str))=false:=by decide)
  (hcd:(x==("__classdict__":Str))=false:=by decide)(hpi:rN ei:=by exact λ_ _=>rfl)
  (hbase:hU (.Subscript (.Name x p) ei Qe) "append" X.env (aw (.Subscript (.Name x p) ei Qe) X.env)=aw (.Subscript (.Name x p) ei Qe) X.env:=by rfl)
  (hfew:((bp cO (ar [e] X.env)).all (λx=> !x.1)&&(kR cO (kT [] X.env)).all (λx=>x.1.isSome)
   &&decide ([e].length+([]:List eU).length+(if([]:List eU).isEmpty then 0 else 1)<30))=true:=by rfl)
  (hline:(apos.endLine==cO.line)=true:=by rfl)(hst:ar [e] X.env=(false,aw e X.env)::ar [] X.env:=by rfl)(hplain:(bp cO (ar [] X.env)).any (·.1)=false:=by rfl)
  (hs:fK (.Call (.Attribute (.Subscript (.Name x p) ei Qe) "append" apos) [e] [] cO) none pos.line X.env=aW false:=by rfl):
  PS X (.Expr (.Call (.Attribute (.Subscript (.Name x p) ei Qe) "append" apos) [e] [] cO) pos) (tS X.K E λenv=>(xM ix env).bind λq=>(fi env).bind λa=>(xJ a).bind λ_=>(f env).bind λ_=>LH ix env q):=
 oQ (iO (ug jt n9 og fX (ja uf (gx hN hv hd hcd) hi hpi) (aS he bA hst) hbase hfew hline hst hplain) hs) λDe σ H ⟨g,env,os,r,m⟩=>by
  obtain⟨k,nss,e1,m2⟩:=m.bind.fos;obtain⟨A,dd⟩:=r.Gk;obtain⟨a,as,hA,q1,mm,bs,rfl,t1,t2,q2,t3⟩:=dd.dp ix _ e1;refine⟨.ref a,q1,g,env,os,r,m2.bind.mono λda _ m3 w H2 s2 i2=>?_⟩;obtain⟨rfl,m4⟩:=m3.bind.one;have iw:w=.int 1:=i2;have q3:=t3.ha;refine⟨a,[.int k,.ref mm],1,.ref mm,rfl,iw,Ck.of (s2 _ _ q2),rfl,.inl ⟨rfl,_,fG.of (s2 _ _ q3)⟩,g,env,os,r.same s2,m4.bind.mono λd _ m5 v H3 s3 i3=>?_⟩;unfold LH at m5;split at m5
  ·rename_i hl
   have r3:=r.same (s2.trans s3);have hb3:=s3 _ _ (s2 _ _ q3);have ha3:=s3 _ _ (s2 _ _ q2);obtain⟨qC,r4⟩:=r3.aej (b:=mm) (o:=.lst (bs.map V.ref++[v])) e1 q1 (λas' h=>by obtain⟨m',bs',z0,z1,z2,z3,_⟩:=h;rw[ha3]at z3;injection z3 with z3;injection z3 with z3;injection z3 with _ z3;injection z3 with z3 _;injection z3 with z3;subst z3;rw[z0];simp)
   refine⟨mm,bs.map V.ref,v,rfl,rfl,hb3,by rw[aG,t3.len];exact cY hl (by decide),?_⟩;exact(show jd X.K g H os De (.nx _)from m5) σ _ os r4 ((yA.same (s2.trans s3) os).trans (.mut qC))
  ·exact m5.elim
end
noncomputable def Bu(env:DE):R Out:=
 ((((((((cB 0 env>=>λkK=>R.ok (D.int 1000003)>=>λqD=>R.of (uh kK qD))>=>λqN=>R.ok (D.int 7)>=>λpI=>R.of (Nz qN pI))>=>λv10=>(cB 1 env>=>λqT=>cB 1 env>=>λtV=>R.of (Nz qT tV))>=>λv11=>R.of (nq v10 v11))>=>λv8=>R.ok (D.int 1)>=>λv9=>R.of (nq v8 v9))>=>λv6=>cB 2 env>=>λv7=>R.of (Nz v6 v7))>=>λv4=>R.ok (D.int 2147483647)>=>λv5=>R.of (uh v4 v5))>=>λv2=>R.ok (D.int 16)>=>λv3=>R.of (Gn v2 v3))>=>λv1=>R.ok (Out.rt v1))
def iA:=mS 3 3 Bu
noncomputable def uk(env:DE):R Out:=
 (cJ (((cB 1 env>=>λv4=>R.ok (D.int 1)>=>λv5=>R.of (CW v4 v5)>=>nk)>=>λv3=>if v3=true then((cB 0 env>=>λv8=>R.ok (D.int 13)>=>λv9=>R.of (uh v8 v9))>=>λv6=>R.ok (D.int 5)>=>λv7=>R.of (CW v6 v7)>=>nk)else R.ok false)>=>λv2=>if v2=true then(R.ok (D.int 1)>=>λv10=>R.ok (Out.rt v10))else(R.ok (Out.nx env))) λv1=>
 (cJ (((R.ok (D.int 2)>=>λkK=>(cB 1 v1>=>λqT=>R.ok []>=>λtV=>R.ok (qT::tV))>=>λqD=>R.ok (kK::qD))>=>λpI=>R.of (K4 pI))>=>λqN=>R.ok (Out.nx (List.set v1 1 (Sl.val qN)))) λv11=>
 ((cB 1 v11>=>λtj=>((cB 0 v11>=>λyE=>R.ok (D.int 13)>=>λxO=>R.of (Gn yE xO))>=>λxP=>((cB 2 v11>=>λCB=>cB 1 v11>=>λGR=>R.of (n8 CB GR))>=>λzU=>R.ok (D.int 1)>=>λBv=>R.of (nq zU Bv))>=>λqO=>R.of (uh xP qO))>=>λv20=>R.of (nq tj v20))>=>λum=>R.ok (Out.rt um))))
def jf:=mS 3 3 uk
noncomputable def tm(env:DE):R Out:=
 (cJ ((R.ok (D.int 1)>=>λv3=>(cB 0 env>=>λv5=>(cB 1 env>=>λv7=>R.ok (D.int 1)>=>λv8=>R.of (n8 v7 v8))>=>λv6=>R.of (uh v5 v6))>=>λv4=>R.of (nq v3 v4))>=>λv2=>R.ok (Out.nx (List.set env 2 (Sl.val v2)))) λv1=>
 (cJ ((((cB 0 v1>=>λqD=>R.ok (D.int 8)>=>λqT=>R.of (Gn qD qT))>=>λpI=>R.ok (D.int 2)>=>λkK=>R.of (uh pI kK))>=>λv11=>R.ok (D.int 1)>=>λqN=>R.of (CW v11 qN)>=>nk)>=>λv10=>if v10=true then((cB 2 v1>=>λum=>R.of (xt um))>=>λtV=>R.ok (Out.rt tV))else(R.ok (Out.nx v1))) λv9=>
 (dU 2 v9>=>λtj=>R.ok (Out.rt tj))))
def iD:=mS 2 3 tm
noncomputable def xQ(env:DE):R Out:=
 (cJ (((cB 0 env>=>λv3=>(cB 1 env>=>λv5=>R.ok []>=>λv6=>R.ok (v5::v6))>=>λv4=>R.ok (v3::v4))>=>iD)>=>λv2=>R.ok (Out.nx (List.set env 2 (Sl.val v2)))) λv1=>
 (cJ (((((cB 0 v1>=>λkK=>R.ok (D.int 16)>=>λqD=>R.of (Gn kK qD))>=>λqN=>R.ok (D.int 4)>=>λpI=>R.of (uh qN pI))>=>λv10=>R.ok (D.int 0)>=>λv11=>R.of (K1 v10 v11)>=>nk)>=>λv9=>if v9=true then R.ok true else(cB 1 v1>=>λqT=>R.ok (D.int 3)>=>λtV=>R.of (UE qT tV)>=>nk))>=>λv8=>if v8=true then((((dU 2 v1>=>λv20=>R.ok []>=>λxP=>R.ok (v20::xP))>=>fit)>=>λtj=>R.ok (D.lst tj))>=>λum=>R.ok (Out.rt um))else(R.ok (Out.nx v1))) λv7=>
 (cJ (((((((cB 2 v7>=>λQm=>R.ok (D.int 1)>=>λVO=>R.of (nq Qm VO))>=>λGU=>R.ok []>=>λv30=>R.ok (GU::v30))>=>λGR=>R.of (Po GR))>=>λBv=>cB 1 v7>=>λCB=>R.of (UE Bv CB)>=>nk)>=>λzU=>if zU=true then((cB 2 v7>=>λVP=>R.ok (D.int 1)>=>λNN=>R.of (nq VP NN))>=>λVQ=>R.ok (D.int 0)>=>λGV=>R.of (zE VQ GV)>=>nk)else R.ok false)>=>λxO=>if xO=true then(cB 2 v7>=>λVR=>R.ok (D.int 1)>=>λYw=>R.of (nq VR Yw))else(cB 2 v7>=>λNP=>R.ok (D.int 1)>=>λYx=>R.of (n8 NP Yx)))>=>λyE=>R.ok (Out.nx (List.set v7 3 (Sl.val yE)))) λqO=>
 (((((((dU 2 qO>=>λVS=>(dU 3 qO>=>λVU=>(dU 2 qO>=>λQn=>R.ok []>=>λSH=>R.ok (Qn::SH))>=>λVV=>R.ok (VU::VV))>=>λVW=>R.ok (VS::VW))>=>fit)>=>λVX=>R.ok (D.lst VX))>=>λSJ=>((((dU 2 qO>=>λv56=>(dU 3 qO>=>λv58=>R.ok []>=>λv59=>R.ok (v58::v59))>=>λQo=>R.ok (v56::Qo))>=>fit)>=>λv55=>R.ok (D.lst v55))>=>λv53=>((((dU 2 qO>=>λv63=>(dU 2 qO>=>λv65=>R.ok []>=>λv66=>R.ok (v65::v66))>=>λNQ=>R.ok (v63::NQ))>=>fit)>=>λv62=>R.ok (D.lst v62))>=>λv60=>((((dU 2 qO>=>λv70=>((cB 3 qO>=>λv74=>R.of (xt v74))>=>λv72=>(dU 2 qO>=>λv75=>R.ok []>=>λv76=>R.ok (v75::v76))>=>λv73=>R.ok (v72::v73))>=>λv71=>R.ok (v70::v71))>=>fit)>=>λv69=>R.ok (D.lst v69))>=>λv67=>R.ok []>=>λv68=>R.ok (v67::v68))>=>λQp=>R.ok (v60::Qp))>=>λv54=>R.ok (v53::v54))>=>λVY=>R.ok (SJ::VY))>=>fit)>=>λOA=>((cB 0 qO>=>λv79=>R.ok (D.int 64)>=>λv80=>R.of (Gn v79 v80))>=>λv77=>R.ok (D.int 4)>=>λv78=>R.of (uh v77 v78))>=>λJb=>Gs OA Jb)>=>λv41=>R.ok (Out.rt v41)))))
def lB:=mD 2 4 xQ
noncomputable def nH(d:D)(env:DE):R Out:=
 (bT 2 (qg (bN 4) (qg (bN 5) EC))) d env>=>λv8=>
  ((cB 1 v8>=>λv10=>R.ok (D.int 1)>=>λv11=>R.of (K1 v10 v11)>=>nk)>=>λv9=>if v9=true then(((qQ 3 v8>=>λkK=>(((((cB 5 v8>=>λum=>(cB 4 v8>=>λv20=>(R.ok (D.int 48271)>=>λqO=>R.ok []>=>λyE=>R.ok (qO::yE))>=>λxP=>R.ok (v20::xP))>=>λtj=>R.ok (um::tj))>=>iA)>=>λqT=>(dU 1 v8>=>λxO=>R.ok []>=>λzU=>R.ok (xO::zU))>=>λtV=>R.ok (qT::tV))>=>lB)>=>yB)>=>λqD=>fit (kK++qD))>=>λpI=>R.ok (D.lst pI))>=>λqN=>R.ok (Out.nx (List.set v8 3 (Sl.val qN))))else(R.ok (Out.nx v8)))
noncomputable def xR(env:DE):R Out:=
 (cJ (((R.ok []>=>fit)>=>λv3=>R.ok (D.lst v3))>=>λv2=>R.ok (Out.nx (List.set env 3 (Sl.val v2)))) λv1=>
 (cJ ((dU 0 v1>=>λBv=>yB Bv>=>λxs=>R.ok (je xs))>=>λv5=>lT nH v5 v1) λv4=>
 ((qQ 3 v4>=>λGR=>R.ok none>=>λGU=>(cB 2 v4>=>Sx)>=>λv30=>R.ok (cut GR GU v30))>=>λCB=>R.ok (Out.vm CB))))
def lC:=dZ 3 6 xR
def GW(c k f:Int):Int:=(c%1000003*7+k*k+1)*f%2147483647/16
def Jc(c k f:Int)(hk:0<=k/\k<1000000)(hf:0<=f/\f<2147483647):iA [.int c,.int k,.int f]=.ok (.int (GW c k f)):=by have h1:=xS c (show(1000003:Int)≠0 by decide);have h2:=AB c (show(0:Int)<1000003 by decide);unfold iA Bu;dsimp [mS,mD,mF,dZ,aT,reduceAdd,reduceSub,reduceEqDiff];rw[lj c 1000003 (by decide)];simp_all only [R.pY,R.cD];rw[IW _ 7 (.inr (by decide))];simp_all only [R.pY,R.cD];rw[IW k k (.inl (by lia))];simp_all only [R.pY,R.cD,EA];rw[IW _ f (.inr (by lia))];simp_all only [R.pY,R.cD];rw[lj _ 2147483647 (by decide)];simp_all only [R.pY,R.cD];rw[Bk _ 16 (by decide)];rfl
def qU(s:Int):Int:=if s%13=5 then 1 else 2+s/13%6
def Jd(s:Int):jf [.int s,.int 1,.int 7]=.ok (.int (qU s)):=by
 unfold jf uk qU;dsimp [mS,mD,mF,dZ,aT,reduceAdd,reduceSub,reduceEqDiff];rw[lj s 13 (by decide)];dsimp [beq_self_eq_true]
 by_cases h:s%13=5
 ·dsimp [h,beq_self_eq_true]
 ·have h':(s%13==5)=false:=beq_false_of_ne h
  dsimp [h',h];rw[Bk s 13 (by decide)];dsimp;rw[lj _ _ (by decide)];rfl
def GX(s:Int):1<=qU s/\qU s<=7:=by unfold qU;split<;>lia
def iI(x n:Int):Int:=if x/8%2=1 then-(1+x%(n-1))else 1+x%(n-1)
def Qq(x n:Int)(h:2<=n):iD [.int x,.int n]=.ok (.int (iI x n)):=by
 unfold iD tm iI;dsimp [mS,mD,mF,dZ,aT,reduceAdd,reduceSub,reduceEqDiff];rw[lj x (n-1) (by lia)];dsimp;rw[Bk x 8 (by decide)];dsimp;rw[lj _ 2 (by decide)];dsimp
 by_cases hc:x/8%2=1
 ·dsimp [hc,beq_self_eq_true]
 ·have OG:(x/8%2==1)=false:=beq_false_of_ne hc
  dsimp [hc,OG]
def gZ(n k:Int):Prop:=k≠0/\ -n<k/\k<n
def Qs(x n:Int)(h:2<=n):gZ n (iI x n):=by unfold iI gZ;have h1:=xS x (show n-1≠0 by lia);have h2:=AB x (show 0<n-1 by lia);split<;>lia
def yV(k n:Int):Int:=if(if k+1<0 then-(k+1)else k+1)<n/\k+1≠0 then k+1 else k-1
def uo(x n:Int):List Int:=
 if x/16%4>0\/n<3 then[iI x n]else
  let k:=iI x n;let o:=yV k n
  if x/64%4=0 then[k,o,k]else if x/64%4=1 then[k,o]else if x/64%4=2 then[k,k]else[k,-o,k]
def Qt{k n:Int}(h:3<=n)(hk:gZ n k):gZ n (yV k n):=by unfold yV gZ at*;split<;>split at* <;>lia
def Qu{x n:Int}(h:2<=n):∀k∈uo x n,gZ n k:=by
 have h1:=Qs x n h;unfold uo;split
 ·simp[h1]
 ·rename_i hc
  have h2:=Qt (n:=n) (by lia) h1;have h3:gZ n (-yV (iI x n) n):=by unfold gZ at*;lia
  dsimp only;split
  ·simp[h1,h2]
  ·split
   ·simp[h1,h2]
   ·split<;>simp[h1,h3]
def C3(x n:Int):(uo x n).length<=3:=by
 unfold uo;split
 ·simp
 ·dsimp only
  split
  ·simp
  ·split
   ·simp
   ·split<;>simp
def Qw(x n:Int)(h:2<=n):lB [.int x,.int n]=.ok (.lst (bK (uo x n))):=by
 unfold lB xQ uo;dsimp [mS,mD,mF,dZ,aT,reduceAdd,reduceSub,reduceEqDiff];rw[Qq x n h];dsimp;rw[Bk x 16 (by decide)];dsimp;rw[lj _ 4 (by decide)];dsimp
 by_cases h1:0<x/16%4
 ·have h1':x/16%4>0\/n<3:=.inl h1
  rw[if_pos h1'];dsimp [h1,decide_true];rfl
 ·by_cases h2:n<3
  ·have h1':x/16%4>0\/n<3:=.inr h2
   rw[if_pos h1'];dsimp [h1,h2,decide_true,decide_false];rfl
  ·have h1':¬(x/16%4>0\/n<3):=by lia
   rw[if_neg h1'];dsimp [h1,h2,decide_false];have ho:((if decide ((if iI x n+1<0 then-(iI x n+1)else iI x n+1)<n)=true then R.ok (!(iI x n+1==0))else R.ok false)>=>λt=>if t=true then R.ok (D.int (iI x n+1))else R.ok (D.int (iI x n-1)))=R.ok (D.int (yV (iI x n) n)):=by
    unfold yV
    by_cases c1:(if iI x n+1<0 then-(iI x n+1)else iI x n+1)<n
    ·by_cases c2:iI x n+1=0
     ·simp[c1,c2,R.cD]
     ·simp[c1,c2,R.cD]
    ·simp[c1,R.cD]
   rw[ho];dsimp [mS,mD,mF,dZ,aT,reduceAdd,reduceSub,reduceEqDiff];rw[Bk x 64 (by decide)];dsimp;rw[lj _ 4 (by decide)];dsimp;have h5:=xS (x/64) (show(4:Int)≠0 by decide);have h6:=AB (x/64) (show(0:Int)<4 by decide);have h7:x/64%4=0\/x/64%4=1\/x/64%4=2\/x/64%4=3:=by lia
   rcases h7 with q|q|q|q<;>simp[q,L2.kU,L2.wN,R.pY,R.cD,R.Pu,aK,bK]
def kL(n:Int)(cells:List Int)(i:Nat):List Int:=((bZ i).map λk=>match cells[k]? with
 |some c=>uo (GW c k 48271) n
 |none=>[]).flatten
def Qx{n:Int}{cells:List Int}{i:Nat}{c:Int}(h:cells[i]?=aa c):kL n cells (i+1)=kL n cells i++uo (GW c i 48271) n:=by unfold kL;rw[LJ,b7,ER];simp[h]
theorem LK(n:Int)(cells:List Int):∀i:Nat,(kL n cells i).length<=3*i
 |0=>by simp[kL]
 |i+1=>by
  unfold kL;rw[LJ,b7,ER,b9];have ih:=LK n cells i;unfold kL at ih;cases h:cells[i]? with
  |none=>simp_all only [h,bu,pU,fM,ES,b9,gJ];lia
  |some c=>
   have:=C3 (GW c i 48271) n;simp_all only [h,bu,pU,fM,ES,b9,gJ];lia
def aba{n:Int}(hn:2<=n)(cells:List Int)(i:Nat):∀k∈kL n cells i,gZ n k:=by
 intro k hk;unfold kL at hk;rw[List.mem_flatten]at hk;obtain⟨l,hl,hk⟩:=hk;rw[dh]at hl;obtain⟨j,_,rfl⟩:=hl;cases h:cells[j]? with
 |none=>rw[h]at hk;cases hk
 |some c=>rw[h]at hk;exact Qu hn k hk
def Bw(cells:List Int)(n most:Int):List Int:=(if 1<n then kL n cells cells.length else[]).take most.toNat
def GY{cells:List Int}{n most:Int}:∀k∈Bw cells n most,gZ n k:=by
 intro k hk;unfold Bw at hk;have:=AD hk;split at this
 ·exact aba (by lia) _ _ k this
 ·cases this
def GZ(cells:List Int)(n most:Int)(hc:cells.length<=1000)(hn:1<=n)(hm:0<=most):lC [.lst (bK cells),.int n,.int most]=.ok (bK (Bw cells n most)):=by
 unfold lC xR;dsimp [mS,mD,mF,dZ,aT,reduceAdd,reduceSub,reduceEqDiff];obtain⟨s',e,hj⟩:=yU (S:=List Int×Sl×Sl) (b:=nH)
  (λi s=>s.1=if 1<n then kL n cells i else[]) (λs=>[.val (.lst (bK cells)),.val (.int n),.val (.int most),.val (.lst (bK s.1)),s.2.1,s.2.2]) (je (bK cells)) 0 ([],.no,.no) (by simp[kL]) (by
   rintro j ⟨wd,s4,s5⟩ x hs hx;obtain⟨c,hcj,rfl⟩:=C0 hx;have hj:j<cells.length:=(bz.mp hcj).1;rw[jv]at hs⊢;have hs':wd=if 1<n then kL n cells j else[]:=hs;unfold nH;dsimp [mS,mD,mF,dZ,aT,reduceAdd,reduceSub,reduceEqDiff,bT2]
   by_cases h1:1<n
   ·rw[if_pos h1]at hs'
    subst hs';have hl:=LK n cells j;have hl2:=C3 (GW c j 48271) n;refine⟨(kL n cells (j+1),.val (.int (j:Nat)),.val (.int c)),?_,by simp[h1]⟩;dsimp [h1,decide_true];rw[Jc c j 48271 (by lia) (by decide)];dsimp;rw[Qw _ n (by lia)];dsimp [vx];rw[gM (by rw[b9];lia)];dsimp [Qx hcj]
   ·rw[if_neg h1]at hs'
    subst hs';exact⟨([],.val (.int (j:Nat)),.val (.int c)),by dsimp [h1,decide_false],by simp[h1]⟩)
 obtain⟨wd,s4,s5⟩:=s';have Je:wd=if 1<n then kL n cells (0+(je (bK cells)).length)else[]:=hj;have he:(je (bK cells)).length=cells.length:=by rw[NH,cZ]
 rw[jv,he]at Je;rw[show bK []=[]from rfl]at e;rw[e];dsimp [qd];rw[Bo _ _ hm,nS];dsimp [Je];rfl
def LL{w:List Int}{j:Nat}{x:D}(h:(bK w)[j]?=aa x):∃k,w[j]?=aa k/\x=.int k:=by
 rw[Vh]at h;cases q:w[j]? with
 |none=>rw[q]at h;cases h
 |some k=>rw[q]at h;cases h;exact⟨k,rfl,rfl⟩
def G0{α:Type}{w:List α}{j:Nat}{k:α}(h:w[j]?=aa k):w.take (j+1)=w.take j++[k]:=by rw[AE,h];rfl
def aeB{K:ak}{H:Hp}{a:ae}{m:List D->R D}{ns:List Int}(h:m [.lst (bK ns)]=.ok (.bl true))(hS:fG K H a (ns.map V.int)):K5 K Oz m [.ref a] H (λv _=>v=.bl true) λ_ _ _=>False:=by
 refine⟨Tr,[.lst (bK ns)],IsL.one ⟨a,_,rfl,zP.any hS,?_⟩,?_⟩
 ·clear h hS
  induction ns with
  |nil=>rfl
  |cons x r ih=>exact⟨_,_,rfl,rfl,ih⟩
 ·rw[h]
  intro v H' _ i;exact i
def G1(env:DE):R Bool:=
 R.ok true
def G2(env:DE):R D:=
 (cB 0 env>=>λv6=>R.of (xt v6))
def G3(env:DE):R Out:=
 (((dU 0 env>=>λv7=>yB v7>=>λxs=>R.ok (reverse xs))>=>λv2=>ik env []>=>λv3=>R.ne (dO (bN 0) G1 G2 (lV 1 v3) v2)>=>fit)>=>λv1=>R.ok (Out.vm v1))
def uq:=dZ 1 1 G3
noncomputable def rY(d:D)(env:DE):R Out:=
 (bN 2) d env>=>λv7=>
  (((((cB 1 v7>=>λpI=>R.ok []>=>λkK=>R.ok (pI::kK))>=>λqN=>R.of (wB qN))>=>λv10=>R.ok (D.int 0)>=>λv11=>R.of (K1 v10 v11)>=>nk)>=>λv9=>if v9=true then((qQ 1 v7>=>λtV=>(R.ok (D.int 1)>=>λtj=>R.of (xt tj))>=>λum=>Gs tV um)>=>λqD=>(cB 2 v7>=>λv20=>R.of (xt v20))>=>λqT=>R.of (CW qD qT)>=>nk)else R.ok false)>=>λv8=>if v8=true then(ownAt 1 v7>=>λxP=>aas 1 v7 xP)else(ownAt 1 v7>=>λqO=>dU 2 v7>=>λyE=>aar 1 v7 qO yE))
def C4(env:DE):R Out:=
 (cJ ((R.ok []>=>fit)>=>λv2=>R.ok (Out.nx (List.set env 1 (Sl.own v2)))) λv1=>
 (cJ ((dU 0 v1>=>yB)>=>λv4=>lT rY v4 v1) λv3=>
 (ownAt 1 v3>=>λxO=>R.ok (Out.vm xO))))
def qV:=dZ 1 3 C4
def Bx(env:DE):R Out:=
 (((cB 0 env>=>λv2=>R.ok []>=>λv3=>R.ok (v2::v3))>=>rW)>=>λv1=>R.ok (Out.vm v1))
def dA:=dZ 1 1 Bx
noncomputable def Qy(env:DE):R Out:=
 ((((cB 0 env>=>λv4=>R.ok (D.int 1)>=>λv5=>R.of (n8 v4 v5))>=>λv2=>((R.ok (D.int 1)>=>λv8=>R.of (xt v8))>=>λv6=>((R.ok (D.int 1)>=>λv11=>R.of (xt v11))>=>λv9=>R.ok []>=>λv10=>R.ok (v9::v10))>=>λv7=>R.ok (v6::v7))>=>λv3=>R.ok (v2::v3))>=>P9)>=>λv1=>R.ok (Out.vm v1))
def By:=dZ 1 1 Qy
def oZ(d:D)(env:DE):R Out:=
 (bT 2 (qg (bN 2) (qg (bN 3) EC))) d env>=>λkK=>
  (dU 2 kK>=>λqD=>ownAt 1 kK>=>λqT=>cB 3 kK>=>λtV=>GD 1 kK qD qT tV)
noncomputable def zF(env:DE):R Out:=
 (cJ ((((R.ok (D.int 0)>=>λv5=>R.ok []>=>λv6=>R.ok (v5::v6))>=>fit)>=>λv3=>((cB 0 env>=>λv8=>R.ok []>=>λv9=>R.ok (v8::v9))>=>λv7=>R.of (wB v7))>=>λv4=>U6 v3 v4)>=>λv2=>R.ok (Out.nx (List.set env 1 (Sl.own v2)))) λv1=>
 (cJ ((dU 0 v1>=>λum=>yB um>=>λxs=>R.ok (je xs))>=>λv11=>lT oZ v11 v1) λv10=>
 (ownAt 1 v10>=>λtj=>R.ok (Out.vm tj))))
def fg:=dZ 1 4 zF
def BA(env:DE):R Bool:=
 ((qQ 1 env>=>λv8=>(cB 0 env>=>λv10=>R.ok (D.int 1)>=>λv11=>R.of (n8 v10 v11))>=>λv9=>Gs v8 v9)>=>λv6=>(qQ 1 env>=>λqN=>cB 0 env>=>λpI=>Gs qN pI)>=>λv7=>R.of (K1 v6 v7)>=>nk)
def BC(env:DE):R D:=
 (dU 0 env)
noncomputable def LM(env:DE):R Out:=
 ((((R.ok (D.int 1)>=>λkK=>(((cB 0 env>=>λtj=>R.ok []>=>λv20=>R.ok (tj::v20))>=>λum=>R.of (wB um))>=>λqT=>R.ok []>=>λtV=>R.ok (qT::tV))>=>λqD=>R.ok (kK::qD))>=>ND)>=>λv2=>ik env [0]>=>λv3=>R.ne (dO (bN 0) BA BC (lV 1 v3) v2)>=>fit)>=>λv1=>R.ok (Out.vm v1))
def vA:=dZ 1 1 LM
noncomputable def lD(env:DE):R Out:=
 ((((qQ 0 env>=>λv6=>R.ok none>=>λv7=>((cB 1 env>=>λv9=>R.ok (D.int 1)>=>λv10=>R.of (n8 v9 v10))>=>Sx)>=>λv8=>R.ok (cut v6 v7 v8))>=>λv4=>(((qQ 0 env>=>λpI=>cB 1 env>=>λkK=>Gs pI kK)>=>λv11=>((qQ 0 env>=>λtV=>(cB 1 env>=>λtj=>R.ok (D.int 1)>=>λv20=>R.of (n8 tj v20))>=>λum=>Gs tV um)>=>λqD=>R.ok []>=>λqT=>R.ok (qD::qT))>=>λqN=>R.ok (v11::qN))>=>fit)>=>λv5=>fit (v4++v5))>=>λv2=>(qQ 0 env>=>λxP=>((cB 1 env>=>λxO=>R.ok (D.int 1)>=>λzU=>R.of (nq xO zU))>=>Sx)>=>λqO=>R.ok none>=>λyE=>R.ok (cut xP qO yE))>=>λv3=>fit (v2++v3))>=>λv1=>R.ok (Out.vm v1))
def cg:=dZ 2 2 lD
def yW(env:DE):R Bool:=
 R.ok true
def qW(env:DE):R D:=
 ((((cB 1 env>=>λv11=>R.ok []>=>λqN=>R.ok (v11::qN))>=>λv10=>R.of (wB v10))>=>λv8=>R.ok (D.int 1)>=>λv9=>R.of (n8 v8 v9))>=>λv6=>cB 0 env>=>λv7=>R.of (n8 v6 v7))
def wc(env:DE):R Out:=
 (((dU 0 env>=>λpI=>yB pI>=>λxs=>R.ok (reverse xs))>=>λv2=>ik env [0]>=>λv3=>R.ne (dO (bN 0) yW qW (lV 1 v3) v2)>=>fit)>=>λv1=>R.ok (Out.vm v1))
def jH:=dZ 1 1 wc
def oi(d:D)(env:DE):R Out:=
 (bN 2) d env>=>λv7=>
  (dU 1 v7>=>λv8=>(R.ok (D.int 1)>=>λv10=>(cB 2 v7>=>λqN=>R.ok (D.int 1)>=>λpI=>R.of (n8 qN pI))>=>λv11=>R.of (Vw v10 v11))>=>λv9=>NG (λi j=>PySem.Builtin.bitOr i j) 1 v7 v8 v9)
def C5(env:DE):R Out:=
 (cJ (R.ok (D.int 0)>=>λv2=>R.ok (Out.nx (List.set env 1 (Sl.val v2)))) λv1=>
 (cJ ((dU 0 v1>=>yB)>=>λv4=>lT oi v4 v1) λv3=>
 (dU 1 v3>=>λkK=>R.ok (Out.rt kK))))
def qX:=mS 1 3 C5
noncomputable def ur(env:DE):R Out:=
 (cJ ((cB 1 env>=>λv3=>((cB 0 env>=>λv6=>R.ok []>=>λv7=>R.ok (v6::v7))>=>λv5=>R.of (wB v5))>=>λv4=>R.of (UE v3 v4)>=>nk)>=>λv2=>if v2=true then((qQ 0 env>=>λv9=>cB 1 env>=>λv10=>Gs v9 v10)>=>λv8=>R.ok (Out.rt v8))else(R.ok (Out.nx env))) λv1=>
 (R.ok (D.int 0)>=>λv11=>R.ok (Out.rt v11)))
def gR:=mS 2 2 ur
def BD(env:DE):R Bool:=
 R.ok true
def uu(env:DE):R D:=
 (cB 0 env>=>λv6=>R.of (xt v6))
def zG(env:DE):R Out:=
 (((dU 0 env>=>λv7=>yB v7>=>λxs=>R.ok (reverse xs))>=>λv2=>ik env []>=>λv3=>R.ne (dO (bN 0) BD uu (lV 1 v3) v2)>=>fit)>=>λv1=>R.ok (Out.vm v1))
def kC:=dZ 1 1 zG
def xT(env:DE):R Bool:=
 ((((cB 0 env>=>λQo=>IS "int" Qo)>=>nk)>=>λv56=>R.ok (!v56))>=>λv55=>if v55=true then R.ok true else((cB 0 env>=>λv58=>IS "bool" v58)>=>nk))
def xU(env:DE):R D:=
 (dU 0 env)
noncomputable def iU(d:D)(env:DE):R Out:=
 (bN 4) d env>=>λOB=>
  (((cB 2 OB>=>λv89=>R.ok D.non>=>λv90=>R.of (GA v89 v90)>=>nk)>=>λv88=>if v88=true then(((qQ 3 OB>=>λv94=>(cB 4 OB>=>λv96=>R.ok (D.int 1)>=>λv97=>R.of (n8 v96 v97))>=>λv95=>uj v94 v95)>=>λv92=>(qQ 3 OB>=>λv98=>cB 4 OB>=>λv99=>uj v98 v99)>=>λv93=>R.of (K1 v92 v93)>=>nk)>=>λv91=>if v91=true then((dU 2 OB>=>λabd=>(cB 4 OB>=>λabe=>R.ok (D.int 1)>=>λabf=>R.of (n8 abe abf))>=>λabg=>wO abd abg)>=>λabh=>(dU 2 OB>=>λabi=>cB 4 OB>=>λabj=>wO abi abj)>=>λabk=>R.of (UE abh abk)>=>nk)else R.ok false)else R.ok false)>=>λv87=>if v87=true then(R.ok (D.bl false)>=>λabl=>R.ok (Out.rt abl))else(R.ok (Out.nx OB)))
noncomputable def iW(d:D)(env:DE):R Out:=
 (bN 3) d env>=>λOA=>
  (cJ (((((cB 3 OA>=>λVS=>IS "list" VS)>=>nk)>=>λVX=>R.ok (!VX))>=>λVY=>if VY=true then R.ok true else((((dU 3 OA>=>yB)>=>λQn=>ik OA []>=>λSH=>R.ne (dO (bN 0) xT xU (lV 1 SH) Qn)>=>fit)>=>λVV=>R.ok (D.lst VV))>=>λVW=>((R.ok []>=>fit)>=>λv59=>R.ok (D.lst v59))>=>λVU=>R.of (zE VW VU)>=>nk))>=>λSJ=>if SJ=true then(R.ok (D.bl false)>=>λv60=>R.ok (Out.rt v60))else(R.ok (Out.nx OA))) λJb=>
 (cJ (((((qQ 3 Jb>=>GH)>=>λv66=>R.ok (D.lst v66))>=>λNQ=>(((cB 1 Jb>=>λv68=>R.ok []>=>λv69=>R.ok (v68::v69))>=>rW)>=>λv67=>R.ok (D.lst v67))>=>λv65=>R.of (zE NQ v65)>=>nk)>=>λv63=>if v63=true then R.ok true else((cB 3 Jb>=>λv71=>(((cB 1 Jb>=>λv74=>R.ok []>=>λv75=>R.ok (v74::v75))>=>rW)>=>λv73=>R.ok (D.lst v73))>=>λv72=>R.of (CW v71 v72)>=>nk)>=>λv70=>if v70=true then R.ok true else(cB 3 Jb>=>λv76=>(((cB 1 Jb>=>λv79=>R.ok []>=>λv80=>R.ok (v79::v80))>=>GO)>=>λv78=>R.ok (D.lst v78))>=>λv77=>R.of (CW v76 v77)>=>nk)))>=>λv62=>if v62=true then(R.ok (D.bl false)>=>λv81=>R.ok (Out.rt v81))else(R.ok (Out.nx Jb))) λQp=>
 (cJ (((R.ok (D.int 1)>=>λabm=>(cB 1 Qp>=>λaio=>R.ok []>=>λabn=>R.ok (aio::abn))>=>λaip=>R.ok (abm::aip))>=>ND)>=>λv83=>lT iU v83 Qp) λv82=>
 (dU 3 v82>=>λabo=>R.ok (Out.nx (List.set v82 2 (Sl.val abo)))))))
noncomputable def uv(env:DE):R Out:=
 (cJ (((((cB 0 env>=>λv5=>IS "tuple" v5)>=>nk)>=>λv4=>R.ok (!v4))>=>λv3=>if v3=true then R.ok true else((((cB 0 env>=>λv10=>R.ok []>=>λv11=>R.ok (v10::v11))>=>λv9=>R.of (wB v9))>=>λv7=>R.ok (D.int 2)>=>λv8=>R.of (zE v7 v8)>=>nk)>=>λv6=>if v6=true then R.ok true else((((dU 0 env>=>λkK=>R.ok (D.int 1)>=>λqD=>wO kK qD)>=>λpI=>IS "list" pI)>=>nk)>=>λqN=>R.ok (!qN))))>=>λv2=>if v2=true then(R.ok (D.bl false)>=>λqT=>R.ok (Out.rt qT))else(R.ok (Out.nx env))) λv1=>
 (cJ ((((((dU 0 v1>=>λqO=>R.ok (D.int 0)>=>λyE=>wO qO yE)>=>λxP=>IS "int" xP)>=>nk)>=>λv20=>R.ok (!v20))>=>λtj=>if tj=true then R.ok true else((((dU 0 v1>=>λBv=>R.ok (D.int 0)>=>λCB=>wO Bv CB)>=>λzU=>IS "bool" zU)>=>nk)>=>λxO=>if xO=true then R.ok true else((cB 1 v1>=>λGU=>R.ok (D.int 1)>=>λv30=>R.of (CW GU v30)>=>nk)>=>λGR=>if GR=true then((dU 0 v1>=>λVQ=>R.ok (D.int 0)>=>λGV=>wO VQ GV)>=>λQm=>R.ok (D.int 0)>=>λVO=>R.of (zE Qm VO)>=>nk)else R.ok false)))>=>λum=>if um=true then(R.ok (D.bl false)>=>λVP=>R.ok (Out.rt VP))else(R.ok (Out.nx v1))) λtV=>
 (cJ (R.ok D.non>=>λVR=>R.ok (Out.nx (List.set tV 2 (Sl.val VR)))) λNN=>
 (cJ (((dU 0 NN>=>λabp=>R.ok (D.int 1)>=>λET=>wO abp ET)>=>yB)>=>λNP=>lT iW NP NN) λYw=>
 (R.ok (D.bl true)>=>λVZ=>R.ok (Out.rt VZ))))))
def fH:=mS 2 5 uv
def G4(env:DE):R Out:=
 ((((((dU 0 env>=>λv5=>R.ok []>=>λv6=>R.ok (v5::v6))>=>fg)>=>λv4=>R.ok (D.lst v4))>=>λv2=>R.ok []>=>λv3=>R.ok (v2::v3))>=>vA)>=>λv1=>R.ok (Out.vm v1))
def xV:=dZ 1 1 G4
noncomputable def lW(env:DE):R Out:=
 (((((((((dU 0 env>=>λv8=>R.ok []>=>λv9=>R.ok (v8::v9))>=>fg)>=>λv7=>R.ok (D.lst v7))>=>λv5=>(dU 1 env>=>λv10=>R.ok []>=>λv11=>R.ok (v10::v11))>=>λv6=>R.ok (v5::v6))>=>cg)>=>λv4=>R.ok (D.lst v4))>=>λv2=>R.ok []>=>λv3=>R.ok (v2::v3))>=>fg)>=>λv1=>R.ok (Out.vm v1))
def fO:=dZ 2 2 lW
noncomputable def qj(d:D)(env:DE):R Out:=
 (bN 3) d env>=>λv9=>
  (cJ ((cB 3 v9>=>λqN=>R.ok (D.int 0)>=>λpI=>R.of (UE qN pI)>=>nk)>=>λv11=>if v11=true then(R.bad:R Out)else(R.ok (Out.nx v9))) λv10=>
 (cJ (((qQ 2 v10>=>λum=>(cB 3 v10>=>λv20=>R.ok (D.int 1)>=>λxP=>R.of (n8 v20 xP))>=>λtj=>Gs um tj)>=>λqT=>(qQ 2 v10>=>λqO=>cB 3 v10>=>λyE=>Gs qO yE)>=>λtV=>R.of (K1 qT tV)>=>nk)>=>λqD=>if qD=true then(R.bad:R Out)else(R.ok (Out.nx v10))) λkK=>
 (((cB 2 kK>=>λzU=>(cB 3 kK>=>λCB=>R.ok []>=>λGR=>R.ok (CB::GR))>=>λBv=>R.ok (zU::Bv))>=>cg)>=>λxO=>R.ok (Out.nx (List.set kK 2 (Sl.own xO))))))
def G5(env:DE):R Out:=
 (cJ (((dU 0 env>=>λv3=>R.ok []>=>λv4=>R.ok (v3::v4))>=>dA)>=>λv2=>R.ok (Out.nx (List.set env 2 (Sl.own v2)))) λv1=>
 (cJ ((dU 1 v1>=>yB)>=>λv6=>lT qj v6 v1) λv5=>
 (ownAt 2 v5>=>λGU=>R.ok (Out.vm GU))))
def qY:=dZ 2 4 G5
def Jf(env:DE):R Bool:=
 R.ok true
def BE(env:DE):R D:=
 ((((cB 1 env>=>λv11=>R.ok []>=>λqN=>R.ok (v11::qN))>=>λv10=>R.of (wB v10))>=>λv8=>R.ok (D.int 1)>=>λv9=>R.of (n8 v8 v9))>=>λv6=>cB 0 env>=>λv7=>R.of (n8 v6 v7))
def LN(env:DE):R Out:=
 ((((((dU 0 env>=>λkK=>R.ok []>=>λqD=>R.ok (kK::qD))>=>fg)>=>λpI=>R.ok (D.lst pI))>=>yB)>=>λv2=>ik env [0]>=>λv3=>R.ne (dO (bN 0) Jf BE (lV 1 v3) v2)>=>fit)>=>λv1=>R.ok (Out.vm v1))
def xW:=dZ 1 1 LN
noncomputable def uw(d:D)(env:DE):R Out:=
 (bN 5) d env>=>λpI=>
  (cJ (((cB 5 pI>=>λtV=>R.ok []>=>λum=>R.ok (tV::um))>=>λqT=>R.of (Po qT))>=>λqD=>R.ok (Out.nx (List.set pI 6 (Sl.val qD)))) λkK=>
 (cJ (((((cB 2 kK>=>λzU=>R.ok []>=>λBv=>R.ok (zU::Bv))>=>λxO=>R.of (wB xO))>=>λqO=>R.ok (D.int 0)>=>λyE=>R.of (CW qO yE)>=>nk)>=>λxP=>if xP=true then R.ok true else((cB 4 kK>=>λGR=>(cB 5 kK>=>λv30=>R.ok (D.int 0)>=>λQm=>R.of (K1 v30 Qm))>=>λGU=>R.of (zE GR GU)>=>nk)>=>λCB=>if CB=true then R.ok true else((qQ 3 kK>=>λGV=>(cB 6 kK>=>λNN=>R.ok (D.int 1)>=>λVR=>R.of (n8 NN VR))>=>λVP=>Gs GV VP)>=>λVO=>(qQ 3 kK>=>λYw=>cB 6 kK>=>λNP=>Gs Yw NP)>=>λVQ=>R.of (K1 VO VQ)>=>nk)))>=>λv20=>if v20=true then(cJ (kj 2 kK>=>λv41=>(R.ok []>=>fit)>=>λOA=>R.of (Lr OA)>=>λJb=>Qf 2 kK v41 Jb) λYx=>
 (cJ (((dU 0 Yx>=>λVX=>R.ok []>=>λVS=>R.ok (VX::VS))>=>dA)>=>λVY=>R.ok (Out.nx (List.set Yx 3 (Sl.own VY)))) λSJ=>
 ((cB 5 SJ>=>λVU=>R.ok (D.int 0)>=>λVV=>R.of (K1 VU VV))>=>λVW=>R.ok (Out.nx (List.set SJ 4 (Sl.val VW))))))else(R.ok (Out.nx kK))) λtj=>
 (cJ (kj 2 tj>=>λSH=>(R.ok (D.int 1)>=>λv56=>R.of (xt v56))>=>λv53=>GK SH v53>=>λv54=>cB 5 tj>=>λv55=>I0 2 tj SH v54 v55) λQn=>
 (cJ ((qQ 3 Qn>=>λv59=>cB 6 Qn>=>λv60=>Gs v59 v60)>=>λv58=>R.ok (Out.nx (List.set Qn 7 (Sl.val v58)))) λQo=>
 (cJ ((qQ 3 Qo>=>λv65=>(cB 6 Qo>=>λv67=>R.ok (D.int 1)>=>λv68=>R.of (n8 v67 v68))>=>λv66=>Gs v65 v66)>=>λv62=>ownAt 3 Qo>=>λv63=>cB 6 Qo>=>λNQ=>GD 3 Qo v62 v63 NQ) λQp=>
 (dU 7 Qp>=>λv69=>ownAt 3 Qp>=>λv70=>(cB 6 Qp>=>λv72=>R.ok (D.int 1)>=>λv73=>R.of (n8 v72 v73))>=>λv71=>GD 3 Qp v69 v70 v71))))))
noncomputable def Yy(env:DE):R Out:=
 (cJ (R.ok ([]:List (List Int))>=>λv2=>(fit v2>=>λy=>R.ok (Out.nx (List.set env 2 (Sl.deep (Ct.ls y)))))) λv1=>
 (cJ (((dU 0 v1>=>λv5=>R.ok []>=>λv6=>R.ok (v5::v6))>=>dA)>=>λv4=>R.ok (Out.nx (List.set v1 3 (Sl.own v4)))) λv3=>
 (cJ (R.ok (D.bl false)>=>λv8=>R.ok (Out.nx (List.set v3 4 (Sl.val v8)))) λv7=>
 (cJ ((dU 1 v7>=>yB)>=>λv10=>lT uw v10 v7) λv9=>
 (kj 2 v9>=>λv74=>R.ok (Out.Ik v74))))))
def G6:=mT 2 8 Yy
def we(env:DE):R Bool:=
 R.ok true
def qE(env:DE):R D:=
 (((R.ok (D.int 0)>=>λtj=>(dU 0 env>=>λxP=>R.ok []>=>λqO=>R.ok (xP::qO))>=>λv20=>R.ok (tj::v20))>=>fit)>=>λds=>R.ok (D.tup ds))
noncomputable def BF(env:DE):R Out:=
 ((((((((dU 1 env>=>λv8=>R.ok (D.int 0)>=>λv9=>wO v8 v9)>=>λv6=>((((dU 0 env>=>λpI=>R.ok []>=>λkK=>R.ok (pI::kK))>=>dA)>=>λqN=>R.ok (D.lst qN))>=>λv10=>R.ok []>=>λv11=>R.ok (v10::v11))>=>λv7=>R.ok (v6::v7))>=>fit)>=>λds=>R.ok (D.tup ds))>=>λv4=>R.ok []>=>λv5=>R.ok (v4::v5))>=>fit)>=>λv2=>(((dU 1 env>=>λyE=>R.ok (D.int 1)>=>λxO=>wO yE xO)>=>yB)>=>λqD=>ik env []>=>λqT=>R.ne (dO (bN 0) we qE (lV 1 qT) qD)>=>fit)>=>λv3=>fit (v2++v3))>=>λv1=>R.ok (Out.vm v1))
def mj:=mF 2 2 BF
noncomputable def wg(env:DE):R Out:=
 (cJ (((cB 0 env>=>λv5=>R.ok (D.int 2)>=>λv6=>R.of (uh v5 v6))>=>λv3=>R.ok (D.int 0)>=>λv4=>R.of (CW v3 v4)>=>nk)>=>λv2=>if v2=true then(qQ 1 env>=>λv7=>R.ok (Out.vm v7))else(R.ok (Out.nx env))) λv1=>
 (((dU 1 v1>=>λv9=>R.ok []>=>λv10=>R.ok (v9::v10))>=>jH)>=>λv8=>R.ok (Out.vm v8)))
def jI:=dZ 2 2 wg
noncomputable def qF(env:DE):R Out:=
 (((((R.ok (D.int 1)>=>λv4=>R.of (xt v4))>=>λv2=>((((dU 0 env>=>λv8=>R.ok []>=>λv9=>R.ok (v8::v9))>=>xW)>=>λv7=>R.ok (D.lst v7))>=>λv5=>R.ok []>=>λv6=>R.ok (v5::v6))>=>λv3=>R.ok (v2::v3))>=>fit)>=>λds=>R.ok (D.tup ds))>=>λv1=>R.ok (Out.rt v1))
def fj:=mD 1 1 qF
noncomputable def gS(d:D)(env:DE):R Out:=
 (bN 3) d env>=>λv9=>
  (cJ (kj 1 v9>=>λv11=>((dU 2 v9>=>λkK=>((dU 3 v9>=>λum=>R.ok (D.int 1)>=>λtj=>wO um tj)>=>λqT=>R.ok []>=>λtV=>R.ok (qT::tV))>=>λqD=>R.ok (kK::qD))>=>jI)>=>λqN=>R.of (Lr qN)>=>λpI=>Qf 1 v9 v11 pI) λv10=>
 (dU 2 v10>=>λv20=>(dU 3 v10>=>λqO=>R.ok (D.int 0)>=>λyE=>wO qO yE)>=>λxP=>NG (λi j=>i+j) 2 v10 v20 xP))
noncomputable def nv(env:DE):R Out:=
 (cJ (R.ok ([]:List (List Int))>=>λv2=>(fit v2>=>λy=>R.ok (Out.nx (List.set env 1 (Sl.deep (Ct.ls y)))))) λv1=>
 (cJ (R.ok (D.int 0)>=>λv4=>R.ok (Out.nx (List.set v1 2 (Sl.val v4)))) λv3=>
 (cJ ((dU 0 v3>=>λxO=>yB xO>=>λxs=>R.ok (reverse xs))>=>λv6=>lT gS v6 v3) λv5=>
 (cJ (kj 1 v5>=>λBv=>R.ok (Out.nx (List.set v5 1 (Sl.deep (Ct.ls (reverse Bv)))))) λzU=>
 (kj 1 zU>=>λCB=>R.ok (Out.Ik CB))))))
def bx:=mT 1 4 nv
noncomputable def C6(env:DE):R Out:=
 (cJ (((qQ 1 env>=>λv5=>R.ok (D.int 0)>=>λv6=>Gs v5 v6)>=>λv3=>R.ok (D.int 0)>=>λv4=>R.of (K1 v3 v4)>=>nk)>=>λv2=>if v2=true then((((R.ok (D.int 0)>=>λv8=>((((dU 0 env>=>λpI=>(dU 1 env>=>λqD=>R.ok []>=>λqT=>R.ok (qD::qT))>=>λkK=>R.ok (pI::kK))>=>qY)>=>λqN=>R.ok (D.lst qN))>=>λv10=>R.ok []>=>λv11=>R.ok (v10::v11))>=>λv9=>R.ok (v8::v9))>=>fit)>=>λds=>R.ok (D.tup ds))>=>λv7=>R.ok (Out.rt v7))else(R.ok (Out.nx env))) λv1=>
 ((((((dU 0 v1>=>λxP=>((((dU 1 v1>=>λBv=>R.ok []>=>λCB=>R.ok (Bv::CB))>=>uq)>=>λzU=>R.ok (D.lst zU))>=>λyE=>R.ok []>=>λxO=>R.ok (yE::xO))>=>λqO=>R.ok (xP::qO))>=>qY)>=>λv20=>R.ok (D.lst v20))>=>λum=>R.ok []>=>λtj=>R.ok (um::tj))>=>fj)>=>λtV=>R.ok (Out.rt tV)))
def qZ:=mD 2 2 C6
def ux(env:DE):R Bool:=
 R.ok true
def o4(env:DE):R D:=
 ((cB 1 env>=>λGU=>(cB 0 env>=>λQm=>(R.ok (D.int 16807)>=>λVQ=>R.ok []>=>λGV=>R.ok (VQ::GV))>=>λVO=>R.ok (Qm::VO))>=>λv30=>R.ok (GU::v30))>=>iA)
noncomputable def uy(env:DE):R Out:=
 (cJ ((((((qQ 0 env>=>λv7=>R.ok none>=>λv8=>(R.ok (D.int 63)>=>Sx)>=>λv9=>R.ok (cut v7 v8 v9))>=>λv6=>R.ok (D.lst v6))>=>λv4=>(dU 1 env>=>λv10=>(R.ok (D.int 189)>=>λqN=>R.ok []>=>λpI=>R.ok (qN::pI))>=>λv11=>R.ok (v10::v11))>=>λv5=>R.ok (v4::v5))>=>lC)>=>λv3=>R.ok (D.lst v3))>=>λv2=>R.ok (Out.nx (List.set env 3 (Sl.val v2)))) λv1=>
 (cJ ((((cB 3 v1>=>λtj=>R.ok []>=>λv20=>R.ok (tj::v20))>=>λum=>R.of (wB um))>=>λqT=>cB 2 v1>=>λtV=>R.of (kLe qT tV)>=>nk)>=>λqD=>if qD=true then(dU 3 v1>=>λxP=>R.ok (Out.rt xP))else(R.ok (Out.nx v1))) λkK=>
 (cJ ((((dU 0 kK>=>λVP=>yB VP>=>λxs=>R.ok (je xs))>=>λzU=>ik kK []>=>λBv=>R.ne (dO (bT 2 (qg (bN 0) (qg (bN 1) EC))) ux o4 (lV 2 Bv) zU)>=>fit)>=>λxO=>R.of (wb xO))>=>λyE=>R.ok (Out.nx (List.set kK 4 (Sl.val yE)))) λqO=>
 (cJ ((cB 4 qO>=>λYw=>((((cB 3 qO>=>λVY=>R.ok []>=>λVX=>R.ok (VY::VX))>=>λSJ=>R.of (wB SJ))>=>λOA=>cB 2 qO>=>λJb=>R.of (n8 OA Jb))>=>λYx=>R.ok (D.int 1)>=>λv41=>R.of (nq Yx v41))>=>λNP=>R.of (uh Yw NP))>=>λVR=>R.ok (Out.nx (List.set qO 5 (Sl.val VR)))) λNN=>
 (((qQ 3 NN>=>λVU=>(cB 5 NN>=>Sx)>=>λVV=>((cB 5 NN>=>λSH=>cB 2 NN>=>λv53=>R.of (nq SH v53))>=>Sx)>=>λQn=>R.ok (cut VU VV Qn))>=>λVW=>R.ok (D.lst VW))>=>λVS=>R.ok (Out.rt VS))))))
def gg:=mD 3 6 uy
def km(env:DE):R Bool:=
 R.ok true
def fJ(env:DE):R D:=
 ((dU 1 env>=>λv7=>(dU 0 env>=>λv9=>R.ok []>=>λv10=>R.ok (v9::v10))>=>λv8=>R.ok (v7::v8))>=>qZ)
noncomputable def tw(env:DE):R Out:=
 (((((R.ne ((cB 0 env>=>λqN=>((((dU 1 env>=>λtV=>R.ok []>=>λum=>R.ok (tV::um))>=>qV)>=>λqT=>R.ok (D.lst qT))>=>λkK=>R.ok []>=>λqD=>R.ok (kK::qD))>=>λpI=>R.ok (qN::pI))>=>G6))>=>λv11=>R.ok (xX (λns=>D.lst (xX D.int ns)) v11))>=>λv3=>ik env [0]>=>λv4=>R.ne (dO (bN 0) km fJ (lV 1 v4) v3)>=>fit)>=>λv2=>R.ok (D.lst v2))>=>λv1=>R.ok (Out.rt v1))
def eI:=mD 2 2 tw
section
variable{X:Cx}
def Qz{A:bh}{E:ah->aj->Prop}{s:aj}{d:ae}{xs:List (List Key×ae×ah)}{Q:ah->aj->Prop}(hd:(d==mG)=false)
  (m:aC.DictOfH (uR (gD X.prog X.w)) s.heap d xs)(z:xs.length<=aH)(q:Q (.int xs.length (s.toks+1)) {s with toks:=s.toks+1+1}):aA (az X.prog X.w) A (call (.builtin "len") [.ref d]) Q E s:=by
 have z':xs.length<=16777216:=z;have inner:∀A,aA (az X.prog X.w) A (call (.builtin "dict.__len__") [.ref d]) (λr s'=>r=.int xs.length s.toks/\s'={s with toks:=s.toks+1}) E s:=λA=>by refine KW (S:=λ_ R s'=>s'=s/\R (.ok (.ret (.int xs.length s.toks))) {s with toks:=s.toks+1}) V0 m.typeIs PySem.F.entry_dict_len (PySem.F.args_dict_len_1 _) (.of_wp λA R s' h=>?_) ⟨rfl,rfl,rfl⟩;obtain⟨rfl,h⟩:=h;obtain⟨o,es,ep,h1,h2,h3,h4,_⟩:=m;show aA _ _ (dictSize d>>=λn=>_) _ _ _;unfold dictSize;refine aV (aV (wpAny_dictEntries h1 h3 (ck (aV (wpAny_pendingCount_other hd (wpAny_ret_mkInt ?_))))));rw[size_of_entries h4];exact h
 refine Calls.call_function_entry kind_len plain_len entry_len (args_len1 _) ?_;unfold EJ.«len»;refine aV (ck (aV (wpAny_callSpecial?_slot (name:=cV "__len__") m.typeIs V0 (fz (inner _) λr s' h=>?_))));obtain⟨rfl,rfl⟩:=h;refine aV (Ae (ck (aV (wpAny_letGo ?_))));show aA _ _ (if((xs.length:Nat):Int)<0 then _ else _) _ _ _;rw[if_neg (by lia)];show aA _ _ (if 2^63<=((xs.length:Nat):Int)then _ else _) _ _ _;rw[if_neg (by lia)];exact aV (wpAny_mkInt (ck ⟨_,rfl,q⟩))
def NR:vY X (.builtin "len") (λxs H Q=>∃a kvs,xs=[V.ref a]/\H a=aa (.dT kvs)/\Q (.int kvs.length) H):=by intro pins s σ H xs us Q I r h;obtain⟨a,kvs,rfl,ha,q⟩:=h;obtain⟨u,rfl,ru⟩:=vals1 r;cases ru;obtain⟨z,hd,ys,rel,dd⟩:=Bb I.hok (.inl ha);have e:kvs.length=ys.length:=Paired.length rel;exact Qz hd dd (by lia) ⟨.int kvs.length,H,I.tok _,⟨_,by rw[e]⟩,q⟩
def V1:MtR X "int.bit_length" (λx vs H Q=>∃i,x=.int i/\vs=[]/\Q (.int (LO i)) H):=by intro pins s σ H x xs v us Q I r rs h;obtain⟨i,rfl,rfl,q⟩:=h;obtain⟨t,rfl⟩:=r;have e:=rs.zero;subst e;exact call_int_bit_length ⟨.int _,H,I.tok _,⟨_,rfl⟩,q⟩
end
def R.gU {α:Type}(a:α):(R.ok a).ne=.ok a:=rfl
def rZ{b:D->DE->R DE}{ct:DE->R Bool}{fe:DE->R D}{e₀:DE}(g:Int->Int)(w:List Int)(h:∀k∈w,∃e,b (.int k) e₀=.ok e/\ct e=.ok true/\fe e=.ok (.int (g k))):dO b ct fe e₀ (bK w)=.ok (bK (w.map g)):=by
 rw[qR (λd=>match d with
  |.int k=>.int (g k)
  |_=>.non) _ λx hx=>by obtain⟨k,hk,rfl⟩:=dh.mp hx;exact h k hk]
 unfold bK;rw[gK,gK];rfl
def upTo(n:Nat):List Int:=(bZ n).map λi=>((i:Nat):Int)
def aI(n:Nat):(upTo n).length=n:=by simp[upTo]
def uz(n j:Nat)(h:j<n):(upTo n)[j]?=aa (j:Int):=by simp[upTo,h]
def mem_upTo{n:Nat}{x:Int}:x∈upTo n↔0<=x/\x<n:=by
 simp_all only [upTo,dh,pP];constructor
 ·rintro⟨i,h,rfl⟩;lia
 ·rintro⟨h1,h2⟩;exact⟨x.toNat,by lia,by lia⟩
def C7(n:Nat):vU 0 n=bK (upTo n):=by rw[Av];congr 1;simp[upTo]
def G7(n:Nat):(upTo n).Pairwise (·<=·):=by unfold upTo;rw[LP];exact V2.imp λh=>by lia
def BG(n:Nat):(upTo n).Nodup:=by unfold upTo;unfold gh;rw[LP];exact V2.imp λh=>by lia
def bY(n:Nat)(r:List Int):Prop:=r.Perm (upTo n)
def bY.len {n:Nat}{r:List Int}(h:bY n r):r.length=n:=by rw[h.length_eq,aI]
def bY.nd {n:Nat}{r:List Int}(h:bY n r):r.Nodup:=h.nodup_iff.mpr (BG n)
def bY.mem {n:Nat}{r:List Int}(h:bY n r){x:Int}:x∈r↔0<=x/\x<n:=h.mem_iff.trans mem_upTo
def bY.get {n:Nat}{r:List Int}(h:bY n r){j:Nat}{x:Int}(e:r[j]?=aa x):0<=x/\x<n:=h.mem.mp (dm e)
def jg(n:Nat):bY n (upTo n):=EU.refl _
def QA{n:Nat}{r:List Int}(h:bY n r):sortI r=upTo n:=(GJ h.symm (G7 n)).symm
def ai(ns:List Int)(k:Nat):Int:=(ns[k]?).getD 0
def gj{l:List Int}{j:Nat}(h:j<l.length):l[j]?=aa (ai l j):=by unfold ai;rw[aQ h];rfl
def cC{a b:List Int}(hl:a.length=b.length)(h:∀j,j<a.length->ai a j=ai b j):a=b:=by
 refine List.ext_getElem? λj=>?_
 by_cases hj:j<a.length
 ·rw[gj hj,gj (hl▸hj),h j hj]
 ·rw[EV (by lia),EV (by lia)]
def aU{n j:Nat}(h:j<n):ai (upTo n) j=j:=by unfold ai;rw[uz n j h];rfl
def BH{l:List Int}{j i:Nat}{x:Int}(h:j<l.length):ai (l.set i x) j=if i=j then x else ai l j:=by
 unfold ai;rw[List.getElem?_set];split
 ·subst_vars
  rw[if_pos h];rfl
 ·rfl
def iX:List Int->Nat->List Int
 |x::y::l,0=>y::x::l
 |x::l,a+1=>x::iX l a
 |l,_=>l
def wj(x:Int)(l:List Int)(a:Nat):iX (x::l) (a+1)=x::iX l a:=by cases l<;>rfl
theorem jV:∀(l:List Int)(a:Nat),(iX l a).length=l.length
 |[],a=>by cases a<;>rfl
 |[x],0=>rfl
 |x::y::l,0=>rfl
 |x::l,a+1=>by rw[wj,bQ,bQ,jV l a]
theorem nA:∀(l:List Int)(a:Nat),a+1<l.length->∀j,ai (iX l a) j=if j=a then ai l (a+1)else if j=a+1 then ai l a else ai l j
 |[],a,h,j=>by simp at h
 |[x],a,h,j=>by simp at h
 |x::y::l,0,h,j=>by
  match j with
  |0=>rfl
  |1=>rfl
  |j+2=>rw[if_neg (by lia),if_neg (by lia)];rfl
 |x::y::l,a+1,h,j=>by
  rw[wj]
  match j with
  |0=>rw[if_neg (by lia),if_neg (by lia)];rfl
  |j+1=>
   show ai (iX (y::l) a) j=if j+1=a+1 then ai (y::l) (a+1)else if j+1=a+1+1 then ai (y::l) a else ai (y::l) j;rw[nA (y::l) a (by simpa using h) j]
   repeat' split
   all_goals first|rfl|lia
theorem LQ:∀(l:List Int)(a:Nat),a+1<l.length->l.take a++[ai l (a+1),ai l a]++l.drop (a+2)=iX l a
 |[],a,h=>by simp at h
 |[x],a,h=>by simp at h
 |x::y::l,0,h=>rfl
 |x::y::l,a+1,h=>by rw[wj,<-LQ (y::l) a (by simpa using h)];rfl
def sg(a:Nat)(x:Int):Int:=if x=a then(a:Int)+1 else if x=(a:Int)+1 then a else x
def wH(r:List Int)(a:Nat):List Int:=r.map (sg a)
def AF(r:List Int)(a:Nat):(wH r a).length=r.length:=aG _
def cM{r:List Int}{a p:Nat}(h:p<r.length):ai (wH r a) p=sg a (ai r p):=by
 have:=gj h;unfold wH
 conv=>lhs;unfold ai
 rw[bG,this];rfl
structure Iv(n:Nat)(r s:List Int):Prop where
 lr:r.length=n
 ls:s.length=n
 rs:∀p,p<n->0<=ai r p/\ai r p<n/\ai s (ai r p).toNat=p
 sr:∀v,v<n->0<=ai s v/\ai s v<n/\ai r (ai s v).toNat=v
def Iv.symm {n:Nat}{r s:List Int}(h:Iv n r s):Iv n s r:=⟨h.ls,h.lr,h.sr,h.rs⟩
def Iv.step {n:Nat}{r s:List Int}(h:Iv n r s){a:Nat}(ha:a+1<n):Iv n (wH r a) (iX s a):=by
 refine⟨by rw[AF,h.lr],by rw[jV,h.ls],λp hp=>?_,λv hv=>?_⟩
 ·obtain⟨h1,h2,h3⟩:=h.rs p hp
  rw[cM (h.lr.symm▸hp),nA _ _ (h.ls.symm▸ha)];generalize ai r p=v at h1 h2 h3;unfold sg
  by_cases e1:v=a
  ·rw[if_pos e1]
   refine⟨by lia,by lia,?_⟩;rw[if_neg (by lia),if_pos (by lia),<-h3,show v.toNat=a by lia]
  ·rw[if_neg e1]
   by_cases e2:v=(a:Int)+1
   ·rw[if_pos e2]
    refine⟨by lia,by lia,?_⟩;rw[if_pos (by lia),<-h3,show v.toNat=a+1 by lia]
   ·rw[if_neg e2]
    refine⟨h1,h2,?_⟩;rw[if_neg (by lia),if_neg (by lia),h3]
 ·rw[nA _ _ (h.ls.symm▸ha)]
  by_cases e1:v=a
  ·obtain⟨h1,h2,h3⟩:=h.sr (a+1) ha
   rw[if_pos e1];refine⟨h1,h2,?_⟩;rw[cM (by rw[h.lr];lia),h3];unfold sg;rw[if_neg (by lia),if_pos (by lia),e1]
  ·rw[if_neg e1]
   by_cases e2:v=a+1
   ·obtain⟨h1,h2,h3⟩:=h.sr a (by lia)
    rw[if_pos e2];refine⟨h1,h2,?_⟩;rw[cM (by rw[h.lr];lia),h3];unfold sg;rw[if_pos rfl,e2];lia
   ·obtain⟨h1,h2,h3⟩:=h.sr v hv
    rw[if_neg e2];refine⟨h1,h2,?_⟩;rw[cM (by rw[h.lr];lia),h3];unfold sg;rw[if_neg (by lia),if_neg (by lia)]
def Iv.OC {n:Nat}{r s:List Int}(h:Iv n r s){v w:Nat}(hv:v<n)(hw:w<n)(e:ai s v=ai s w):v=w:=by have h1:=(h.sr v hv).2.2;have h2:=(h.sr w hw).2.2;rw[e]at h1;lia
def abq{n:Nat}{r:List Int}(h:bY n r):∃s,Iv n r s:=by
 have hc:∀v,v<n->ai ((upTo n).map λv=>((r.idxOf v:Nat):Int)) v=(r.idxOf ((v:Nat):Int):Nat):=λv hv=>by unfold ai;rw[bG,uz n v hv];rfl
 refine⟨(upTo n).map λv=>((r.idxOf v:Nat):Int),h.len,by rw[aG,aI],λp hp=>?_,λv hv=>?_⟩
 ·have hp':p<r.length:=by rw[h.len];exact hp
  have hg:=h.get (gj hp');refine⟨hg.1,hg.2,?_⟩;rw[hc _ (by lia),show(((ai r p).toNat:Nat):Int)=ai r p by lia];have e:ai r p=r[p]:=by have:=gj hp';rw[aQ hp']at this;exact(cj.inj this).symm
  rw[e,h.nd.idxOf_getElem p hp']
 ·have hm:(v:Int)∈r:=h.mem.mpr (by lia)
  have hl:=V3 hm;rw[hc v hv];have Vn:=hl;rw[h.len]at Vn;refine⟨by lia,by lia,?_⟩;rw[bw];have:=gj hl;rw[aQ hl,Lz hl]at this;exact(cj.inj this).symm
def Iv.idx {n:Nat}{r s:List Int}(h:Iv n r s){v:Nat}(hv:v<n):(v:Int)∈r/\((r.idxOf (v:Int):Nat):Int)=ai s v:=by
 obtain⟨h1,h2,h3⟩:=h.sr v hv;have hm:(v:Int)∈r:=by have:=gj (l:=r) (j:=(ai s v).toNat) (by rw[h.lr];lia);rw[h3]at this;exact dm this
 refine⟨hm,?_⟩;have hl:=V3 hm;have:=gj hl;rw[aQ hl,Lz hl]at this;have e:=cj.inj this;have Vn:=hl;rw[h.lr]at Vn;have h4:=(h.rs _ Vn).2.2;rw[<-e,bw]at h4;exact h4.symm
def FQ(l:List Int):List Int:=((bZ (l.length-1)).map λi=>1+((i:Nat):Int)).filter λk=>decide (ai l k.toNat<ai l (k-1).toNat)
def xY{l:List Int}{k:Int}:k∈FQ l↔∃a:Nat,k=(a:Int)+1/\a+1<l.length/\ai l (a+1)<ai l a:=by
 unfold FQ;rw[kM,dh];constructor
 ·rintro⟨⟨i,hi,rfl⟩,h⟩
  rw[pP]at hi;rw[decide_eq_true_eq,show(1+(i:Int)).toNat=i+1 by lia,show(1+(i:Int)-1).toNat=i by lia]at h;exact⟨i,by lia,by lia,h⟩
 ·rintro⟨a,rfl,h1,h2⟩
  refine⟨⟨a,pP.mpr (by lia),by lia⟩,?_⟩;rw[decide_eq_true_eq,show((a:Int)+1).toNat=a+1 by lia,show((a:Int)+1-1).toNat=a by lia];exact h2
def V4(l:List Int):(FQ l).length<=l.length:=by have h:=V5 (λk=>decide (ai l k.toNat<ai l (k-1).toNat)) ((bZ (l.length-1)).map λi=>1+((i:Nat):Int));unfold FQ;rw[aG,Ey]at h;lia
def V6{n:Nat}{r s:List Int}(h:Iv n r s)(hd:∀a,a+1<n->¬ai s (a+1)<ai s a):r=upTo n:=by
 have hlt:∀a,a+1<n->ai s a<ai s (a+1):=λa ha=>by
  have h1:=hd a ha;have h2:ai s a≠ai s (a+1):=λz=>by have:=h.OC (by lia) ha z;lia
  lia
 have hge:∀a,a<n->(a:Int)<=ai s a:=λa=>by
  induction a with
  |zero=>intro ha;exact(h.sr 0 ha).1
  |succ a ih=>
   intro ha;have h1:=ih (by lia);have h2:=hlt a ha;lia
 have hle:∀d a,a+d+1=n->ai s a<=a:=λd=>by
  induction d with
  |zero=>
   intro a ha;have:=(h.sr a (by lia)).2.1;lia
  |succ d ih=>
   intro a ha;have h1:=ih (a+1) (by lia);have h2:=hlt a (by lia);lia
 have hs:∀a,a<n->ai s a=a:=λa ha=>by have h1:=hge a ha;have h2:=hle (n-1-a) a (by lia);lia
 refine cC (by rw[h.lr,aI]) λp hp=>?_;rw[h.lr]at hp;obtain⟨h1,h2,h3⟩:=h.rs p hp;rw[hs _ (by lia)]at h3;rw[aU hp];lia
structure Od(n:Nat)(o r z:List Int):Prop where
 lo:o.length=n
 lz:z.length=n
 at_:∀p,p<n->ai o (ai r p).toNat=ai z p
 cr:∀p q,p<q->q<n->ai r q<ai r p->ai z q<ai z p
def S(n:Nat)(f:Nat->Nat):Nat:=((bZ n).map f).sum
def abr(f:Nat->Nat):S 0 f=0:=rfl
def nJ(n:Nat)(f:Nat->Nat):S (n+1) f=S n f+f n:=by unfold S;rw[LJ,b7,LR];simp
def LS(n:Nat)(f:Nat->Nat):S (n+1) f=f 0+S n λi=>f (i+1):=by unfold S;rw[Lf,bu,om,gK];rfl
def jW{n:Nat}{f g:Nat->Nat}(h:∀i,i<n->f i=g i):S n f=S n g:=by
 induction n with
 |zero=>rfl
 |succ n ih=>rw[nJ,nJ,ih λi hi=>h i (by lia),h n (by lia)]
def G8(n:Nat)(f g:Nat->Nat):S n (λi=>f i+g i)=S n f+S n g:=by
 induction n with
 |zero=>rfl
 |succ n ih=>rw[nJ,nJ,nJ,ih];lia
def V7(n c:Nat):S n (λ_=>c)=n*c:=by
 induction n with
 |zero=>rw[Nat.zero_mul];rfl
 |succ n ih=>rw[nJ,ih,Ul]
def QB(n m:Nat)(f:Nat->Nat->Nat):S n (λi=>S m λj=>f i j)=S m λj=>S n λi=>f i j:=by
 induction n with
 |zero=>
  rw[abr,show(λj=>S 0 λi=>f i j)=λ_=>0 from rfl,V7,Nat.mul_zero]
 |succ n ih=>
  rw[nJ,ih,<-G8];exact jW λj _=>(nJ n λi=>f i j).symm
def abt(n q:Nat)(g:Nat->Nat):S n (λp=>if p<q then g p else 0)=S (min n q) g:=by
 induction n with
 |zero=>rw[Nat.zero_min];rfl
 |succ n ih=>
  rw[nJ,ih]
  by_cases h:n<q
  ·rw[if_pos h,show min n q=n by lia,show min (n+1) q=n+1 by lia,nJ]
  ·rw[if_neg h,show min n q=q by lia,show min (n+1) q=q by lia]
   rfl
def QC{n:Nat}{r s:List Int}(h:Iv n r s)(f:Nat->Nat):S n (λv=>f (ai s v).toNat)=S n f:=by
 unfold S;have p:((bZ n).map λv=>(ai s v).toNat).Perm (bZ n):=by
  refine(V8 ?_ V9).mpr λx=>?_
  ·unfold gh
   rw[LP];refine Up.imp_of_mem ?_ V9;intro a b ha hb hab e;rw[pP]at ha hb;have h1:=h.sr a ha;have h2:=h.sr b hb;exact hab (h.OC ha hb (by lia))
  ·rw[dh]
   constructor
   ·rintro⟨v,hv,rfl⟩
    rw[pP]at hv⊢;have:=h.sr v hv;lia
   ·intro hx
    rw[pP]at hx;obtain⟨h1,h2,h3⟩:=h.rs x hx;exact⟨(ai r x).toNat,pP.mpr (by lia),by rw[h3,bw]⟩
 have:=(p.map f).sum_nat;rw[gK]at this;exact this
def CC(x:Int)(pre:List Int):Nat:=(pre.filter λs=>decide (x<s)).length
def Jg(x y:Int)(pre:List Int):CC x (pre++[y])=CC x pre+if x<y then 1 else 0:=by
 unfold CC;rw[Wa,b9];congr 1;rw[Wb]
 by_cases h:x<y
 ·rw[if_pos (decide_eq_true h),if_pos h];rfl
 ·rw[if_neg (by rw[decide_eq_true_eq];exact h),if_neg h];rfl
def Wc{x:Int}{a b:List Int}(p:a.Perm b):CC x a=CC x b:=(p.filter _).length_eq
def FT:List Int->List Int->Nat
 |_,[]=>0
 |pre,x::l=>CC x pre+FT (pre++[x]) l
theorem G9:∀(l:List Int){a b:List Int},a.Perm b->FT a l=FT b l
 |[],a,b,p=>rfl
 |x::l,a,b,p=>by unfold FT;rw[Wc p,G9 l (p.append_right [x])]
theorem AG:∀(l:List Int)(a:Nat)(pre:List Int),a+1<l.length->FT pre (iX l a)+(if ai l (a+1)<ai l a then 1 else 0)=FT pre l+(if ai l a<ai l (a+1)then 1 else 0)
 |[],a,pre,h=>by simp at h
 |[x],a,pre,h=>by simp at h
 |x::y::l,0,pre,h=>by
  show CC y pre+(CC x (pre++[y])+FT (pre++[y]++[x]) l)+(if y<x then 1 else 0)=CC x pre+(CC y (pre++[x])+FT (pre++[x]++[y]) l)+(if x<y then 1 else 0);rw[Jg,Jg,G9 l (show(pre++[y]++[x]).Perm (pre++[x]++[y])by rw[bC,bC];exact EU.append_left pre (EU.swap x y []))]
  lia
 |x::y::l,a+1,pre,h=>by rw[wj];show CC x pre+FT (pre++[x]) (iX (y::l) a)+(if ai (y::l) (a+1)<ai (y::l) a then 1 else 0)=CC x pre+FT (pre++[x]) (y::l)+(if ai (y::l) a<ai (y::l) (a+1)then 1 else 0);have:=AG (y::l) a (pre++[x]) (by simpa using h);lia
theorem Yz:∀(l pre:List Int),FT pre l=S l.length λj=>CC (ai l j) (pre++l.take j)
 |[],pre=>rfl
 |x::l,pre=>by rw[bQ,LS];show CC x pre+FT (pre++[x]) l=_;rw[Yz l (pre++[x]),show CC (ai (x::l) 0) (pre++(x::l).take 0)=CC x pre by rw[Ve,bq];rfl];congr 1;refine jW λi _=>?_;show CC (ai l i) (pre++[x]++l.take i)=CC (ai l i) (pre++x::l.take i);rw[bC];rfl
theorem aeC(x:Int)(l:List Int):∀q,q<=l.length->CC x (l.take q)=S q λp=>if x<ai l p then 1 else 0
 |0,_=>rfl
 |q+1,h=>by
  have hq:q<l.length:=by lia
  have e:l.take (q+1)=l.take q++[ai l q]:=by rw[AE,gj hq];rfl
  rw[e,Jg,aeC x l q (by lia),nJ]
def jX(l:List Int):Nat:=FT [] l
def C8(l:List Int):jX l=S l.length λq=>S l.length λp=>if p<q then(if ai l q<ai l p then 1 else 0)else 0:=by unfold jX;rw[Yz];refine jW λq hq=>?_;rw[jS,aeC _ _ q (by lia),abt,show min l.length q=q by lia]
def BI{n:Nat}{r s:List Int}(h:Iv n r s):jX r=jX s:=by
 rw[C8,C8,h.lr,h.ls,<-QC h (λq=>S n λp=>if p<q then(if ai r q<ai r p then 1 else 0)else 0),QB n n λq p=>if p<q then(if ai s q<ai s p then 1 else 0)else 0];refine jW λw hw=>?_;rw[<-QC h (λp=>if p<(ai s w).toNat then(if ai r (ai s w).toNat<ai r p then 1 else 0)else 0)];refine jW λv hv=>?_;obtain⟨h1,h2,h3⟩:=h.sr w hw;obtain⟨g1,g2,g3⟩:=h.sr v hv;rw[h3,g3]
 repeat' split
 all_goals first|rfl|lia
def jy{l:List Int}{i:Int}(h:0<=i)(h2:i<l.length):kU (bK l) i=aa (.int (ai l i.toNat)):=by rw[EB,Lx h,gj (by lia)];rfl
theorem wI{b:D->DE->R DE}{ct:DE->R Bool}{fe:DE->R D}{e₀:DE}(P:Int->Bool):∀(w:List Int),(∀k∈w,∃e,b (.int k) e₀=.ok e/\ct e=.ok (P k)/\fe e=.ok (.int k))->dO b ct fe e₀ (bK w)=.ok (bK (w.filter P))
 |[],_=>rfl
 |k::w,h=>by
  obtain⟨e,h1,h2,h3⟩:=h k (by simp);have ih:=wI P w λx hx=>h x (by simp[hx]);rw[<-xF];unfold dO;rw[h1,R.cD,h2,R.cD,Wb]
  by_cases hp:P k=true
  ·rw[if_pos hp,if_pos hp,h3,R.cD,ih]
   rfl
  ·rw[if_neg hp,if_neg hp,ih]
def Wd(n:Nat)(h:n<=7):ND [.int 1,.int n]=.ok (bK ((bZ (n-1)).map λi=>1+((i:Nat):Int))):=by rw[PZ 1 n (by lia),show((n:Int)-1).toNat=n-1 by lia,Av]
def We{n:Nat}{k:Int}(h:k∈(bZ (n-1)).map λi=>1+((i:Nat):Int)):∃a:Nat,k=(a:Int)+1/\a+1<n:=by obtain⟨i,hi,rfl⟩:=dh.mp h;rw[pP]at hi;exact⟨i,by lia,by lia⟩
def Ha{n:Nat}{r s:List Int}(h:Iv n r s){v:Nat}(hv:v<n):uj (bK r) (.int v)=.ok (.int (ai s v)):=by unfold uj;rw[wF];obtain⟨h1,h2⟩:=h.idx hv;show(if(v:Int)∈r then R.ok (D.int (r.idxOf (v:Int):Nat))else R.bad)=_;rw[if_pos h1,h2]
theorem Hb:∀n:Nat,(bf n [D.int 0]).flatten=bK (bf n 0)
 |0=>rfl
 |n+1=>by rw[gH,fM,Hb n];rfl
def vB{n:Nat}{r s:List Int}(h:Iv n r s)(hn:n<=7):fg [.lst (bK r)]=.ok (bK s):=by
 unfold fg zF;dsimp [mS,mD,mF,dZ,aT,reduceAdd,reduceSub,reduceEqDiff,cZ,h.lr];rw[aaq _ _ ⟨by lia,by lia,big (by rw[bw,bQ,gJ];lia)⟩,bw];have e0:=Hb n;rw[e0];dsimp;obtain⟨t,e,hj⟩:=yU (S:=List Int×Sl×Sl) (b:=oZ) (λi t=>t.1.length=n/\∀p,p<i->p<n->ai t.1 (ai r p).toNat=p) (λt=>[.val (.lst (bK r)),.own (bK t.1),t.2.1,t.2.2]) (je (bK r)) 0 (bf n 0,.no,.no) ⟨Ea,λp hp=>by lia⟩ (by
  rintro j ⟨l,s2,s3⟩ x ⟨hl,hs⟩ hx;obtain⟨c,hc,rfl⟩:=C0 hx;rw[jv]at hs⊢;have hjn:j<n:=by
   have:=(bz.mp hc).1
   rwa [h.lr]at this
  rw[gj (by rw[h.lr];exact hjn)]at hc;have OG:=cj.inj hc;obtain⟨h1,h2,h3⟩:=h.rs j hjn;unfold oZ;dsimp [mS,mD,mF,dZ,aT,reduceAdd,reduceSub,reduceEqDiff,bT2];rw[GG (by lia) (by rw[cZ];have:l.length=n:=hl;lia),Vg,<-OG];refine⟨(l.set (ai r j).toNat j,_,_),rfl,by rw[kW];exact hl,λp hp hpn=>?_⟩;obtain⟨p1,p2,p3⟩:=h.rs p hpn;have hll:l.length=n:=hl;show ai (l.set (ai r j).toNat j) (ai r p).toNat=p;rw[BH (by lia)]
  by_cases ep:p=j
  ·subst ep
   rw[if_pos rfl]
  ·rw[if_neg λz=>by rw[<-z,h3]at p3;lia]
   exact hs p (by lia) hpn)
 obtain⟨l,s2,s3⟩:=t;obtain⟨hl,hs⟩:=hj;dsimp only at e;rw[e];have el:l=s:=by have Vn:l.length=n:=hl;refine cC (by rw[Vn,h.ls]) λv hv=>?_;rw[Vn]at hv;obtain⟨h1,h2,h3⟩:=h.sr v hv;have:=hs (ai s v).toNat (by rw[jv];unfold je;rw[aG,LU,cZ,h.lr];lia) (by lia);rw[h3,bw]at this;dsimp only at this;lia
 rw[el];dsimp [mS,mD,mF,dZ,aT,reduceAdd,reduceSub,reduceEqDiff,nS]
def Hc(l:List Int)(hn:l.length<=7):vA [.lst (bK l)]=.ok (bK (FQ l)):=by
 unfold vA LM;dsimp [mS,mD,mF,dZ,aT,reduceAdd,reduceSub,reduceEqDiff,cZ];rw[Wd _ hn];dsimp [ik];rw[wI (λk=>decide (ai l k.toNat<ai l (k-1).toNat)) _ λk hk=>⟨_,kB _ _ _,by
  obtain⟨a,rfl,ha⟩:=We hk;unfold BA lV;dsimp [mS,mD,mF,dZ,aT,reduceAdd,reduceSub,reduceEqDiff];rw[jy (by lia) (by lia),jy (by lia) (by lia)];dsimp,by
  unfold BC lV;dsimp [mS,mD,mF,dZ,aT,reduceAdd,reduceSub,reduceEqDiff]⟩]
 dsimp [R.gU];have hd:=V4 l;rw[show List.filter _ _=FQ l from rfl,gM (by lia)];dsimp [nS]
def NS{n:Nat}{r s:List Int}(h:Iv n r s)(hn:n<=7):xV [.lst (bK r)]=.ok (bK (FQ s)):=by unfold xV G4;dsimp [mS,mD,mF,dZ,aT,reduceAdd,reduceSub,reduceEqDiff];rw[vB h hn];dsimp;rw[Hc s (by rw[h.ls];exact hn)];dsimp [nS]
def yX{l:List Int}(hn:l.length<=7){a:Nat}(ha:a+1<l.length):cg [.lst (bK l),.int ((a:Int)+1)]=.ok (bK (iX l a)):=by unfold cg lD;dsimp [mS,mD,mF,dZ,aT,reduceAdd,reduceSub,reduceEqDiff,qd];rw[Bo _ _ (by lia),GF _ _ (by lia),jy (by lia) (by lia),jy (by lia) (by lia),show((a:Int)+1-1).toNat=a by lia,show((a:Int)+1+1).toNat=a+2 by lia,show((a:Int)+1).toNat=a+1 by lia];dsimp;rw[show[D.int (ai l (a+1)),D.int (ai l a)]=bK [ai l (a+1),ai l a]from rfl,vx,gM (by simp_all only [b9,jR,bQ,gJ];lia)];dsimp;rw[vx,LQ l a ha,gM (by rw[jV];lia)];dsimp [nS]
def QD{n:Nat}{r s:List Int}(h:Iv n r s)(hn:n<=7){a:Nat}(ha:a+1<n):fO [.lst (bK r),.int ((a:Int)+1)]=.ok (bK (wH r a)):=by unfold fO lW;dsimp [mS,mD,mF,dZ,aT,reduceAdd,reduceSub,reduceEqDiff];rw[vB h hn];dsimp;rw[yX (by rw[h.ls];exact hn) (by rw[h.ls];exact ha)];dsimp;rw[vB (h.step ha).symm hn];dsimp [nS]
abbrev RP:=List Int×List Int
structure Ad where
 dx:ae
 kn:ae
 nu:ae
 fi:ae
 la:ae
 sh:ae
 lo:ae
 ke:ae
 li:ae
 ks:List ae
def Ad.hd (A:Ad):List ae:=[A.dx,A.kn,A.nu,A.fi,A.la,A.sh,A.lo,A.ke,A.li]
def Ad.all (A:Ad):List ae:=A.hd++A.ks
def zV(A:Ad):List (Str×V):=[("known",.ref A.kn),("numbers",.ref A.nu),("firsts",.ref A.fi),("lasts",.ref A.la),("shorter",.ref A.sh),("longer",.ref A.lo),("kept",.ref A.ke),("line",.ref A.li)]
def kk(r:List Int):List Key:=r.map gC
def air(r:List Int):(kk r).map kV=r.map V.int:=by unfold kk;rw[gK];rfl
def QE{r s:List Int}(h:kk r=kk s):r=s:=by unfold kk at h;exact(List.map_inj_right (λx y e=>gC.inj e)).mp h
def Jh(ks:List Int):Int:=ks.foldl (λb k=>EH b (1*2^(k-1).toNat)) 0
def zW(l:List Int):Int:=Jh (FQ l)
def tZ(p:RP)(a:Nat):RP:=(iX p.1 a,wH p.2 a)
def wJ(p:RP)(a:Nat):RP:=(wH p.1 a,iX p.2 a)
def pJ(p q:RP):List Int:=(FQ q.2).filter λk=> !decide (k∈FQ p.1)
def fU:Nat->RP->RP->RP×RP
 |0,p,q=>(p,q)
 |f+1,p,q=>match (pJ p q).getLast? with
  |none=>(p,q)
  |some k=>fU f (tZ p (k-1).toNat) (wJ q (k-1).toNat)
def Iv.uniq {n:Nat}{r r' s:List Int}(h:Iv n r s)(g:Iv n r' s):r=r':=by refine cC (by rw[h.lr,g.lr]) λj hj=>?_;obtain⟨a1,a2,a3⟩:=h.rs j (by rw[h.lr]at hj;exact hj);obtain⟨b1,b2,b3⟩:=g.sr (ai r j).toNat (by lia);rw[a3,bw]at b3;lia
def lX{n:Nat}{p q:RP}(h:Iv n p.1 p.2)(g:Iv n q.1 q.2)(e:p.1=q.1):p=q:=by have h':=h.symm;rw[e]at h';exact Prod.ext e (Iv.uniq h' g.symm)
structure lR(C:ae)(H:Hp)(a:ae)(A:Ad)(ex:List (Str×V))(n:Nat)(kn:List RP)(ln:List Int)(B:Nat)(nu sh lo ke:List (List Key×V)):Prop where
 ob:H a=aa (.ins C A.dx (zV A++ex))
 dx:∃o,H A.dx=aa o
 nd:(a::A.all).Nodup
 hkn:H A.kn=aa (.lst (A.ks.map V.ref))
 Hd:A.ks.length=kn.length
 hks:∀(i:Nat)(b:ae)(p:RP),A.ks[i]?=aa b->kn[i]?=aa p->H b=aa (.lst (p.1.map V.int))
 CD:H A.nu=aa (.dT nu)
 Cg:H A.fi=aa (.lst (kn.map λp=>V.int (zW p.2)))
 hla:H A.la=aa (.lst (kn.map λp=>V.int (zW p.1)))
 hsh:H A.sh=aa (.dT sh)
 hlo:H A.lo=aa (.dT lo)
 hke:H A.ke=aa (.dT ke)
 hli:H A.li=aa (.lst (ln.map V.int))
 rw:∀p∈kn,Iv n p.1 p.2
 n1:∀(i:Nat)(p:RP),kn[i]?=aa p->gP nu (kk p.1)=aa (.int i)
 n2:∀r:List Int,(∀p∈kn,p.1≠r)->gP nu (kk r)=none
 s1:∀(i:Nat)(k:Int)(v:V),gP sh [.inl (i:Int),.inl k]=aa v->∃(j:Nat)(p:RP),kn[i]?=aa p/\kn[j]?=aa (wJ p (k-1).toNat)/\v=.int j
 l1:∀(i:Nat)(k:Int)(v:V),gP lo [.inl (i:Int),.inl k]=aa v->∃(j:Nat)(p:RP),kn[i]?=aa p/\kn[j]?=aa (tZ p (k-1).toNat)/\v=.int j
 k1:∀(i j:Nat)(v:V),gP ke [.inl (i:Int),.inl (j:Int)]=aa v->∃(t:ae)(i' j':Nat)(p q:RP),kn[i]?=aa p/\kn[j]?=aa q/\v=.ref t/\H t=aa (.tup [.int i',.int j'])/\kn[i']?=aa (fU 50 p q).1/\kn[j']?=aa (fU 50 p q).2
 z:kn.length<=B/\nu.length<=B/\sh.length<=B/\lo.length<=B/\ke.length<=B
 li:∀m∈ln,0<=m/\m<kn.length
def lR.same {C:ae}{H H':Hp}{a:ae}{A:Ad}{ex:List (Str×V)}{n:Nat}{kn:List RP}{ln:List Int}{B:Nat}{nu sh lo ke:List (List Key×V)}(c:lR C H a A ex n kn ln B nu sh lo ke)(s:bD H H'):lR C H' a A ex n kn ln B nu sh lo ke:=
 ⟨s _ _ c.ob,let⟨o,h⟩:=c.dx;⟨o,s _ _ h⟩,c.nd,s _ _ c.hkn,c.Hd,λi b p e1 e2=>s _ _ (c.hks i b p e1 e2),s _ _ c.CD,s _ _ c.Cg,s _ _ c.hla,s _ _ c.hsh,s _ _ c.hlo,s _ _ c.hke,s _ _ c.hli,c.rw,c.n1,c.n2,c.s1,c.l1,
  λi j v e=>by obtain⟨t,i',j',p,q,h1,h2,h3,h4,h5⟩:=c.k1 i j v e;exact⟨t,i',j',p,q,h1,h2,h3,s _ _ h4,h5⟩,c.z,c.li⟩
def lR.more {C:ae}{H:Hp}{a:ae}{A:Ad}{ex:List (Str×V)}{n:Nat}{kn:List RP}{ln:List Int}{B B':Nat}{nu sh lo ke:List (List Key×V)}(c:lR C H a A ex n kn ln B nu sh lo ke)(h:B<=B'):lR C H a A ex n kn ln B' nu sh lo ke:=
 {c with z:=by have:=c.z;lia}
structure Nes(a:ae)(A:Ad):Prop where
 n1:A.kn≠A.fi
 n2:A.kn≠A.la
 n3:A.kn≠A.li
 n4:A.fi≠A.la
 n5:A.fi≠A.li
 n6:A.la≠A.li
 m1:A.nu≠A.sh
 m2:A.nu≠A.lo
 m3:A.nu≠A.ke
 m4:A.sh≠A.lo
 m5:A.sh≠A.ke
 m6:A.lo≠A.ke
 YA:∀b∈A.ks,b≠A.kn/\b≠A.fi/\b≠A.la/\b≠A.li
 d1:A.dx≠A.kn
 d2:A.dx≠A.nu
 d3:A.dx≠A.fi
 d4:A.dx≠A.la
 d5:A.dx≠A.sh
 d6:A.dx≠A.lo
 d7:A.dx≠A.ke
 d8:A.dx≠A.li
 d9:a≠A.dx
 ksd:∀b∈A.ks,b≠A.dx
def lR.nes {C:ae}{H:Hp}{a:ae}{A:Ad}{ex:List (Str×V)}{n:Nat}{kn:List RP}{ln:List Int}{B:Nat}{nu sh lo ke:List (List Key×V)}(c:lR C H a A ex n kn ln B nu sh lo ke):
  Nes a A:=by
 have nd:=c.nd;unfold Ad.all Ad.hd at nd;simp only [gI,jS,eR,aO,not_or]at nd;obtain⟨⟨a1,a2⟩,⟨d1,d2,d3,d4,d5,d6,d7,d8,d9⟩,⟨k1,k2,k3,k4,k5,k6,k7,k8⟩,⟨n1,n2,n3,n4,n5,n6,n7⟩,⟨f1,f2,f3,f4,f5,f6⟩,⟨l1,l2,l3,l4,l5⟩,⟨s1,s2,s3,s4⟩,⟨o1,o2,o3⟩,⟨e1,e2⟩,i1,_⟩:=nd;exact⟨k2,k3,k7,f1,f5,l4,n3,n4,n5,s1,s2,o1,λb hb=>⟨λz=>k8 (z▸hb),λz=>f6 (z▸hb),λz=>l5 (z▸hb),λz=>i1 (z▸hb)⟩,d1,d2,d3,d4,d5,d6,d7,d8,a1,λb hb z=>d9 (z▸hb)⟩
structure lS(H H':Hp)(F F':List ae):Prop where
 kp:∀x o,x∉F->H x=aa o->H' x=aa o
 nw:∀x∈F',x∈F\/H x=none
 gr:∀x,H' x=none->H x=none
def lS.refl (H:Hp)(F:List ae):lS H H F F:=⟨λ_ _ _ h=>h,λ_ h=>.inl h,λ_ h=>h⟩
def lS.trans {H H1 H2:Hp}{F F1 F2:List ae}(a:lS H H1 F F1)(b:lS H1 H2 F1 F2):lS H H2 F F2:=
 ⟨λx o hx h=>b.kp x o (λz=>(a.nw x z).elim hx λq=>by rw[h]at q;cases q) (a.kp x o hx h),λx hx=>(b.nw x hx).elim (λz=>a.nw x z) λz=>.inr (a.gr x z),λx hx=>a.gr x (b.gr x hx)⟩
def lS.same {H H1:Hp}(s:bD H H1)(F:List ae):lS H H1 F F:=⟨λx o _ h=>s x o h,λ_ h=>.inl h,λ_ h=>s.free h⟩
theorem lS.upd {H:Hp}{F:List ae}{x:ae}(hx:x∈F)(o:HO):lS H (upd H x o) F F:=⟨λy o' hy h=>by rw[aB (λz=>hy (by rw[z];exact hx))];exact h,λ_ h=>.inl h,λy hy=>by
 by_cases z:y=x
 ·rw[z,aP]at hy;cases hy
 ·rw[aB z]at hy;exact hy⟩
def lR.there {C:ae}{H:Hp}{a:ae}{A:Ad}{ex:List (Str×V)}{n:Nat}{kn:List RP}{ln:List Int}{B:Nat}{nu sh lo ke:List (List Key×V)}(c:lR C H a A ex n kn ln B nu sh lo ke){x:ae}(hx:x∈a::A.all):∃o,H x=aa o:=by
 rcases aO.mp hx with rfl|hx
 ·exact⟨_,c.ob⟩
 ·rcases b8.mp hx with hx|hx
  ·unfold Ad.hd at hx
   simp only [aO,jw,or_false]at hx;rcases hx with rfl|rfl|rfl|rfl|rfl|rfl|rfl|rfl|rfl
   ·exact c.dx
   ·exact⟨_,c.hkn⟩
   ·exact⟨_,c.CD⟩
   ·exact⟨_,c.Cg⟩
   ·exact⟨_,c.hla⟩
   ·exact⟨_,c.hsh⟩
   ·exact⟨_,c.hlo⟩
   ·exact⟨_,c.hke⟩
   ·exact⟨_,c.hli⟩
  ·obtain⟨i,hi,ei⟩:=pZ hx
   exact⟨_,c.hks i x (kn[i]'(by rw[<-c.Hd];exact hi)) (by rw[aQ hi,ei]) (aQ (by rw[<-c.Hd];exact hi))⟩
def uA{α:Type}{l:List α}{x y:α}{i:Nat}(e:(l++[x])[i]?=aa y)(h:¬i<l.length):i=l.length/\x=y:=by
 have h1:=(bz.mp e).1;rw[b9,pV]at h1;have h2:i=l.length:=by lia
 subst h2;exact⟨rfl,by simpa using e⟩
def eg{α:Type}{l m:List α}{x:α}{i:Nat}(e:l[i]?=aa x):(l++m)[i]?=aa x:=by rw[ed (bz.mp e).1];exact e
def lR.add {C:ae}{H H9:Hp}{a:ae}{A:Ad}{ex:List (Str×V)}{n:Nat}{kn:List RP}{ln:List Int}{B:Nat}{nu sh lo ke:List (List Key×V)}(c:lR C H a A ex n kn ln B nu sh lo ke){p:RP}(hm:¬∃q∈kn,q.1=p.1)(iv:Iv n p.1 p.2){l2:ae}(l2H:H l2=none)
  (ob9:H9 a=aa (.ins C A.dx (zV A++ex)))(nu9:H9 A.nu=aa (.dT (putK nu (kk p.1) (.int (kn.length:Int)))))(kn9:H9 A.kn=aa (.lst (A.ks.map V.ref++[.ref l2])))
  (fi9:H9 A.fi=aa (.lst ((kn.map λp=>V.int (zW p.2))++[V.int (zW p.2)])))(la9:H9 A.la=aa (.lst ((kn.map λp=>V.int (zW p.1))++[V.int (zW p.1)])))(l29:H9 l2=aa (.lst (p.1.map V.int)))
  (keep:∀x o,x≠A.nu->x≠A.kn->x≠A.fi->x≠A.la->H x=aa o->H9 x=aa o):lR C H9 a {A with ks:=A.ks++[l2]} ex n (kn++[p]) ln (B+1) (putK nu (kk p.1) (.int (kn.length:Int))) sh lo ke:=by
 have CF:∀j,gP (putK nu (kk p.1) (.int (kn.length:Int))) j=if j=kk p.1 then aa (.int (kn.length:Int))else gP nu j:=λj=>oO nu (kk p.1) j _;have hz:(kn++[p]).length<=B+1/\(putK nu (kk p.1) (.int (kn.length:Int))).length<=B+1/\sh.length<=B+1/\lo.length<=B+1/\ke.length<=B+1:=by have h0:=c.z;have h1:=ky nu (kk p.1) (.int (kn.length:Int));rw[b9,pV];lia
 have hli:∀m∈ln,0<=m/\m<((kn++[p]).length:Int):=λm hm'=>by have:=c.li m hm';rw[b9];lia
 have nl:∀{x y:ae}{xs:List V}{kv:List (List Key×V)},H x=aa (.lst xs)->H y=aa (.dT kv)->x≠y:=λh1 h2=>dE h1 h2 (by intro z;cases z);obtain⟨n1,n2,n3,n4,n5,n6,m1,m2,m3,m4,m5,m6,YA,d1,d2,d3,d4,d5,d6,d7,d8,d9,ksd⟩:=c.nes;refine⟨ob9,?_,?_,by rw[b7];exact kn9,by rw[b9,b9,c.Hd];rfl,λi b' q' e1 e2=>?_,nu9,by rw[b7];exact fi9,by rw[b7];exact la9,
  keep _ _ (Ne.symm m1) (Ne.symm (nl c.hkn c.hsh)) (Ne.symm (nl c.Cg c.hsh)) (Ne.symm (nl c.hla c.hsh)) c.hsh,
  keep _ _ (Ne.symm m2) (Ne.symm (nl c.hkn c.hlo)) (Ne.symm (nl c.Cg c.hlo)) (Ne.symm (nl c.hla c.hlo)) c.hlo,
  keep _ _ (Ne.symm m3) (Ne.symm (nl c.hkn c.hke)) (Ne.symm (nl c.Cg c.hke)) (Ne.symm (nl c.hla c.hke)) c.hke,
  keep _ _ (nl c.hli c.CD) (Ne.symm n3) (Ne.symm n5) (Ne.symm n6) c.hli,λq' Oq=>?_,λi q' e=>?_,λr hr'=>?_,λi k' v e=>?_,λi k' v e=>?_,λi j v e=>?_,hz,hli⟩
 ·obtain⟨o,ho⟩:=c.dx
  exact⟨o,keep _ _ d2 d1 d3 d4 ho⟩
 ·show(a::(A.hd++(A.ks++[l2]))).Nodup
  rw[<-bC,<-gI,LA];refine⟨c.nd,by simp,λx hx y hy=>?_⟩;have ey:y=l2:=by simpa using hy
  rw[ey];intro z;obtain⟨o,ho⟩:=c.there hx;rw[z,l2H]at ho;cases ho
 ·have UB:(A.ks++[l2])[i]?=aa b':=e1
  by_cases hi:i<kn.length
  ·rw[ed (by rw[c.Hd];exact hi)]at UB
   rw[ed hi]at e2;have SD:=YA b' (dm UB);have hbH:=c.hks i b' q' UB e2;exact keep _ _ (nl hbH c.CD) SD.1 SD.2.1 SD.2.2.1 hbH
  ·obtain⟨_,z2⟩:=uA e2 hi
   obtain⟨_,z1⟩:=uA UB (by rw[c.Hd];exact hi);rw[<-z1,<-z2];exact l29
 ·rcases b8.mp Oq with h|h
  ·exact c.rw q' h
  ·have:q'=p:=by simpa using h
   rw[this];exact iv
 ·rw[CF]
  by_cases hi:i<kn.length
  ·rw[ed hi]at e
   have hne:¬kk q'.1=kk p.1:=λz=>hm ⟨q',dm e,QE z⟩;rw[if_neg hne];exact c.n1 i q' e
  ·obtain⟨z1,z2⟩:=uA e hi
   rw[<-z2,if_pos rfl,z1]
 ·rw[CF,if_neg (λz=>hr' p (by simp) (QE z).symm)]
  exact c.n2 r λq' Oq=>hr' q' (by simp[Oq])
 ·obtain⟨j,p',h1,h2,h3⟩:=c.s1 i k' v e
  exact⟨j,p',eg h1,eg h2,h3⟩
 ·obtain⟨j,p',h1,h2,h3⟩:=c.l1 i k' v e
  exact⟨j,p',eg h1,eg h2,h3⟩
 ·obtain⟨t',i',j',p',q',h1,h2,h3,h4,h5,h6⟩:=c.k1 i j v e
  have nt:∀{y:ae}{xs:List V},H y=aa (.lst xs)->t'≠y:=λh=>dE h4 h (by intro z;cases z);exact⟨t',i',j',p',q',eg h1,eg h2,h3,keep _ _ (dE h4 c.CD (by intro z;cases z)) (nt c.hkn) (nt c.Cg) (nt c.hla) h4,eg h5,eg h6⟩
def lR.abv {C:ae}{H:Hp}{a:ae}{A:Ad}{ex:List (Str×V)}{n:Nat}{kn:List RP}{ln:List Int}{B:Nat}{nu sh lo ke:List (List Key×V)}(c:lR C H a A ex n kn ln B nu sh lo ke){i j:Nat}{k:Int}{p:RP}(hi:kn[i]?=aa p)(hj:kn[j]?=aa (wJ p (k-1).toNat)):
  lR C (upd H A.sh (.dT (putK sh [.inl (i:Int),.inl k] (.int j)))) a A ex n kn ln (B+1) nu (putK sh [.inl (i:Int),.inl k] (.int j)) lo ke:=by
 have hz:kn.length<=B+1/\nu.length<=B+1/\(putK sh ([.inl (i:Int),.inl k]:List Key) (.int j)).length<=B+1/\lo.length<=B+1/\ke.length<=B+1:=by have h0:=c.z;have h1:=ky sh ([.inl (i:Int),.inl k]:List Key) (.int j);lia
 have CF:∀x,gP (putK sh ([.inl (i:Int),.inl k]:List Key) (.int j)) x=if x=[.inl (i:Int),.inl k]then aa (.int j)else gP sh x:=λx=>oO sh _ x _;have nl:∀{x:ae}{xs:List V},H x=aa (.lst xs)->x≠A.sh:=λh1=>dE h1 c.hsh (by intro z;cases z);obtain⟨_,_,_,_,_,_,m1,m2,m3,m4,m5,m6,YA,d1,d2,d3,d4,d5,d6,d7,d8,d9,ksd⟩:=c.nes;have kp:∀x o,x≠A.sh->H x=aa o->(upd H A.sh (.dT (putK sh [.inl (i:Int),.inl k] (.int j)))) x=aa o:=λx o hx h=>by rw[aB hx];exact h
 have sem:∀(i':Nat)(k':Int)(v:V),gP (putK sh ([.inl (i:Int),.inl k]:List Key) (.int j)) [.inl (i':Int),.inl k']=aa v->∃(j:Nat)(p:RP),kn[i']?=aa p/\kn[j]?=aa (wJ p (k'-1).toNat)/\v=.int j:=λi' k' v e=>by
  rw[CF]at e;split at e
  ·rename_i z
   injection z with z1 z2;injection z2 with z2 _;have q1:(i':Int)=i:=gC.inj z1;have q2:k'=k:=gC.inj z2;have q3:i'=i:=by lia
   subst q2 q3;cases e;exact⟨j,p,hi,hj,rfl⟩
  ·exact c.s1 i' k' v e
 refine⟨kp _ _ (dE c.ob c.hsh (by intro z;cases z)) c.ob,?_,c.nd,kp _ _ (nl c.hkn) c.hkn,c.Hd,λi b p e1 e2=>kp _ _ (nl (c.hks i b p e1 e2)) (c.hks i b p e1 e2),kp _ _ m1 c.CD,kp _ _ (nl c.Cg) c.Cg,kp _ _ (nl c.hla) c.hla,aP,kp _ _ (Ne.symm m4) c.hlo,kp _ _ (Ne.symm m5) c.hke,kp _ _ (nl c.hli) c.hli,c.rw,c.n1,c.n2,sem,c.l1,λi j v e=>?_,hz,c.li⟩
 ·obtain⟨o,h⟩:=c.dx
  exact⟨o,kp _ _ d5 h⟩
 ·obtain⟨t,i',j',p,q,h1,h2,h3,h4,h5⟩:=c.k1 i j v e
  exact⟨t,i',j',p,q,h1,h2,h3,kp _ _ (dE h4 c.hsh (by intro z;cases z)) h4,h5⟩
def lR.abw {C:ae}{H:Hp}{a:ae}{A:Ad}{ex:List (Str×V)}{n:Nat}{kn:List RP}{ln:List Int}{B:Nat}{nu sh lo ke:List (List Key×V)}(c:lR C H a A ex n kn ln B nu sh lo ke){i j:Nat}{k:Int}{p:RP}(hi:kn[i]?=aa p)(hj:kn[j]?=aa (tZ p (k-1).toNat)):
  lR C (upd H A.lo (.dT (putK lo [.inl (i:Int),.inl k] (.int j)))) a A ex n kn ln (B+1) nu sh (putK lo [.inl (i:Int),.inl k] (.int j)) ke:=by
 have hz:kn.length<=B+1/\nu.length<=B+1/\sh.length<=B+1/\(putK lo ([.inl (i:Int),.inl k]:List Key) (.int j)).length<=B+1/\ke.length<=B+1:=by have h0:=c.z;have h1:=ky lo ([.inl (i:Int),.inl k]:List Key) (.int j);lia
 have CF:∀x,gP (putK lo ([.inl (i:Int),.inl k]:List Key) (.int j)) x=if x=[.inl (i:Int),.inl k]then aa (.int j)else gP lo x:=λx=>oO lo _ x _;have nl:∀{x:ae}{xs:List V},H x=aa (.lst xs)->x≠A.lo:=λh1=>dE h1 c.hlo (by intro z;cases z);obtain⟨_,_,_,_,_,_,m1,m2,m3,m4,m5,m6,YA,d1,d2,d3,d4,d5,d6,d7,d8,d9,ksd⟩:=c.nes;have kp:∀x o,x≠A.lo->H x=aa o->(upd H A.lo (.dT (putK lo [.inl (i:Int),.inl k] (.int j)))) x=aa o:=λx o hx h=>by rw[aB hx];exact h
 have sem:∀(i':Nat)(k':Int)(v:V),gP (putK lo ([.inl (i:Int),.inl k]:List Key) (.int j)) [.inl (i':Int),.inl k']=aa v->∃(j:Nat)(p:RP),kn[i']?=aa p/\kn[j]?=aa (tZ p (k'-1).toNat)/\v=.int j:=λi' k' v e=>by
  rw[CF]at e;split at e
  ·rename_i z
   injection z with z1 z2;injection z2 with z2 _;have q1:(i':Int)=i:=gC.inj z1;have q2:k'=k:=gC.inj z2;have q3:i'=i:=by lia
   subst q2 q3;cases e;exact⟨j,p,hi,hj,rfl⟩
  ·exact c.l1 i' k' v e
 refine⟨kp _ _ (dE c.ob c.hlo (by intro z;cases z)) c.ob,?_,c.nd,kp _ _ (nl c.hkn) c.hkn,c.Hd,λi b p e1 e2=>kp _ _ (nl (c.hks i b p e1 e2)) (c.hks i b p e1 e2),kp _ _ m2 c.CD,kp _ _ (nl c.Cg) c.Cg,kp _ _ (nl c.hla) c.hla,kp _ _ m4 c.hsh,aP,kp _ _ (Ne.symm m6) c.hke,kp _ _ (nl c.hli) c.hli,c.rw,c.n1,c.n2,c.s1,sem,λi j v e=>?_,hz,c.li⟩
 ·obtain⟨o,h⟩:=c.dx
  exact⟨o,kp _ _ d6 h⟩
 ·obtain⟨t,i',j',p,q,h1,h2,h3,h4,h5⟩:=c.k1 i j v e
  exact⟨t,i',j',p,q,h1,h2,h3,kp _ _ (dE h4 c.hlo (by intro z;cases z)) h4,h5⟩
def lR.abx {C:ae}{H:Hp}{a:ae}{A:Ad}{ex:List (Str×V)}{n:Nat}{kn:List RP}{ln:List Int}{B:Nat}{nu sh lo ke:List (List Key×V)}(c:lR C H a A ex n kn ln B nu sh lo ke){i j i' j':Nat}{p q:RP}{t:ae}(hi:kn[i]?=aa p)(hj:kn[j]?=aa q)(ht:H t=aa (.tup [.int i',.int j']))(Bt:kn[i']?=aa (fU 50 p q).1)(Je:kn[j']?=aa (fU 50 p q).2):
  lR C (upd H A.ke (.dT (putK ke [.inl (i:Int),.inl (j:Int)] (.ref t)))) a A ex n kn ln (B+1) nu sh lo (putK ke [.inl (i:Int),.inl (j:Int)] (.ref t)):=by
 have hz:kn.length<=B+1/\nu.length<=B+1/\sh.length<=B+1/\lo.length<=B+1/\(putK ke ([.inl (i:Int),.inl (j:Int)]:List Key) (.ref t)).length<=B+1:=by have h0:=c.z;have h1:=ky ke ([.inl (i:Int),.inl (j:Int)]:List Key) (.ref t);lia
 have CF:∀x,gP (putK ke ([.inl (i:Int),.inl (j:Int)]:List Key) (.ref t)) x=if x=[.inl (i:Int),.inl (j:Int)]then aa (.ref t)else gP ke x:=λx=>oO ke _ x _;have nl:∀{x:ae}{xs:List V},H x=aa (.lst xs)->x≠A.ke:=λh1=>dE h1 c.hke (by intro z;cases z);have nt:∀{x:ae}{xs:List V},H x=aa (.tup xs)->x≠A.ke:=λh1=>dE h1 c.hke (by intro z;cases z);obtain⟨_,_,_,_,_,_,m1,m2,m3,m4,m5,m6,YA,d1,d2,d3,d4,d5,d6,d7,d8,d9,ksd⟩:=c.nes;have kp:∀x o,x≠A.ke->H x=aa o->(upd H A.ke (.dT (putK ke [.inl (i:Int),.inl (j:Int)] (.ref t)))) x=aa o:=λx o hx h=>by rw[aB hx];exact h
 refine⟨kp _ _ (dE c.ob c.hke (by intro z;cases z)) c.ob,?_,c.nd,kp _ _ (nl c.hkn) c.hkn,c.Hd,λi b p e1 e2=>kp _ _ (nl (c.hks i b p e1 e2)) (c.hks i b p e1 e2),kp _ _ m3 c.CD,kp _ _ (nl c.Cg) c.Cg,kp _ _ (nl c.hla) c.hla,kp _ _ m5 c.hsh,kp _ _ m6 c.hlo,aP,kp _ _ (nl c.hli) c.hli,c.rw,c.n1,c.n2,c.s1,c.l1,λx y v e=>?_,hz,c.li⟩
 ·obtain⟨o,h⟩:=c.dx
  exact⟨o,kp _ _ d7 h⟩
 ·rw[CF]at e
  split at e
  ·rename_i z
   injection z with z1 z2;injection z2 with z2 _;have q1:(x:Int)=i:=gC.inj z1;have q2:(y:Int)=j:=gC.inj z2;have q3:x=i:=by lia
   have q4:y=j:=by lia
   subst q3 q4;cases e;exact⟨t,i',j',p,q,hi,hj,rfl,kp _ _ (nt ht) ht,Bt,Je⟩
  ·obtain⟨t,i',j',p,q,h1,h2,h3,h4,h5⟩:=c.k1 x y v e
   exact⟨t,i',j',p,q,h1,h2,h3,kp _ _ (nt h4) h4,h5⟩
section
variable{A:Ad}{ex:List (Str×V)}
def C9:(zV A++ex).lookup ("known":Str)=aa (.ref A.kn):=rfl
def LV:(zV A++ex).lookup ("numbers":Str)=aa (.ref A.nu):=rfl
def QF:(zV A++ex).lookup ("firsts":Str)=aa (.ref A.fi):=rfl
def QG:(zV A++ex).lookup ("lasts":Str)=aa (.ref A.la):=rfl
def LW:(zV A++ex).lookup ("shorter":Str)=aa (.ref A.sh):=rfl
def LX:(zV A++ex).lookup ("longer":Str)=aa (.ref A.lo):=rfl
def QH:(zV A++ex).lookup ("kept":Str)=aa (.ref A.ke):=rfl
def He:(zV A++ex).lookup ("line":Str)=aa (.ref A.li):=rfl
end
def zH(z w:Int):List (Str×V):=[("none",.int z),("whole",.int w)]
def YB{A:Ad}{z w:Int}:(zV A++zH z w).lookup ("none":Str)=aa (.int z):=rfl
def aeD{A:Ad}{z w:Int}:(zV A++zH z w).lookup ("whole":Str)=aa (.int w):=rfl
abbrev six:List Int:=[1,2,3,4,5,6]
def aby(l:List (Int×Bool)):List Int:=(l.filter (·.2)).map (·.1)
def sel(b1 b2 b3 b4 b5 b6:Bool):List Int:=aby [(1,b1),(2,b2),(3,b3),(4,b4),(5,b5),(6,b6)]
theorem BJ(f:Int->Bool):∀l:List Int,l.filter f=aby (l.map λk=>(k,f k))
 |[]=>rfl
 |k::l=>by
  have ih:=BJ f l;unfold aby at ih⊢;rw[bu];cases h:f k with
  |true=>rw[Wf h,Wf (by rfl),bu,ih]
  |false=>rw[Wg (by rw[h];decide),Wg (by simp),ih]
def xZ(f:Int->Bool):six.filter f=sel (f 1) (f 2) (f 3) (f 4) (f 5) (f 6):=BJ f six
def Wh(f:Int->Bool):∀m:Nat,m<=7->((bZ (m-1)).map λi=>1+((i:Nat):Int)).filter f=six.filter λk=>decide (k.toNat<m)&&f k
 |0,_=>rfl
 |1,_=>rfl
 |2,_=>rfl
 |3,_=>rfl
 |4,_=>rfl
 |5,_=>rfl
 |6,_=>rfl
 |7,_=>rfl
 |m+8,h=>by lia
def dsB(l:List Int)(k:Int):Bool:=decide (k.toNat<l.length)&&decide (ai l k.toNat<ai l (k-1).toNat)
def AH{l:List Int}(h:l.length<=7):FQ l=six.filter (dsB l):=Wh _ l.length h
def QI:∀b1 b2 b3 b4 b5 b6 c1 c2 c3 c4 c5 c6:Bool,Ka (Jh (sel b1 b2 b3 b4 b5 b6)) (Kb (Jh (sel c1 c2 c3 c4 c5 c6)))=Jh (sel (b1&& !c1) (b2&& !c2) (b3&& !c3) (b4&& !c4) (b5&& !c5) (b6&& !c6)):=by decide +kernel
def Hf:∀b1 b2 b3 b4 b5 b6:Bool,decide (0<Jh (sel b1 b2 b3 b4 b5 b6))=(sel b1 b2 b3 b4 b5 b6).getLast?.isSome/\∀k∈(sel b1 b2 b3 b4 b5 b6).getLast?,((LO (Jh (sel b1 b2 b3 b4 b5 b6)):Nat):Int)=k:=by decide +kernel
def EY{p q:RP}(hp:p.1.length<=7)(hq:q.2.length<=7):pJ p q=six.filter λk=>dsB q.2 k&& !dsB p.1 k:=by
 unfold pJ;rw[AH hq,AH hp,List.filter_filter];refine List.filter_congr λk hk=>?_;have:decide (k∈six.filter (dsB p.1))=dsB p.1 k:=by rw[wY,decide_eq_true_iff,kM];exact⟨λh=>h.2,λh=>⟨hk,h⟩⟩
 rw[this,Bool.and_comm]
def LY{p q:RP}(hp:p.1.length<=7)(hq:q.2.length<=7):Ka (zW q.2) (Kb (zW p.1))=Jh (pJ p q):=by unfold zW;rw[AH hq,AH hp,EY hp hq,xZ,xZ,xZ];exact QI ..
def QJ{p q:RP}(hp:p.1.length<=7)(hq:q.2.length<=7):decide (0<Jh (pJ p q))=(pJ p q).getLast?.isSome:=by rw[EY hp hq,xZ];exact(Hf ..).1
def QK{p q:RP}(hp:p.1.length<=7)(hq:q.2.length<=7){k:Int}(h:(pJ p q).getLast?=aa k):((LO (Jh (pJ p q)):Nat):Int)=k:=by rw[EY hp hq,xZ]at h⊢;exact(Hf ..).2 k h
theorem Dc:∀(l pre:List Int),FT pre l<=l.length*(pre.length+l.length)
 |[],pre=>by simp[FT]
 |x::l,pre=>by have h1:CC x pre<=pre.length:=V5 _ _;have h2:=Dc l (pre++[x]);rw[b9,pV]at h2;show CC x pre+FT (pre++[x]) l<=(l.length+1)*(pre.length+(l.length+1));rw[Nat.add_mul,show pre.length+(l.length+1)=pre.length+1+l.length by lia];lia
def yY{n:Nat}{p:RP}(hn:n<=7)(h:Iv n p.1 p.2):jX p.1<=49:=by have h1:=Dc p.1 [];rw[h.lr,gJ,jv]at h1;have h2:n*n<=7*7:=Nat.mul_le_mul hn hn;unfold jX;lia
def r9{n:Nat}{p q:RP}(hp:Iv n p.1 p.2)(hq:Iv n q.1 q.2){k:Int}(h:k∈pJ p q):∃j:Nat,k=(j:Int)+1/\j+1<n/\ai p.1 j<ai p.1 (j+1)/\ai q.2 (j+1)<ai q.2 j:=by
 unfold pJ at h;obtain⟨h1,h2⟩:=kM.mp h;obtain⟨j,e,h3,h4⟩:=xY.mp h1;rw[hq.ls]at h3;have h5:k∉FQ p.1:=by simpa using h2
 have h6:¬ai p.1 (j+1)<ai p.1 j:=λz=>h5 (xY.mpr ⟨j,e,by rw[hp.lr];exact h3,z⟩);have h7:ai p.1 j≠ai p.1 (j+1):=λz=>by have:=hp.symm.OC (v:=j) (w:=j+1) (by lia) h3 z;lia
 exact⟨j,e,h3,by lia,h4⟩
def iJ{n:Nat}{p:RP}(h:Iv n p.1 p.2){j:Nat}(hj:j+1<n):Iv n (tZ p j).1 (tZ p j).2:=(h.symm.step hj).symm
def iK{n:Nat}{p:RP}(h:Iv n p.1 p.2){j:Nat}(hj:j+1<n):Iv n (wJ p j).1 (wJ p j).2:=h.step hj
def q8{p q:RP}{k:Int}(f:Nat)(h:(pJ p q).getLast?=aa k):fU (f+1) p q=fU f (tZ p (k-1).toNat) (wJ q (k-1).toNat):=by
 show(match (pJ p q).getLast? with
  |none=>(p,q)
  |some k=>fU f (tZ p (k-1).toNat) (wJ q (k-1).toNat))=_
 rw[h]
def q9{p q:RP}(f:Nat)(h:(pJ p q).getLast?=none):fU f p q=(p,q):=by
 cases f with
 |zero=>rfl
 |succ f=>
  show(match (pJ p q).getLast? with
   |none=>(p,q)
   |some k=>fU f (tZ p (k-1).toNat) (wJ q (k-1).toNat))=_
  rw[h]
def QL{n:Nat}{p:RP}(h:Iv n p.1 p.2){j:Nat}(hj:j+1<n)(hl:ai p.1 j<ai p.1 (j+1)):jX p.1<jX (tZ p j).1:=by have e:=AG p.1 j [] (by rw[h.lr];exact hj);show FT [] p.1<FT [] (iX p.1 j);rw[if_pos hl,if_neg (by lia)]at e;lia
def nI(ls:List Nat):List Int:=ls.map λ(m:Nat)=>(m:Int)
def gk(kn:List RP)(ls:List Nat)(R:List RP):Prop:=ls.map (λm=>kn[m]?)=R.map aa
def gk.len {kn:List RP}{ls:List Nat}{R:List RP}(h:gk kn ls R):ls.length=R.length:=by have:=congrArg length h;simpa using this
theorem gk.at {kn:List RP}{ls:List Nat}{R:List RP}(h:gk kn ls R){i:Nat}{r:RP}(e:R[i]?=aa r):∃m,ls[i]?=aa m/\kn[m]?=aa r:=by
 have h1:(ls.map λm=>kn[m]?)[i]?=(R.map aa)[i]?:=by rw[show ls.map (λm=>kn[m]?)=R.map aa from h]
 rw[bG,bG,e]at h1;cases h2:ls[i]? with
 |none=>rw[h2]at h1;cases h1
 |some m=>rw[h2]at h1;exact⟨m,rfl,cj.inj h1⟩
def gk.mem {kn:List RP}{ls:List Nat}{R:List RP}(h:gk kn ls R){m:Nat}(hm:m∈ls):m<kn.length:=by
 have:kn[m]?∈R.map aa:=by rw[<-show ls.map (λm=>kn[m]?)=R.map aa from h];exact dh.mpr ⟨m,hm,rfl⟩
 obtain⟨r,_,e⟩:=dh.mp this;exact(bz.mp e.symm).1
def gk.li {kn:List RP}{ls:List Nat}{R:List RP}(h:gk kn ls R):∀m∈nI ls,0<=m/\m<kn.length:=λm hm=>by obtain⟨x,hx,rfl⟩:=dh.mp hm;have:=h.mem hx;lia
def gk.pre {kn mo:List RP}{ls:List Nat}{R:List RP}(h:gk kn ls R):gk (kn++mo) ls R:=by unfold gk;rw[<-show ls.map (λm=>kn[m]?)=R.map aa from h];refine se λm hm=>?_;rw[ed (h.mem hm)]
def gk.app {kn:List RP}{ls:List Nat}{R:List RP}(h:gk kn ls R){m:Nat}{r:RP}(e:kn[m]?=aa r):gk kn (ls++[m]) (R++[r]):=by unfold gk;rw[b7,b7,show ls.map (λm=>kn[m]?)=R.map aa from h];simp[e]
theorem gk.set {kn:List RP}{ls:List Nat}{R:List RP}(h:gk kn ls R)(i:Nat){m:Nat}{r:RP}(e:kn[m]?=aa r):gk kn (ls.set i m) (R.set i r):=by unfold gk;rw[xE,xE,show ls.map (λm=>kn[m]?)=R.map aa from h,e]
def gk.drop {kn:List RP}{ls:List Nat}{R:List RP}(h:gk kn ls R):gk kn ls.dropLast R.dropLast:=by unfold gk;rw[AI,AI,show ls.map (λm=>kn[m]?)=R.map aa from h]
def qG(ls:List Nat):(nI ls).length=ls.length:=aG _
def zX:List RP->RP->List RP
 |[],c=>[c]
 |p::ps,c=>if(fU 50 p c).1=p then c::p::ps else(fU 50 p c).2::zX ps (fU 50 p c).1
def x5(R:List RP)(p:RP):List RP:=(zX R.reverse p).reverse
def i6(n:Nat)(R:List RP)(p:RP):List RP:=if(x5 R p).getLast?=aa (upTo n,upTo n)then(x5 R p).dropLast else x5 R p
theorem LZ:∀(R:List RP)(p:RP),(zX R p).length=R.length+1
 |[],p=>rfl
 |r::R,p=>by
  unfold zX;split
  ·rfl
  ·rw[bQ,LZ R,bQ]
def AJ(R:List RP)(p:RP):(x5 R p).length=R.length+1:=by unfold x5;rw[bE,LZ,bE]
def lR.Hg {C:ae}{H:Hp}{a:ae}{A:Ad}{ex:List (Str×V)}{n:Nat}{kn:List RP}{ln:List Int}{B:Nat}{nu sh lo ke:List (List Key×V)}(c:lR C H a A ex n kn ln B nu sh lo ke){ln':List Int}(h:∀m∈ln',0<=m/\m<kn.length):
  lR C (upd H A.li (.lst (ln'.map V.int))) a A ex n kn ln' B nu sh lo ke:=by
 have nd:∀{x:ae}{xs:List (List Key×V)},H x=aa (.dT xs)->x≠A.li:=λh1=>dE h1 c.hli (by intro z;cases z);have nt:∀{x:ae}{xs:List V},H x=aa (.tup xs)->x≠A.li:=λh1=>dE h1 c.hli (by intro z;cases z);obtain⟨n1,n2,n3,n4,n5,n6,_,_,_,_,_,_,YA,d1,d2,d3,d4,d5,d6,d7,d8,d9,ksd⟩:=c.nes;have kp:∀x o,x≠A.li->H x=aa o->(upd H A.li (.lst (ln'.map V.int))) x=aa o:=λx o hx h=>by rw[aB hx];exact h
 refine⟨kp _ _ (dE c.ob c.hli (by intro z;cases z)) c.ob,?_,c.nd,kp _ _ n3 c.hkn,c.Hd,λi b p e1 e2=>kp _ _ (YA b (dm e1)).2.2.2 (c.hks i b p e1 e2),kp _ _ (nd c.CD) c.CD,kp _ _ n5 c.Cg,kp _ _ n6 c.hla,kp _ _ (nd c.hsh) c.hsh,kp _ _ (nd c.hlo) c.hlo,kp _ _ (nd c.hke) c.hke,aP,c.rw,c.n1,c.n2,c.s1,c.l1,λi j v e=>?_,c.z,h⟩
 ·obtain⟨o,h⟩:=c.dx
  exact⟨o,kp _ _ d8 h⟩
 ·obtain⟨t,i',j',p,q,h1,h2,h3,h4,h5⟩:=c.k1 i j v e
  exact⟨t,i',j',p,q,h1,h2,h3,kp _ _ (nt h4) h4,h5⟩
theorem lR.inj {C:ae}{H:Hp}{a:ae}{A:Ad}{ex:List (Str×V)}{n:Nat}{kn:List RP}{ln:List Int}{B:Nat}{nu sh lo ke:List (List Key×V)}(c:lR C H a A ex n kn ln B nu sh lo ke){i j:Nat}{p q:RP}(hi:kn[i]?=aa p)(hj:kn[j]?=aa q):((i:Int)=j↔p=q):=by
 constructor
 ·intro e
  have:i=j:=by lia
  subst this;rw[hi]at hj;exact cj.inj hj
 ·rintro rfl
  have h1:=c.n1 i p hi;rw[c.n1 j p hj]at h1;injection h1 with h1;injection h1 with h1;exact h1.symm
theorem lR.BK {n:Nat}:∀(f:Nat){p q:RP},Iv n p.1 p.2->Iv n q.1 q.2->Iv n (fU f p q).1.1 (fU f p q).1.2/\Iv n (fU f p q).2.1 (fU f p q).2.2
 |0,p,q,h1,h2=>⟨h1,h2⟩
 |f+1,p,q,h1,h2=>by
  cases hl:(pJ p q).getLast? with
  |none=>rw[q9 _ hl];exact⟨h1,h2⟩
  |some k=>
   rw[q8 f hl];obtain⟨j,rfl,hj,_⟩:=r9 h1 h2 (x6 hl);rw[show((j:Int)+1-1).toNat=j by lia];exact lR.BK f (iJ h1 hj) (iK h2 hj)
def A9{α:Type}{l:List α}{x:α}(h:l.getLast?=aa x):kU l (-1)=aa x:=by obtain⟨ys,rfl⟩:=L4.mp h;unfold L2.kU L2.wN;rw[if_neg (by decide),b9,pV,if_pos (by lia)];simp;rw[show(-1+((ys.length:Int)+1)).toNat=ys.length by lia];simp
def L5{α:Type}{l:List α}{x:α}(h:l.getLast?=aa x):l[l.length-1]?=aa x:=by obtain⟨ys,rfl⟩:=L4.mp h;simp
def gk.last {kn:List RP}{ls:List Nat}{R:List RP}(h:gk kn ls R)(hp:0<R.length):∃m r,ls.getLast?=aa m/\R.getLast?=aa r/\kn[m]?=aa r:=by
 have e:R[R.length-1]?=aa (R[R.length-1]'(by lia)):=aQ (by lia);obtain⟨m,h1,h2⟩:=h.at e;refine⟨m,_,?_,?_,h2⟩
 ·rw[L6,h.len];exact h1
 ·rw[L6];exact e
def abz(ls:List Nat)(m:Nat):(nI (ls++[m])).map V.int=(nI ls).map V.int++[V.int m]:=by unfold nI;simp
def yZ{ls:List Nat}{i m:Nat}(h:ls[i]?=aa m):((nI ls).map V.int)[i]?=aa (V.int m):=by unfold nI;rw[bG,bG,h];rfl
def QM(ls:List Nat)(i m:Nat):((nI ls).map V.int).set i (V.int m)=(nI (ls.set i m)).map V.int:=by unfold nI;rw[xE,xE]
def L7(ls:List Nat):((nI ls).map V.int).dropLast=(nI ls.dropLast).map V.int:=by unfold nI;rw[AI,AI]
def AK{ls:List Nat}{m:Nat}(h:ls.getLast?=aa m):((nI ls).map V.int).getLast?=aa (V.int m):=by unfold nI;rw[Wi,Wi,h];rfl
def QN{R:List RP}{t:Nat}{r c:RP}(h:R[t]?=aa r):zX (R.take (t+1)).reverse c=if(fU 50 r c).1=r then c::(R.take (t+1)).reverse else(fU 50 r c).2::zX (R.take t).reverse (fU 50 r c).1:=by
 have e:R.take (t+1)=R.take t++[r]:=by rw[AE,h];rfl
 rw[e,AL];rfl
def lR.YC {C:ae}{H:Hp}{a:ae}{A:Ad}{ex:List (Str×V)}{n:Nat}{kn:List RP}{ln:List Int}{B:Nat}{nu sh lo ke:List (List Key×V)}(c:lR C H a A ex n kn ln B nu sh lo ke)(ex':List (Str×V)):
  lR C (upd H a (.ins C A.dx (zV A++ex'))) a A ex' n kn ln B nu sh lo ke:=by
 have nl:∀{x:ae}{xs:List V},H x=aa (.lst xs)->x≠a:=λh1=>dE h1 c.ob (by intro z;cases z);have nd:∀{x:ae}{xs:List (List Key×V)},H x=aa (.dT xs)->x≠a:=λh1=>dE h1 c.ob (by intro z;cases z);have nt:∀{x:ae}{xs:List V},H x=aa (.tup xs)->x≠a:=λh1=>dE h1 c.ob (by intro z;cases z);obtain⟨_,_,_,_,_,_,_,_,_,_,_,_,_,d1,d2,d3,d4,d5,d6,d7,d8,d9,_⟩:=c.nes;have kp:∀x o,x≠a->H x=aa o->(upd H a (.ins C A.dx (zV A++ex'))) x=aa o:=λx o hx h=>by rw[aB hx];exact h
 refine⟨aP,?_,c.nd,kp _ _ (nl c.hkn) c.hkn,c.Hd,λi b p e1 e2=>kp _ _ (nl (c.hks i b p e1 e2)) (c.hks i b p e1 e2),kp _ _ (nd c.CD) c.CD,kp _ _ (nl c.Cg) c.Cg,kp _ _ (nl c.hla) c.hla,kp _ _ (nd c.hsh) c.hsh,kp _ _ (nd c.hlo) c.hlo,kp _ _ (nd c.hke) c.hke,kp _ _ (nl c.hli) c.hli,c.rw,c.n1,c.n2,c.s1,c.l1,λi j v e=>?_,c.z,c.li⟩
 ·obtain⟨o,h⟩:=c.dx
  exact⟨o,kp _ _ (Ne.symm d9) h⟩
 ·obtain⟨t,i',j',p,q,h1,h2,h3,h4,h5⟩:=c.k1 i j v e
  exact⟨t,i',j',p,q,h1,h2,h3,kp _ _ (nt h4) h4,h5⟩
structure aix(H:Hp)(a C dx:ae)(fs:List (Str×V))(l:ae)(o:HO)(f:Str):Prop where
 f0:l≠a
 f1:(upd H l o) a=aa (.ins C dx fs)
 f2:(upd (upd H l o) a (.ins C dx (oM f (.ref l) fs))) a=aa (.ins C dx (oM f (.ref l) fs))
 f3:(upd (upd H l o) a (.ins C dx (oM f (.ref l) fs))) l=aa o
 f4:(∀x u,x≠a->H x=aa u->(upd (upd H l o) a (.ins C dx (oM f (.ref l) fs))) x=aa u)
 f5:∀x,(upd (upd H l o) a (.ins C dx (oM f (.ref l) fs))) x=none->H x=none
def nC{H:Hp}{a C dx:ae}{fs:List (Str×V)}(hob:H a=aa (.ins C dx fs)){l:ae}(hl:H l=none)(o:HO)(f:Str):
  aix H a C dx fs l o f:=by
 have hla:l≠a:=λz=>by rw[z,hob]at hl;cases hl
 refine⟨hla,by rw[aB (Ne.symm hla)];exact hob,aP,by rw[aB hla];exact aP,λx u hx h=>?_,λx hx=>?_⟩
 ·rw[aB hx,aB (λz=>by rw[z,hl]at h;cases h)]
  exact h
 ·by_cases z:x=a
  ·rw[z,aP]at hx;cases hx
  ·rw[aB z]at hx
   by_cases z2:x=l
   ·rw[z2];exact hl
   ·rw[aB z2]at hx;exact hx
def gY(n:Nat):RP:=((upTo n).reverse,(upTo n).reverse)
def fW(n:Nat)(R:List RP):Nat:=(R.takeWhile λr=>decide (r=gY n)).length
def Hh(n:Nat)(R:List RP):D:=.tup [.int (fW n R),.lst ((R.drop (fW n R)).map λp=>D.lst (bK p.1))]
def o5(n:Nat)(R:List RP):Fm:=(((fW n R:Nat):Int),(R.drop (fW n R)).map (·.1))
def Hi{n:Nat}{R:List RP}{i:Nat}(h:∀j<i,R[j]?=aa (gY n))(hs:R[i]?≠aa (gY n)):fW n R=i:=by
 induction R generalizing i with
 |nil=>
  cases i with
  |zero=>rfl
  |succ i=>have:=h 0 (by lia);simp at this
 |cons r R ih=>
  unfold fW;cases i with
  |zero=>
   have hr:¬r=gY n:=λe=>hs (by rw[e];rfl);rw[EZ (by simp[hr])];rfl
  |succ i=>
   have hr:r=gY n:=by have:=h 0 (by lia);simpa using this
   rw[E3 (by simp[hr]),bQ];have:=ih (i:=i) (λj hj=>by have:=h (j+1) (by lia);simpa using this) (by simpa using hs);unfold fW at this;rw[this]
def QO(n:Nat)(R:List RP)(p:RP):(i6 n R p).length<=R.length+1:=by
 unfold i6;split
 ·rw[KN,AJ];lia
 ·rw[AJ];lia
def tE(r:List Int):List Int:=(upTo r.length).map λv=>((r.idxOf v:Nat):Int)
def si{n:Nat}{r:List Int}(h:bY n r):Iv n r (tE r):=by
 obtain⟨s,iv⟩:=abq h;have e:tE r=s:=by
  refine cC (by unfold tE;rw[aG,aI,iv.lr,iv.ls]) λj hj=>?_;have Je:j<n:=by unfold tE at hj;rwa [aG,aI,iv.lr]at hj
  have hg:(tE r)[j]?=aa ((r.idxOf (j:Int):Nat):Int):=by unfold tE;rw[bG,uz _ j (by rw[iv.lr];exact Je)];rfl
  rw[<-(iv.idx Je).2];unfold ai;rw[hg];rfl
 rw[e];exact iv
def dQ(n:Nat)(rs:List (List Int)):List RP:=rs.foldl (λR r=>i6 n R (r,tE r)) []
def NT{n:Nat}{rs:List (List Int)}{i:Nat}{r:List Int}(h:rs[i]?=aa r):dQ n (rs.take (i+1))=i6 n (dQ n (rs.take i)) (r,tE r):=by unfold dQ;rw[AE,h,qk];rfl
theorem x8(n:Nat):∀(rs:List (List Int))(R:List RP),(rs.foldl (λR r=>i6 n R (r,tE r)) R).length<=R.length+rs.length
 |[],R=>aY _
 |r::rs,R=>by have h:=x8 n rs (i6 n R (r,tE r));have h2:=QO n R (r,tE r);rw[nZ,bQ];lia
def YD(n:Nat)(p y:RP):Prop:=∀i j,i<j->j<n->ai y.2 j<ai y.2 i->ai p.1 i<ai p.1 j
def YE(n:Nat)(w q x:RP):Prop:=∀t,t<n->ai w.2 t=ai x.2 (ai q.2 t).toNat
structure zY(n:Nat)(p0 q0 p q y:RP):Prop where
 iy:Iv n y.1 y.2
 pp:YE n p p0 y
 pq:YE n q0 y q
 ap:YD n p0 y
 aq:YD n y q
 pl:∀t,t<n->ai p.1 t=ai p0.1 (ai y.1 t).toNat
def sw(a t:Nat):Nat:=if t=a then a+1 else if t=a+1 then a else t
def BL{a t n:Nat}(ha:a+1<n)(ht:t<n):sw a t<n:=by
 unfold sw
 repeat' split
 all_goals lia
def QP(a:Nat){x:Int}(h:0<=x):sw a (sg a x).toNat=x.toNat:=by
 unfold sg sw
 repeat' split
 all_goals lia
def gO{l:List Int}{a:Nat}(h:a+1<l.length)(t:Nat):ai (iX l a) t=ai l (sw a t):=by
 rw[nA _ _ h];unfold sw
 repeat' split
 all_goals rfl
def zY.start {n:Nat}{p q:RP}(ip:Iv n p.1 p.2)(hi:Iv n (upTo n) (upTo n)):zY n p q p q (upTo n,upTo n):=by
 have c:∀t,t<n->(ai (upTo n) t).toNat=t:=λt ht=>by rw[aU ht];exact bw t
 refine⟨hi,λt ht=>?_,λt ht=>?_,λi j hij hj h=>?_,λi j hij hj h=>?_,λt ht=>?_⟩
 ·obtain⟨h1,h2,_⟩:=ip.sr t ht
  show _=ai (upTo n) (ai p.2 t).toNat;rw[aU (by lia)];lia
 ·show _=ai q.2 (ai (upTo n) t).toNat
  rw[c t ht]
 ·dsimp only at h
  rw[aU hj,aU (by lia)]at h;lia
 ·dsimp only
  rw[aU hj,aU (by lia)];lia
 ·show _=ai p.1 (ai (upTo n) t).toNat
  rw[c t ht]
def zY.step {n:Nat}{p0 q0 p q y:RP}(o:zY n p0 q0 p q y)(FU:Iv n p0.1 p0.2)(ip:Iv n p.1 p.2)(iq:Iv n q.1 q.2){j:Nat}(hj:j+1<n)(hup:ai p.1 j<ai p.1 (j+1))(hdn:ai q.2 (j+1)<ai q.2 j):zY n p0 q0 (tZ p j) (wJ q j) (tZ y j):=by
 have iy:=o.iy;refine⟨iJ iy hj,λt ht=>?_,λt ht=>?_,λi i' Xy Bt h=>?_,λi i' Xy Bt h=>?_,λt ht=>?_⟩
 ·obtain⟨h1,h2,_⟩:=FU.sr t ht
  show ai (wH p.2 j) t=ai (wH y.2 j) (ai p0.2 t).toNat;rw[cM (by rw[ip.ls];exact ht),cM (by rw[iy.ls];lia),o.pp t ht]
 ·obtain⟨h1,h2,_⟩:=iy.sr t ht
  show ai q0.2 t=ai (iX q.2 j) (ai (wH y.2 j) t).toNat;rw[cM (by rw[iy.ls];exact ht),gO (by rw[iq.ls];exact hj),QP j h1,o.pq t ht]
 ·have h':ai (wH y.2 j) i'<ai (wH y.2 j) i:=h
  rw[cM (by rw[iy.ls];exact Bt),cM (by rw[iy.ls];lia)]at h'
  by_cases hb:ai y.2 i'<ai y.2 i
  ·exact o.ap i i' Xy Bt hb
  ·obtain⟨a1,a2,a3⟩:=iy.sr i (by lia)
   obtain⟨b1,b2,b3⟩:=iy.sr i' Bt;have hne:ai y.2 i≠ai y.2 i':=λe=>by have:=iy.OC (v:=i) (w:=i') (by lia) Bt e;lia
   have hab:ai y.2 i=j/\ai y.2 i'=j+1:=by
    unfold sg at h'
    repeat' split at h'
    all_goals lia
   have e1:=o.pl j (by lia);have e2:=o.pl (j+1) hj;rw[hab.1,bw]at a3;rw[hab.2,show((j:Int)+1).toNat=j+1 by lia]at b3;rw[a3,bw]at e1;rw[b3,bw]at e2;lia
 ·have h':ai (iX q.2 j) i'<ai (iX q.2 j) i:=h
  show ai (iX y.1 j) i<ai (iX y.1 j) i';rw[gO (by rw[iq.ls];exact hj),gO (by rw[iq.ls];exact hj)]at h';rw[gO (by rw[iy.lr];exact hj),gO (by rw[iy.lr];exact hj)]
  by_cases hc:i=j/\i'=j+1
  ·obtain⟨rfl,rfl⟩:=hc
   unfold sw at h';rw[if_pos rfl,if_neg (by lia),if_pos rfl]at h';lia
  ·refine o.aq (sw j i) (sw j i') ?_ (BL hj Bt) h'
   unfold sw
   repeat' split
   all_goals lia
 ·obtain⟨h1,h2,_⟩:=iy.rs (sw j t) (BL hj ht)
  show ai (iX p.1 j) t=ai p0.1 (ai (iX y.1 j) t).toNat;rw[gO (by rw[ip.lr];exact hj),gO (by rw[iy.lr];exact hj),o.pl _ (BL hj ht)]
theorem L8{n:Nat}{p0 q0:RP}(FU:Iv n p0.1 p0.2):∀(f:Nat)(p q y:RP),Iv n p.1 p.2->Iv n q.1 q.2->zY n p0 q0 p q y->∃y',zY n p0 q0 (fU f p q).1 (fU f p q).2 y'
 |0,p,q,y,_,_,o=>⟨y,o⟩
 |f+1,p,q,y,ip,iq,o=>by
  cases h:(pJ p q).getLast? with
  |none=>rw[q9 _ h];exact⟨y,o⟩
  |some k=>
   obtain⟨j,rfl,hj,h1,h2⟩:=r9 ip iq (x6 h);rw[q8 f h,show((j:Int)+1-1).toNat=j by lia];exact L8 FU f _ _ _ (iJ ip hj) (iK iq hj) (o.step FU ip iq hj h1 h2)
theorem AM{n:Nat}(hn:n<=7):∀(f:Nat)(p q:RP),Iv n p.1 p.2->Iv n q.1 q.2->49<f+jX p.1->pJ (fU f p q).1 (fU f p q).2=[]
 |0,p,q,ip,iq,h=>by have:=yY hn ip;lia
 |f+1,p,q,ip,iq,h=>by
  cases hk:(pJ p q).getLast? with
  |none=>
   rw[q9 _ hk];exact List.getLast?_eq_none_iff.mp hk
  |some k=>
   obtain⟨j,rfl,hj,h1,h2⟩:=r9 ip iq (x6 hk);rw[q8 f hk,show((j:Int)+1-1).toNat=j by lia];have:=QL ip hj h1;exact AM hn f _ _ (iJ ip hj) (iK iq hj) (by lia)
def YE.calm {n:Nat}{w q x:RP}(hp:YE n w q x)(iq:Iv n q.1 q.2)(ix:Iv n x.1 x.2)(ad:YD n q x){i j:Nat}(hij:i<=j)(hj:j<n)(h:ai w.2 i<=ai w.2 j):ai q.2 i<=ai q.2 j:=by
 refine jU λhc=>?_;obtain⟨a1,a2,a3⟩:=iq.sr i (by lia);obtain⟨b1,b2,b3⟩:=iq.sr j hj;rw[hp i (by lia),hp j hj]at h;have hne:(ai q.2 j).toNat<(ai q.2 i).toNat:=by lia
 have hx:ai x.2 (ai q.2 i).toNat≠ai x.2 (ai q.2 j).toNat:=λe=>by have:=ix.OC (v:=(ai q.2 i).toNat) (w:=(ai q.2 j).toNat) (by lia) (by lia) e;lia
 have:=ad (ai q.2 j).toNat (ai q.2 i).toNat hne (by lia) (by lia);rw[a3,b3]at this;lia
def gm{p q:RP}{n:Nat}(ip:Iv n p.1 p.2)(iq:Iv n q.1 q.2):pJ p q=[]↔∀j,j+1<n->ai q.2 (j+1)<ai q.2 j->ai p.1 (j+1)<ai p.1 j:=by
 constructor
 ·intro h j hj hd
  refine jU λhc=>?_;have hm:((j:Int)+1)∈pJ p q:=by
   unfold pJ;rw[kM];refine⟨xY.mpr ⟨j,rfl,by rw[iq.ls];exact hj,hd⟩,?_⟩;have:((j:Int)+1)∉FQ p.1:=λz=>by
    obtain⟨a,e,_,h2⟩:=xY.mp z;have:a=j:=by lia
    subst this;exact hc h2
   rw[decide_eq_false this];rfl
  rw[h]at hm;cases hm
 ·intro h
  cases e:pJ p q with
  |nil=>rfl
  |cons k t=>
   obtain⟨j,_,hj,h1,h2⟩:=r9 ip iq (k:=k) (by rw[e];exact g8);have:=h j hj h2;lia
theorem switch(f:Nat->Bool):∀(d u:Nat),f u=false->f (u+d)=true->∃i,u<=i/\i<u+d/\f i=false/\f (i+1)=true
 |0,u,h1,h2=>by rw[Nat.add_zero,h1]at h2;cases h2
 |d+1,u,h1,h2=>by
  cases h:f (u+d)with
  |true=>
   obtain⟨i,a,b,c,e⟩:=switch f d u h1 h;exact⟨i,a,by lia,c,e⟩
  |false=>exact⟨u+d,by lia,by lia,h,h2⟩
def abA{n:Nat}{r q x s' w y w2 s:RP}(ir:Iv n r.1 r.2)(iq:Iv n q.1 q.2)(ix:Iv n x.1 x.2)(is':Iv n s'.1 s'.2)(iw:Iv n w.1 w.2)(iy:Iv n y.1 y.2)(Wj:Iv n w2.1 w2.2)
  (hrq:pJ r q=[])(hws:pJ w s'=[])(hw:YE n w q x)(aqx:YD n q x)(axs:YD n x s')(YF:YE n w y w2)(ayw:YD n y w2)(ary:YD n r y):pJ w2 s'=[]:=by
 refine(gm Wj is').mpr λj hj hd=>jU λhc=>?_;have hstop:=(gm iw is').mp hws j hj hd;obtain⟨v0,v1,v2⟩:=iw.rs j (by lia);obtain⟨u0,u1,u2⟩:=iw.rs (j+1) hj;generalize hv:(ai w.1 j).toNat=v at*;generalize hu:(ai w.1 (j+1)).toNat=u at*;have huv:u<v:=by lia
 have hy:ai y.2 v<ai y.2 u:=by
  refine jU λhz=>?_;obtain⟨a1,a2,a3⟩:=iy.sr u (by lia);obtain⟨b1,b2,b3⟩:=iy.sr v (by lia);have e1:=YF u (by lia);have e2:=YF v (by lia);rw[u2]at e1;rw[v2]at e2;obtain⟨c1,c2,c3⟩:=Wj.sr (ai y.2 u).toNat (by lia);obtain⟨d1,d2,d3⟩:=Wj.sr (ai y.2 v).toNat (by lia);rw[<-e1,show(((j+1:Nat):Int)).toNat=j+1 by lia]at c3;rw[<-e2,bw]at d3;have hne:ai y.2 u≠ai y.2 v:=λe=>by have:=iy.OC (v:=u) (w:=v) (by lia) (by lia) e;lia
  lia
 have hq:ai q.2 v<ai q.2 u:=by
  refine jU λhz=>?_;obtain⟨a1,a2,a3⟩:=iq.sr u (by lia);obtain⟨b1,b2,b3⟩:=iq.sr v (by lia);have e1:=hw u (by lia);have e2:=hw v (by lia);rw[u2]at e1;rw[v2]at e2;have:=axs j (j+1) (by lia) hj hd;obtain⟨c1,c2,c3⟩:=ix.sr (ai q.2 u).toNat (by lia);obtain⟨d1,d2,d3⟩:=ix.sr (ai q.2 v).toNat (by lia);rw[<-e1,show(((j+1:Nat):Int)).toNat=j+1 by lia]at c3;rw[<-e2,bw]at d3;have hne:ai q.2 u≠ai q.2 v:=λe=>by have:=iq.OC (v:=u) (w:=v) (by lia) (by lia) e;lia
  lia
 obtain⟨i,i1,i2,i3,i4⟩:=switch (λt=>decide (ai w.2 t<=j)) (v-u) u (by rw[decide_eq_false];lia) (by rw[show u+(v-u)=v by lia,decide_eq_true];lia);have i3':=of_decide_eq_false i3;have i4':=of_decide_eq_true i4;have y1:=YF.calm iy Wj ayw (i:=u) (j:=i) i1 (by lia) (by lia);have y2:=YF.calm iy Wj ayw (i:=i+1) (j:=v) (by lia) (by lia) (by lia);have q1:=hw.calm iq ix aqx (i:=u) (j:=i) i1 (by lia) (by lia);have q2:=hw.calm iq ix aqx (i:=i+1) (j:=v) (by lia) (by lia) (by lia);have hr:=(gm ir iq).mp hrq i (by lia) (by lia);have:=ary i (i+1) (by lia) (by lia) (by lia);lia
def zI:List RP->Prop
 |q::p::ps=>pJ p q=[]/\zI (p::ps)
 |_=>True
def bO(n:Nat)(R:List RP):Prop:=∀x∈R,Iv n x.1 x.2
def zI.tail {q:RP}{R:List RP}(h:zI (q::R)):zI R:=by
 cases R with
 |nil=>trivial
 |cons p ps=>exact h.2
structure abB(n:Nat)(p c p' c':RP):Prop where
 ip:Iv n p'.1 p'.2
 ic:Iv n c'.1 c'.2
 fr:pJ p' c'=[]
 ex:∃y,zY n p c p' c' y
def jY{n:Nat}(hn:n<=7){p c:RP}(ip:Iv n p.1 p.2)(ic:Iv n c.1 c.2)(hi:Iv n (upTo n) (upTo n)):abB n p c (fU 50 p c).1 (fU 50 p c).2:=
 ⟨(lR.BK 50 ip ic).1,(lR.BK 50 ip ic).2,AM hn 50 p c ip ic (by lia),L8 ip 50 p c _ ip ic (zY.start ip hi)⟩
def abB.none {n:Nat}{p c p' c':RP}(s:abB n p c p' c')(ic:Iv n c.1 c.2)(ip:Iv n p.1 p.2)(e:p'=p):c'=c:=by
 obtain⟨y,o⟩:=s.ex;subst e;have hy:∀t,t<n->ai y.2 t=t:=λt ht=>by have h1:=ip.rs t ht;have:=o.pp (ai p'.1 t).toNat (by lia);rw[h1.2.2,bw]at this;exact this.symm
 refine lX (n:=n) s.ic ic ?_;refine Iv.uniq (n:=n) (s:=c.2) ?_ ic;have:c'.2=c.2:=cC (by rw[s.ic.ls,ic.ls]) λt ht=>by rw[s.ic.ls]at ht;rw[o.pq t ht,hy t ht,bw]
 rw[<-this];exact s.ic
theorem QQ{n:Nat}(hn:n<=7)(hi:Iv n (upTo n) (upTo n)):∀(ps:List RP)(p c:RP),bO n (p::ps)->Iv n c.1 c.2->zI (p::ps)->zI ((fU 50 p c).2::zX ps (fU 50 p c).1)
 |[],p,c,hI,ic,_=>by have s:=jY hn (hI p (by simp)) ic hi;exact⟨s.fr,trivial⟩
 |r::ps,p,c,hI,ic,hL=>by
  have ip:=hI p (by simp);have ir:=hI r (by simp);have s:=jY hn ip ic hi;have s2:=jY hn ir s.ip hi;unfold zX
  by_cases e:(fU 50 r (fU 50 p c).1).1=r
  ·rw[if_pos e]
   have e2:=s2.none s.ip ir e;have f2:=s2.fr;rw[e,e2]at f2;exact⟨s.fr,f2,hL.2⟩
  ·rw[if_neg e]
   refine⟨?_,QQ hn hi ps r _ (λx hx=>hI x (bg _ hx)) s.ip hL.2⟩;obtain⟨x,o⟩:=s.ex;obtain⟨y,o2⟩:=s2.ex;exact abA (s:=c) ir ip o.iy s.ic s.ip o2.iy s2.ic hL.1 s.fr o.pp o.ap o.aq o2.pq o2.aq o2.ap
def abC{n:Nat}(hn:n<=7)(hi:Iv n (upTo n) (upTo n)){R:List RP}{c:RP}(hI:bO n R)(ic:Iv n c.1 c.2)(hL:zI R.reverse):zI (zX R.reverse c):=by
 cases h:R.reverse with
 |nil=>exact trivial
 |cons p ps=>
  rw[h]at hL;have SK:bO n (p::ps):=λx hx=>hI x (by rw[<-qi,h];exact hx);have s:=jY hn (SK p (by simp)) ic hi;unfold zX
  by_cases e:(fU 50 p c).1=p
  ·rw[if_pos e]
   have e2:=s.none ic (SK p (by simp)) e;have f:=s.fr;rw[e,e2]at f;exact⟨f,hL⟩
  ·rw[if_neg e]
   exact QQ hn hi ps p c SK ic hL
def SM(n:Nat)(p:RP):Prop:=∃a,a+1<n/\ai p.2 (a+1)<ai p.2 a
def AO{n:Nat}{p:RP}(ip:Iv n p.1 p.2)(hi:Iv n (upTo n) (upTo n))(h:¬SM n p):p=(upTo n,upTo n):=
 lX (n:=n) ip hi (V6 ip λa ha hd=>h ⟨a,ha,hd⟩)
def QR{n:Nat}{p:RP}(h:SM n p):p≠(upTo n,upTo n):=λe=>by obtain⟨a,ha,hd⟩:=h;rw[e]at hd;dsimp only at hd;rw[aU ha,aU (by lia)]at hd;lia
def YE.nst {n:Nat}{w q x:RP}(hp:YE n w q x)(iq:Iv n q.1 q.2)(ix:Iv n x.1 x.2)(ad:YD n q x){a:Nat}(ha:a+1<n)(h:ai q.2 (a+1)<ai q.2 a):ai w.2 (a+1)<ai w.2 a:=by refine jU λhc=>?_;have:=hp.calm iq ix ad (i:=a) (j:=a+1) (by lia) ha (by lia);lia
theorem QS{n:Nat}(hn:n<=7)(hi:Iv n (upTo n) (upTo n)):∀(ps:List RP)(p c:RP),bO n (p::ps)->Iv n c.1 c.2->zI (p::ps)->(∀x∈p::ps,SM n x)->∀x∈zX ps (fU 50 p c).1,SM n x
 |[],p,c,hI,ic,_,hN,x,hx=>by have s:=jY hn (hI p (by simp)) ic hi;obtain⟨y,o⟩:=s.ex;obtain⟨a,ha,hd⟩:=hN p (by simp);rw[cL.mp hx];exact⟨a,ha,o.pp.nst (hI p (by simp)) o.iy o.ap ha hd⟩
 |r::ps,p,c,hI,ic,hL,hN,x,hx=>by
  have ip:=hI p (by simp);have ir:=hI r (by simp);have s:=jY hn ip ic hi;have s2:=jY hn ir s.ip hi;obtain⟨z,o⟩:=s.ex;obtain⟨y,o2⟩:=s2.ex;obtain⟨a,ha,hd⟩:=hN p (by simp);have S7:=o.pp.nst ip o.iy o.ap ha hd;unfold zX at hx
  by_cases e:(fU 50 r (fU 50 p c).1).1=r
  ·rw[if_pos e]at hx
   rcases aO.mp hx with rfl|hx
   ·exact⟨a,ha,S7⟩
   ·exact hN x (bg _ hx)
  ·rw[if_neg e]at hx
   rcases aO.mp hx with rfl|hx
   ·refine jU λhc=>?_
    have e2:=AO s2.ic hi hc;have hy:∀t,t<n->ai (fU 50 p c).1.2 t=ai y.2 t:=λt ht=>by have h1:=o2.iy.sr t ht;have:=o2.pq t ht;rw[e2]at this;dsimp only at this;rw[aU (by lia)]at this;lia
    rw[hy _ ha,hy _ (by lia)]at S7;have h1:=o2.ap a (a+1) (by lia) ha S7;have h2:=(gm ir ip).mp hL.1 a ha hd;lia
   ·exact QS hn hi ps r _ (λx hx=>hI x (bg _ hx)) s.ip hL.2 (λx hx=>hN x (bg _ hx)) x hx
structure sj(n:Nat)(R:List RP):Prop where
 iv:bO n R
 lw:zI R.reverse
 ns:∀x∈R,SM n x
theorem E4{n:Nat}:∀(R:List RP)(p:RP),(∀x∈R,Iv n x.1 x.2)->Iv n p.1 p.2->∀x∈zX R p,Iv n x.1 x.2
 |[],p,_,hp,x,hx=>by rw[cL.mp hx];exact hp
 |r::R,p,hR,hp,x,hx=>by
  obtain⟨i1,i2⟩:=lR.BK 50 (hR r (by simp)) hp;unfold zX at hx;split at hx
  ·rcases aO.mp hx with rfl|hx
   ·exact hp
   ·exact hR x hx
  ·rcases aO.mp hx with rfl|hx
   ·exact i2
   ·exact E4 R _ (λy hy=>hR y (by simp[hy])) i1 x hx
def QT{n:Nat}(hn:n<=7)(hi:Iv n (upTo n) (upTo n)){R:List RP}{c:RP}(h:sj n R)(ic:Iv n c.1 c.2):∃d T,zX R.reverse c=d::T/\∀x∈T,SM n x:=by
 cases hr:R.reverse with
 |nil=>exact⟨c,[],rfl,λx hx=>nomatch hx⟩
 |cons p ps=>
  have SK:bO n (p::ps):=λx hx=>h.iv x (by rw[<-qi,hr];exact hx);have hN':∀x∈p::ps,SM n x:=λx hx=>h.ns x (by rw[<-qi,hr];exact hx);have hL:=h.lw;rw[hr]at hL;unfold zX
  by_cases e:(fU 50 p c).1=p
  ·rw[if_pos e]
   exact⟨c,p::ps,rfl,hN'⟩
  ·rw[if_neg e]
   exact⟨_,_,rfl,QS hn hi ps p c SK ic hL hN'⟩
def Ji{n:Nat}(hn:n<=7)(hi:Iv n (upTo n) (upTo n)){R:List RP}{c:RP}(h:sj n R)(ic:Iv n c.1 c.2):sj n (i6 n R c):=by
 have hlw:=abC hn hi h.iv ic h.lw;have hiv:=E4 R.reverse c (λx hx=>h.iv x (by simpa using hx)) ic;obtain⟨d,T,e,hT⟩:=QT hn hi h ic;have aeF:(x5 R c).getLast?=aa d:=by unfold x5;rw[e];simp
 have aeG:(x5 R c).dropLast=T.reverse:=by unfold x5;rw[e];simp
 unfold i6;rw[aeF]
 by_cases hd:aa d=aa (upTo n,upTo n)
 ·rw[if_pos hd,aeG]
  rw[e]at hlw hiv;exact⟨λx hx=>hiv x (bg _ (by simpa using hx)),by rw[lE];exact hlw.tail,λx hx=>hT x (by simpa using hx)⟩
 ·rw[if_neg hd]
  unfold x5;refine⟨λx hx=>hiv x (by simpa using hx),by rw[lE];exact hlw,λx hx=>?_⟩;rw[qi,e]at hx;rcases aO.mp hx with rfl|hx
  ·refine jU λhc=>hd ?_
   rw[AO (hiv x (by rw[e];exact g8)) hi hc]
  ·exact hT x hx
theorem L9{n:Nat}(hn:n<=7)(hi:Iv n (upTo n) (upTo n)):∀(rs:List (List Int))(R:List RP),(∀r∈rs,bY n r)->sj n R->sj n (rs.foldl (λR r=>i6 n R (r,tE r)) R)
 |[],R,_,h=>h
 |r::rs,R,hr,h=>L9 hn hi rs _ (λx hx=>hr x (by simp[hx])) (Ji hn hi h (si (hr r (by simp))))
def y4{n:Nat}{r s:List Int}(h:Iv n r s)(hd:∀j,j+1<n->ai r (j+1)<ai r j):r=(upTo n).reverse:=by
 have up:∀j,j<n->ai r j<=(n:Int)-1-j:=λj=>by
  induction j with
  |zero=>intro h0;have:=(h.rs 0 h0).2.1;lia
  |succ j ih=>intro hj;have:=ih (by lia);have:=hd j hj;lia
 have dn:∀d j,j+d+1=n->(d:Int)<=ai r j:=λd=>by
  induction d with
  |zero=>intro j hj;exact(h.rs j (by lia)).1
  |succ d ih=>intro j hj;have:=ih (j+1) (by lia);have:=hd j (by lia);lia
 refine cC (by rw[h.lr,bE,aI]) λj hj=>?_;rw[h.lr]at hj;have h1:=up j hj;have h2:=dn (n-1-j) j (by lia);have h3:ai (upTo n).reverse j=((n-1-j:Nat):Int):=by unfold ai;rw[rT (by rw[aI];exact hj),aI,uz n _ (by lia)];rfl
 lia
def Jj{n:Nat}{p:RP}(ip:Iv n p.1 p.2)(hh:Iv n (gY n).1 (gY n).2)(h:pJ p (gY n)=[]):p=gY n:=by
 refine lX (n:=n) ip hh (y4 ip λj hj=>(gm ip hh).mp h j hj ?_);have c:∀p,p<n->ai (upTo n).reverse p=((n-1-p:Nat):Int):=λp hp=>by unfold ai;rw[rT (by rw[aI];exact hp),aI,uz n _ (by lia)];rfl
 show ai (upTo n).reverse (j+1)<ai (upTo n).reverse j;rw[c _ hj,c _ (by lia)];lia
theorem zI.at_:∀{l A B:List RP}{p q:RP},zI l->l=A++q::p::B->pJ p q=[]
 |_,[],B,p,q,h,e=>by rw[e]at h;exact h.1
 |l,a::A,B,p,q,h,e=>by rw[e,gI]at h;exact zI.at_ h.tail rfl
def sj.nb {n:Nat}{R A B:List RP}{p q:RP}(h:sj n R)(e:R=A++p::q::B):pJ p q=[]:=
 h.lw.at_ (A:=B.reverse) (B:=A.reverse) (by rw[e];simp)
theorem Mb{n:Nat}(hh:Iv n (gY n).1 (gY n).2){R:List RP}(h:sj n R):∀(B A:List RP)(p:RP),R=A++p::B->p≠gY n->∀x∈p::B,x≠gY n
 |[],A,p,e,hp,x,hx=>by rw[cL.mp hx];exact hp
 |q::B,A,p,e,hp,x,hx=>by
  have ip:=h.iv p (by rw[e];simp);have hq:q≠gY n:=λz=>by have:=h.nb e;rw[z]at this;exact hp (Jj ip hh this)
  rcases aO.mp hx with rfl|hx
  ·exact hp
  ·exact Mb hh h B (A++[p]) q (by rw[e];simp) hq x hx
def BN{n:Nat}(R:List RP):R=bf (fW n R) (gY n)++R.drop (fW n R):=by
 unfold fW
 induction R with
 |nil=>rfl
 |cons p R ih=>
  by_cases h:p=gY n
  ·rw[E3 (by simpa using h),bQ,gH,Mc,gI,<-ih,h]
  ·rw[EZ (by simpa using h)]
   rfl
def Hj{n:Nat}(R:List RP):∀p B,R.drop (fW n R)=p::B->p≠gY n:=by
 unfold fW
 induction R with
 |nil=>intro p B h;cases h
 |cons q R ih=>
  intro p B h
  by_cases hq:q=gY n
  ·rw[E3 (by simpa using hq),bQ,Mc]at h
   exact ih p B h
  ·rw[EZ (by simpa using hq)]at h
   have:q=p:=(List.cons.inj h).1;rw[<-this];exact hq
def NU{n:Nat}(hh:Iv n (gY n).1 (gY n).2){R:List RP}(h:sj n R):∀x∈R.drop (fW n R),x≠gY n:=λx hx=>by
 cases e:R.drop (fW n R)with
 |nil=>rw[e]at hx;cases hx
 |cons p B=>
  rw[e]at hx;exact Mb hh h B (bf (fW n R) (gY n)) p (by rw[<-e];exact BN R) (Hj R p B e) x hx
def cmp(o r:List Int):List Int:=r.map λs=>ai o s.toNat
def CG(o:List Int)(R:List (List Int)):List Int:=R.foldl cmp o
def oH(R:List (List Int)):Nat:=(R.map jX).sum
def gV{o r:List Int}{t:Nat}(h:t<r.length):ai (cmp o r) t=ai o (ai r t).toNat:=by unfold cmp;have:=gj h;unfold ai at this⊢;rw[bG,this];rfl
def sy(o:List Int)(a b:List (List Int)):CG o (a++b)=CG (CG o a) b:=qk
def x9(a b:List (List Int)):oH (a++b)=oH a+oH b:=by unfold oH;rw[b7,LR]
def Md{n:Nat}{o r q s:List Int}(iq:Iv n q s)(hr:r.length=n):cmp (cmp o r) q=cmp o (cmp r q):=by
 refine cC (by unfold cmp;simp) λt ht=>?_;have Ox:t<q.length:=by unfold cmp at ht;simpa using ht
 have h1:=iq.rs t (by rw[<-iq.lr];exact Ox);rw[gV Ox,gV (by rw[hr];lia),gV (by unfold cmp;simpa using Ox),gV Ox]
def zY.prd {n:Nat}{p0 q0 p q y:RP}(o:zY n p0 q0 p q y)(NV:Iv n q0.1 q0.2)(FU:Iv n p0.1 p0.2)(ip:Iv n p.1 p.2)(iq:Iv n q.1 q.2):cmp p.1 q.1=cmp p0.1 q0.1:=by
 refine cC (by unfold cmp;simp[iq.lr,NV.lr]) λt ht=>?_;have Ox:t<n:=by unfold cmp at ht;rw[aG,iq.lr]at ht;exact ht
 rw[gV (by rw[iq.lr];exact Ox),gV (by rw[NV.lr];exact Ox)];obtain⟨a1,a2,a3⟩:=iq.rs t Ox;obtain⟨b1,b2,b3⟩:=NV.rs t Ox;obtain⟨c1,c2,c3⟩:=o.iy.rs (ai q.1 t).toNat (by lia);rw[o.pl _ (by lia)];have h1:=o.pq (ai y.1 (ai q.1 t).toNat).toNat (by lia);rw[c3,bw,a3]at h1;have:=NV.OC (v:=(ai y.1 (ai q.1 t).toNat).toNat) (w:=(ai q0.1 t).toNat) (by lia) (by lia) (by rw[h1,b3]);rw[this]
def E5{n:Nat}{o s:List Int}(h:Iv n o s){a:Nat}(ha:a+1<n):(ai o a<ai o (a+1)->jX (iX o a)=jX o+1)/\(ai o (a+1)<ai o a->jX (iX o a)+1=jX o):=by
 have e:=AG o a [] (by rw[h.lr];exact ha);unfold jX;constructor
 ·intro c
  rw[if_neg (by lia),if_pos c]at e;lia
 ·intro c
  rw[if_pos c,if_neg (by lia)]at e;lia
theorem Me{n:Nat}:∀(f:Nat)(p q:RP),Iv n p.1 p.2->Iv n q.1 q.2->jX (fU f p q).1.1+jX (fU f p q).2.1=jX p.1+jX q.1
 |0,p,q,_,_=>rfl
 |f+1,p,q,ip,iq=>by
  cases h:(pJ p q).getLast? with
  |none=>rw[q9 _ h]
  |some k=>
   obtain⟨j,rfl,hj,h1,h2⟩:=r9 ip iq (x6 h);rw[q8 f h,show((j:Int)+1-1).toNat=j by lia,Me f _ _ (iJ ip hj) (iK iq hj)];have e1:=(E5 ip hj).1 h1;have e2:=(E5 iq.symm hj).2 h2;have e3:=BI iq;have e4:=BI (iK iq hj);show jX (iX p.1 j)+jX (wJ q j).1=_;have e5:jX (wJ q j).2=jX (iX q.2 j):=rfl;lia
def QU{n:Nat}(hn:n<=7)(hi:Iv n (upTo n) (upTo n)){p c:RP}(ip:Iv n p.1 p.2)(ic:Iv n c.1 c.2):cmp (fU 50 p c).1.1 (fU 50 p c).2.1=cmp p.1 c.1:=by have s:=jY hn ip ic hi;obtain⟨y,o⟩:=s.ex;exact o.prd ic ip s.ip s.ic
def fwd(R:List RP):List (List Int):=(R.reverse).map (·.1)
def rf(p:RP)(R:List RP):fwd (p::R)=fwd R++[p.1]:=by unfold fwd;simp
theorem Mf{n:Nat}(hn:n<=7)(hi:Iv n (upTo n) (upTo n)):∀(R:List RP)(c:RP),bO n R->Iv n c.1 c.2->(∀o,CG o (fwd (zX R c))=CG o (fwd R++[c.1]))/\oH (fwd (zX R c))=oH (fwd R)+jX c.1
 |[],c,_,_=>⟨λo=>rfl,by unfold zX oH fwd;simp⟩
 |p::ps,c,hI,ic=>by
  have ip:=hI p (by simp);have s:=jY hn ip ic hi;unfold zX
  by_cases e:(fU 50 p c).1=p
  ·rw[if_pos e]
   exact⟨λo=>by rw[rf],by rw[rf,x9];simp[oH]⟩
  ·rw[if_neg e]
   obtain⟨h1,h2⟩:=Mf hn hi ps (fU 50 p c).1 (λx hx=>hI x (by simp[hx])) s.ip;refine⟨λo=>?_,?_⟩
   ·rw[rf,sy,h1 o,rf,bC,sy,sy]
    show cmp (cmp (CG o (fwd ps)) (fU 50 p c).1.1) (fU 50 p c).2.1=cmp (cmp (CG o (fwd ps)) p.1) c.1;rw[Md s.ic s.ip.lr,QU hn hi ip ic,<-Md ic ip.lr]
   ·rw[rf,x9,h2,rf,x9]
    have:=Me 50 p c ip ic;have e1:∀r:List Int,oH [r]=jX r:=λr=>by simp[oH]
    rw[e1,e1];lia
def Wk{n:Nat}(hn:n<=7)(hi:Iv n (upTo n) (upTo n))(c0:jX (upTo n)=0){R:List RP}{c:RP}(hI:bO n R)(ic:Iv n c.1 c.2):(∀o:List Int,o.length=n->CG o ((i6 n R c).map (·.1))=CG o (R.map (·.1)++[c.1]))/\oH ((i6 n R c).map (·.1))=oH (R.map (·.1))+jX c.1:=by
 have SK:bO n R.reverse:=λx hx=>hI x (by simpa using hx);obtain⟨h1,h2⟩:=Mf hn hi R.reverse c SK ic;have ef:fwd (zX R.reverse c)=(x5 R c).map (·.1):=rfl;have er:fwd R.reverse=R.map (·.1):=by unfold fwd;rw[lE]
 rw[ef,er]at h2;unfold i6
 by_cases hd:(x5 R c).getLast?=aa (upTo n,upTo n)
 ·rw[if_pos hd]
  have hne:x5 R c≠[]:=λz=>by rw[z]at hd;cases hd
  have Cp:(x5 R c).dropLast++[(upTo n,upTo n)]=x5 R c:=by have:=Mg hne;rw[Mh hne]at hd;rw[cj.inj hd]at this;exact this
  rw[<-Cp,b7,x9]at h2;have e1:oH ([((upTo n,upTo n):RP)].map (·.1))=0:=by simp[oH,c0]
  rw[e1]at h2;refine⟨λo ho=>?_,h2⟩;have h3:=h1 o;rw[ef,er,<-Cp,b7,sy]at h3;rw[<-h3];show _=cmp (CG o ((x5 R c).dropLast.map (·.1))) (upTo n);have hl:(CG o ((x5 R c).dropLast.map (·.1))).length=n:=by
   have hiv:=E4 R.reverse c (λx hx=>hI x (by simpa using hx)) ic;have ha:∀x∈(x5 R c).dropLast,x.1.length=n:=λx hx=>by rw[Er]at hx;have:=AD hx;unfold x5 at this;exact(hiv x (by simpa using this)).lr
   generalize (x5 R c).dropLast=Z at ha;clear Cp h3 h2 h1
   induction Z generalizing o with
   |nil=>exact ho
   |cons z Z ih=>
    refine ih (cmp o z.1) ?_ λx hx=>ha x (by simp[hx]);unfold cmp;rw[aG];exact ha z (by simp)
  refine cC (by unfold cmp;rw[aG,hl,aI]) λt ht=>?_;rw[hl]at ht;rw[gV (by rw[aI];exact ht),aU ht,bw]
 ·rw[if_neg hd]
  exact⟨λo _=>by have:=h1 o;rw[ef,er]at this;exact this,h2⟩
noncomputable def tCI(K:ak)(caps:List Nat)(tl te:TE):TE:=λσ H Q=>J0 K tl σ H λJ H1=>∃(l:ae)(xs vs:List V),J=Sv K l/\fG K H1 l xs/\vs.length=caps.length/\(∀(j i:Nat)(v:V),caps[j]?=aa i->vs[j]?=aa v->σ[i]?=aa (aa v))/\
 ∀Dd,H1 Dd=none->∃Pv:Nat->List V->Hp->Prop,Pv 0 [] (upd H1 Dd (.lst []))/\(∀i acc Hx,Pv i acc Hx->fG K Hx l xs/\Hx Dd=aa (.lst acc))/\
  (∀i acc Hx x,Pv i acc Hx->xs[i]?=aa x->te (aa x::vs.map aa) Hx λv H2=>H2 Dd=aa (.lst acc)/\acc.length<aH/\Pv (i+1) (acc++[v]) (upd H2 Dd (.lst (acc++[v]))))/\∀acc Hx,Pv xs.length acc Hx->Q (.ref Dd) Hx
section
variable{X:Cx}{pos:Pos}{scope:cU}{N:List Str}{caps:List Nat}
def QV{elt tg iter:ao}{tl te:TE}(S:lg X scope N 1 caps)(Be:X.calm=true)(hi:PI X tg iter (J0 X.K tl))(hg:∀s H fp C pl,PG (vV X scope N s H fp C pl) tg (F6 0))(he:∀s H fp C pl,PE (vV X scope N s H fp C pl) elt te)
  (hs:∀x,rJ iter X.env x=aW x:=by intro _;rfl):PE X (.ListComp elt [⟨tg,iter,[],0⟩] scope pos) (tCI X.K caps tl te):=by
 intro pins s σ H Q I h;rw[eval_ListComp];refine UQ (use:=none) rfl hs (vZ (S.cells I)) S.kind S.names ?_;refine fz (hi pins s σ H (λJ H1=>∃(l:ae)(xs vs:List V),J=Sv X.K l/\fG X.K H1 l xs/\vs.length=caps.length/\(∀(j i:Nat)(v:V),caps[j]?=aa i->vs[j]?=aa v->σ[i]?=aa (aa v))/\
  ∀Dd,H1 Dd=none->∃Pv:Nat->List V->Hp->Prop,Pv 0 [] (upd H1 Dd (.lst []))/\(∀i acc Hx,Pv i acc Hx->fG X.K Hx l xs/\Hx Dd=aa (.lst acc))/\
   (∀i acc Hx x,Pv i acc Hx->xs[i]?=aa x->te (aa x::vs.map aa) Hx λv H2=>H2 Dd=aa (.lst acc)/\acc.length<aH/\Pv (i+1) (acc++[v]) (upd H2 Dd (.lst (acc++[v]))))/\∀acc Hx,Pv xs.length acc Hx->Q (.ref Dd) Hx) I ?_) λv s1 h1=>fz h1 λitv s2 h2=>?_
 ·exact h
 obtain⟨it,fp,tn,J,H2,rfl,I2,T,Sw,f2,l,xs,vs,rfl,hq,hvl,hvs,hinv⟩:=h2;refine DQ (UT S.cell (by intro y hy;simp at hy) (λh₁ IP hsb₁=>?_) S.kind);dsimp only at IP hsb₁⊢;have Z5:H2 s2.heap.objs.size=none:=I2.hok.fresh (aY _);have I3:Inv X pins σ (upd H2 s2.heap.objs.size (.lst [])) {s2 with heap:=s2.heap.push {cls:=.type "list",dict:=none,data:=.seq ([]:List ah).toArray}}:=
  I2.laid (t':=s2.toks) (λb u e=>cQ _ e) (aY _) ⟨iR _,[],0,.nil,iP _ rfl⟩
 generalize hs3:({s2 with heap:=s2.heap.push {cls:=.type "list",dict:=none,data:=.seq ([]:List ah).toArray}}:aj)=s3 at I3;have Z6:s3.heap=s2.heap.push {cls:=.type "list",dict:=none,data:=.seq ([]:List ah).toArray}:=by rw[<-hs3]
 rw[<-Z6]at IP hsb₁⊢;generalize hDd:s2.heap.objs.size=Dd at*;have k3:∀b o,s3.heap.get? b=aa o->h₁.get? b=aa o:=λb o e=>hsb₁.extBut b o (du (bM e)) (cQ _ e);have Pw:∀b∈fp,∃o,s2.heap.get? b=aa o:=λb hb=>let⟨o,e,_⟩:=T.obj 0 _ Sw b hb;⟨o,e⟩
 have Z7:∀b∈fp,∃o,s3.heap.get? b=aa o:=λb hb=>let⟨o,e⟩:=Pw b hb;⟨o,by rw[Z6];exact cQ _ e⟩
 have hfD:∀b∈fp,b≠Dd:=λb hb=>let⟨o,e⟩:=Pw b hb;by rw[<-hDd];exact du (bM e)
 have f3:∀b∈fp,rG X pins (upd H2 Dd (.lst [])) b:=λb hb=>⟨by rw[aB (hfD b hb)];exact(f2 b hb).1,(f2 b hb).2⟩
 have I4:=S.start (t':=s2.toks+([]:List (Str×ah)).length) I3 f3 (aY _) IP k3 Z7 hvl (λj i v e1 e2=>hvs j i v e1 e2) _ rfl;generalize hX:vV X scope N s3 (upd H2 Dd (.lst [])) fp s3.heap.objs.size (X.pn++pins)=X' at I4;have hg':=hg s3 (upd H2 Dd (.lst [])) fp s3.heap.objs.size (X.pn++pins);have Z8:=he s3 (upd H2 Dd (.lst [])) fp s3.heap.objs.size (X.pn++pins);rw[hX]at hg' Z8;have eK:X'.K=X.K:=by rw[<-hX];rfl
 have eP:X'.prog=X.prog:=by rw[<-hX];rfl
 have eW:X'.w=X.w:=by rw[<-hX];rfl
 have eA:X'.A=X.A:=by rw[<-hX];rfl
 have eE:X'.xe=λ_ _=>False:=by rw[<-hX];rfl
 have eC:X'.calm=true:=by rw[<-hX];exact Be
 have eL:X'.env.locals=s3.heap.objs.size:=by rw[<-hX];rfl
 have eS:X'.s₀=s3:=by rw[<-hX];rfl
 have eX:X'.ex=fp:=by rw[<-hX];rfl
 have eF:X'.fs=Ij X.stack:=by rw[<-hX];rfl
 have eN:X'.pn=X.pn++pins:=by rw[<-hX];rfl
 have eH:X'.H₀=upd H2 Dd (.lst []):=by rw[<-hX];rfl
 have eV:X'.env=xy scope (FP X.env.cells scope.names []) s3.heap.objs.size X.env:=by rw[<-hX];rfl
 have Z9:∀{Hx:Hp},(∀b∈fp,Hx b=none)->∀b∈fp,rG X' [] Hx b:=λ{Hx} hn b hb=>by obtain⟨_,c1,c2,c3,c4,c5⟩:=f3 b hb;have q:=I4.ok.exf b (by rw[eX];exact hb);refine⟨hn b hb,q.1,I4.ok.Im b (by rw[eX];exact hb),.inl (by rw[eX];exact hb),q.2,λp hp=>?_⟩;rw[eN,bq]at hp;exact c5 p hp
 obtain⟨Pv,pv0,pvl,pvs,pvd⟩:=hinv Dd Z5;have loop:∀s4:aj,Inv X' [] (bf 1 none++vs.map aa) (upd H2 Dd (.lst [])) s4->tn 0 s4.heap->
   kQ (az X.prog X.w) X.A (.compLoop (.ListComp elt [⟨tg,iter,[],0⟩] scope pos) 0 (.ref it) (.ref Dd) (xy scope (FP X.env.cells scope.names []) s3.heap.objs.size X.env))
    (compPost (az X.prog X.w) X.A X.xe none (EP X pins σ Q) (.ref Dd) s3.heap.objs.size) s4:=by
  intro s4 J4 Px;refine zC (λn s'=>∃(i:Nat)(acc:List V)(Hx:Hp)(t0:Option V),n=xs.length-i/\i<=xs.length/\Inv X' [] (t0::vs.map aa) Hx s'/\tn i s'.heap/\(∀b∈fp,Hx b=none)/\Pv i acc Hx) ?_ xs.length
   ⟨0,[],_,none,by simp,iR _,J4,Px,λb hb=>(f3 b hb).1,pv0⟩
  rintro n s5 ⟨i,acc,Hx,t0,rfl,hi5,J5,Tz,Iz,p5⟩;obtain⟨hq5,hD5⟩:=pvl i acc Hx p5
  by_cases hlt:i<xs.length
  ·have hx:xs[i]?=aa xs[i]:=aQ hlt
   have TI:=T.item X' eP eW eK eC i [] s5 _ Hx (λ_ _=>False) J5 (Z9 Iz) Tz ⟨xs,xs[i],hq5,hx⟩;rw[eA]at TI;refine fz TI λr s6 h6=>?_;obtain⟨u,rfl,h6⟩:=h6;refine fz h6 λ_ s7 h7=>?_;obtain⟨x,H7,J7,rx,⟨rfl,hy⟩,st7,fr7⟩:=h7;have exi:=hy xs hq5;have J7':=J7.pinned (Z9 fr7) (T.obj _ _ st7);have TG:=hg' _ s7 _ H7 x u (λσ8 H8=>σ8=aa x::vs.map aa/\H8=H7) J7' rx ⟨rfl,rfl⟩;rw[eP,eW,eA,eE,eV]at TG;refine fz TG λ_ s8 h8=>?_;obtain⟨σ8,H8,J8,rfl,rfl⟩:=h8;refine fz (UO (Q:=λb s'=>b=true/\s'=s8) ⟨rfl,rfl⟩) λok s9 h9=>?_;obtain⟨rfl,rfl⟩:=h9;have Lb:∀{σx:St}{Hy:Hp}{sx:aj},Inv X' ([]++yI fp s7.heap) σx Hy sx->tn (i+1) sx.heap/\∀b∈fp,Hy b=none:=λ{σx Hy sx} Jx=>
    ⟨T.keep _ _ _ st7 λb hb o e=>(Jx.pin (b,o) (cK _ (cK _ (kg hb e)))).1,λb hb=>by obtain⟨o,e,d⟩:=T.obj _ _ st7 b hb;exact(Jx.pin (b,o) (cK _ (cK _ (kg hb e)))).2.1⟩
   rw[if_pos rfl];have TE:=Z8 _ s9 _ H8 _ J8 (pvs i acc H8 x p5 exi);rw[eP,eW,eA,eE,eV]at TE;refine fz TE λy s10 h10=>?_;obtain⟨v,Gw,J10,rv,aab,hlen,p10⟩:=h10;have TM:=fX (X:=X') _ s10 _ Gw (.ref Dd) [v] (.ref Dd) [y] (λ_ H11=>H11=upd Gw Dd (.lst (acc++[v]))) J10 rfl (.cons rv .nil) ⟨Dd,acc,v,rfl,rfl,aab,hlen,rfl⟩;rw[eP,eW,eA,eE]at TM;refine fz TM λ_ s11 h11=>?_;obtain⟨v',H11,J11,_,rfl⟩:=h11;obtain⟨k1,k2⟩:=Lb J11;exact⟨xs.length-(i+1),by lia,i+1,acc++[v],_,aa x,rfl,hlt,J11.oK,k1,k2,p10⟩
  ·have e:i=xs.length:=by lia
   subst e;have TD:=T.done X' eP eW eK eC xs.length [] s5 _ Hx (λ_ _=>False) J5 (Z9 Iz) Tz ⟨xs,hq5,aY _⟩;rw[eA]at TD;refine fz TD λr s6 h6=>?_;obtain⟨rfl,J6⟩:=h6;obtain⟨m6,hn6,_⟩:=J6.loc;rw[eL]at hn6;have un6:Un (Ij X.stack) fp (upd H2 Dd (.lst [])) Hx s3.heap s6.heap:=by have u:=J6.base;rw[eF,eX,eH,eS]at u;exact u
   have hxC:Hx s3.heap.objs.size=none:=by have:=J6.free;rw[eL]at this;exact this
   have aad:vO X.prog X.w Hx s6.heap:=by have z:=J6.hok;rw[eP,eW]at z;exact z
   have os6:s6.os=s3.os:=by have:=J6.os;rw[eS]at this;exact this
   have I6:Inv X pins σ Hx s6:=I3.Xn (s':=s6) os6 un6 aad J6.bare λb hb=>by obtain⟨_,c1,c2,c3,c4,c5⟩:=f3 b hb;exact⟨c3,c1,c4,c5⟩
   have fC:rG X pins Hx s3.heap.objs.size:=⟨hxC,(I3.Nh (aY _) (I3.hok.fresh (aY _))).2⟩
   refine⟨m6,hn6,λh7 hs7=>⟨.ref Dd,Hx,CV (fp:=[s3.heap.objs.size]) (t':=s6.toks) I6 (λb hb=>by
    have z:b=s3.heap.objs.size:=by simpa using hb
    rw[z];exact fC) (λb u hb e=>(hs7.2 b (λz=>hb (by simp[z]))).trans e),rfl,pvd acc Hx p5⟩⟩
 have Px:tn 0 h₁:=T.keep _ _ _ Sw λb hb o e=>k3 b o (by rw[Z6];exact cQ _ e);have eG:({heap:=h₁,gens:=s3.gens,drawn:=s3.drawn,toks:=s2.toks+([]:List (Str×ah)).length,os:=s3.os}:aj)={heap:=h₁,gens:=s2.gens,drawn:=s2.drawn,toks:=s2.toks+([]:List (Str×ah)).length,os:=s2.os}:=by rw[<-hs3]
 rw[eG]at I4;exact UW (loop _ I4 Px) (T.self _ 0 _ _ _ Px (loop _ I4 Px))
end
def ko(env:DE):R Bool:=
 R.ok true
def kq(env:DE):R D:=
 (dU 0 env>=>λpI=>R.ok (D.int 0)>=>λkK=>wO pI kK)
noncomputable def Hk(env:DE):R Out:=
 ((((((dU 4 env>=>λv6=>R.ok (D.int 0)>=>λv7=>wO v6 v7)>=>λv4=>(((dU 1 env>=>yB)>=>λv9=>ik env []>=>λv10=>R.ne (dO (bN 0) ko kq (lV 1 v10) v9)>=>fit)>=>λv8=>R.of (wb v8))>=>λv5=>R.of (nq v4 v5))>=>λv2=>((dU 4 env>=>λtV=>R.ok (D.int 1)>=>λum=>wO tV um)>=>λqD=>R.ok []>=>λqT=>R.ok (qD::qT))>=>λv3=>R.ok (v2::v3))>=>fit)>=>λds=>R.ok (D.tup ds))>=>λv1=>R.ok (Out.rt v1))
def jZ(ds:List D):R D:=match ds with
 |[.int n,d]=>R.ne (bx [d]>=>λrs=> @ite _ ((1<=n/\n<=7)/\rs.length<=40/\∀r∈rs,bY n.toNat r) (dM _) (Hk [.val (.int n),.val d,.no,.no,.val (Hh n.toNat (dQ n.toNat rs))]>=>aK) .bad)
 |_=>.bad
noncomputable def y6(env:DE):R Out:=
 (((cB 4 env>=>λBv=>R.ok (D.int 0)>=>λCB=>wO Bv CB)>=>λxO=>(((dU 1 env>=>yB)>=>λGU=>ik env []>=>λv30=>R.ne (dO (bN 0) ko kq (lV 1 v30) GU)>=>fit)>=>λGR=>R.of (wb GR))>=>λzU=>R.of (nq xO zU))>=>λtj=>C1 tj>=>λv20=>xM 4 env>=>λxP=>R.ok (D.int 1)>=>λqO=>xJ qO>=>λyE=>R.ok (Out.Cu (Ct.tf v20 (ou xP))))
noncomputable def br(ds:List D):R Fm:=match ds with
 |[.int n,d]=>R.ne (bx [d]>=>λrs=> @ite _ ((1<=n/\n<=7)/\rs.length<=40/\∀r∈rs,bY n.toNat r) (dM _) (y6 [.val (.int n),.val d,.no,.no,.deep (.tf (o5 n.toNat (dQ n.toNat rs)).1 (o5 n.toNat (dQ n.toNat rs)).2)]>=>tfO) .bad)
 |_=>.bad
def Jk(env:DE):R Out:=
 (((dU 0 env>=>λv2=>(((dU 0 env>=>λv6=>(dU 1 env>=>λv8=>R.ok []>=>λv9=>R.ok (v8::v9))>=>λv7=>R.ok (v6::v7))>=>eI)>=>λv4=>R.ok []>=>λv5=>R.ok (v4::v5))>=>λv3=>R.ok (v2::v3))>=>jZ)>=>λv1=>R.ok (Out.rt v1))
def y7:=mD 2 2 Jk
def Mi(env:DE):R Out:=
 ((R.ne ((cB 0 env>=>λv2=>(((dU 0 env>=>λv6=>(dU 1 env>=>λv8=>R.ok []>=>λv9=>R.ok (v8::v9))>=>λv7=>R.ok (v6::v7))>=>eI)>=>λv4=>R.ok []>=>λv5=>R.ok (v4::v5))>=>λv3=>R.ok (v2::v3))>=>br))>=>λv1=>R.ok (Out.Cu (Ct.tf (ya v1) (ou v1))))
def lF:=Qg 2 2 Mi
noncomputable def uB(env:DE):R Out:=
 ((R.ne ((cB 0 env>=>λv2=>(((((dU 0 env>=>λv9=>(dU 1 env>=>λv11=>R.ok []>=>λqN=>R.ok (v11::qN))>=>λv10=>R.ok (v9::v10))>=>mj)>=>λv7=>((dU 0 env>=>λpI=>(dU 2 env>=>λqD=>R.ok []>=>λqT=>R.ok (qD::qT))>=>λkK=>R.ok (pI::kK))>=>mj)>=>λv8=>fit (v7++v8))>=>λv6=>R.ok (D.lst v6))>=>λv4=>R.ok []>=>λv5=>R.ok (v4::v5))>=>λv3=>R.ok (v2::v3))>=>br))>=>λv1=>R.ok (Out.Cu (Ct.tf (ya v1) (ou v1))))
def cX:=Qg 3 3 uB
def rg(env:DE):R Bool:=
 R.ok true
def mr(env:DE):R D:=
 ((dU 0 env>=>λv7=>R.ok []>=>λv8=>R.ok (v7::v8))>=>fj)
noncomputable def uC(env:DE):R Out:=
 (cJ (R.bind ((((dU 1 env>=>λv10=>R.ok (D.int 1)>=>λv11=>wO v10 v11)>=>λv9=>yB v9>=>λxs=>R.ok (reverse xs))>=>λv3=>ik env []>=>λv4=>R.ne (dO (bN 0) rg mr (lV 1 v4) v3)>=>fit)>=>λv2=>R.ok (Out.nx (List.set env 2 (Sl.own v2)))) (aan 2)) λv1=>
 ((R.ne ((cB 0 v1>=>λpI=>(((qQ 2 v1>=>λum=>(((((((dU 1 v1>=>λzU=>R.ok (D.int 0)>=>λBv=>wO zU Bv)>=>λxO=>R.of (xt xO))>=>λqO=>((((dU 0 v1>=>λv30=>R.ok []>=>λQm=>R.ok (v30::Qm))>=>dA)>=>λGU=>R.ok (D.lst GU))>=>λCB=>R.ok []>=>λGR=>R.ok (CB::GR))>=>λyE=>R.ok (qO::yE))>=>fit)>=>λds=>R.ok (D.tup ds))>=>λv20=>R.ok []>=>λxP=>R.ok (v20::xP))>=>fit)>=>λtj=>fit (um++tj))>=>λtV=>R.ok (D.lst tV))>=>λqD=>R.ok []>=>λqT=>R.ok (qD::qT))>=>λkK=>R.ok (pI::kK))>=>br))>=>λqN=>R.ok (Out.Cu (Ct.tf (ya qN) (ou qN)))))
def dB:=Qg 2 3 uC
def Hl(env:DE):R Bool:=
 R.ok true
def Hm(env:DE):R D:=
 (qQ 0 env>=>λv96=>R.ok (D.lst v96))
def Hn(env:DE):R Bool:=
 R.ok true
def Ho(env:DE):R D:=
 (qQ 0 env>=>λabn=>R.ok (D.lst abn))
noncomputable def YG(env:DE):R Out:=
 (cJ ((((cB 0 env>=>λv5=>(R.ok (D.int 0)>=>λv7=>R.ok []>=>λv8=>R.ok (v7::v8))>=>λv6=>R.ok (v5::v6))>=>gR)>=>λv3=>(R.ok (D.int 10)>=>λv9=>R.ok (D.int 9)>=>λv10=>R.of (Pn v9 v10))>=>λv4=>R.of (uh v3 v4))>=>λv2=>R.ok (Out.nx (List.set env 1 (Sl.val v2)))) λv1=>
 (cJ (((cB 1 v1>=>λpI=>(R.ok (D.int 1)>=>λqD=>(R.ok (D.int 7)>=>λtV=>R.ok []>=>λum=>R.ok (tV::um))>=>λqT=>R.ok (qD::qT))>=>λkK=>R.ok (pI::kK))>=>jf)>=>λqN=>R.ok (Out.nx (List.set v1 2 (Sl.val qN)))) λv11=>
 (cJ ((((cB 1 v11>=>λyE=>(R.ok (D.int 5)>=>λzU=>(R.ok (D.int 16807)>=>λCB=>R.ok []>=>λGR=>R.ok (CB::GR))>=>λBv=>R.ok (zU::Bv))>=>λxO=>R.ok (yE::xO))>=>iA)>=>λxP=>(((cB 0 v11>=>λVO=>R.ok []>=>λVQ=>R.ok (VO::VQ))>=>λQm=>R.of (wB Qm))>=>λGU=>R.ok (D.int 1)>=>λv30=>R.of (nq GU v30))>=>λqO=>R.of (uh xP qO))>=>λv20=>R.ok (Out.nx (List.set v11 3 (Sl.val v20)))) λtj=>
 (cJ (((cB 2 tj>=>λVR=>R.ok (D.int 5)>=>λYw=>R.of (UE VR Yw)>=>nk)>=>λNN=>if NN=true then(R.ok (D.int 12))else(R.ok (D.int 6)))>=>λVP=>R.ok (Out.nx (List.set tj 4 (Sl.val VP)))) λGV=>
 (cJ (R.bind (((((qQ 0 GV>=>λVY=>R.ok none>=>λVX=>(cB 3 GV>=>Sx)>=>λVS=>R.ok (cut VY VX VS))>=>λSJ=>R.ok (D.lst SJ))>=>λOA=>(dU 2 GV>=>λVW=>(dU 4 GV>=>λVV=>R.ok []>=>λQn=>R.ok (VV::Qn))>=>λVU=>R.ok (VW::VU))>=>λJb=>R.ok (OA::Jb))>=>gg)>=>λYx=>(((((qQ 0 GV>=>λQo=>(cB 3 GV>=>Sx)>=>λv58=>R.ok none>=>λv59=>R.ok (cut Qo v58 v59))>=>λv56=>R.ok (D.lst v56))>=>λv54=>(dU 2 GV>=>λv60=>(dU 4 GV>=>λv62=>R.ok []>=>λv63=>R.ok (v62::v63))>=>λQp=>R.ok (v60::Qp))>=>λv55=>R.ok (v54::v55))>=>gg)>=>λSH=>R.ok []>=>λv53=>R.ok (SH::v53))>=>λv41=>R.ok (Yx::v41)) (P5 5 6 GV)) λNP=>
 (cJ (R.bind (((R.ne ((cB 2 NP>=>λv68=>((qQ 5 NP>=>λv72=>R.ok (D.lst v72))>=>λv70=>R.ok []>=>λv71=>R.ok (v70::v71))>=>λv69=>R.ok (v68::v69))>=>lF))>=>λv67=>R.ok (pH v67))>=>λv65=>(((R.ne ((cB 2 NP>=>λv76=>((qQ 6 NP>=>λv80=>R.ok (D.lst v80))>=>λv78=>R.ok []>=>λv79=>R.ok (v78::v79))>=>λv77=>R.ok (v76::v77))>=>lF))>=>λv75=>R.ok (pH v75))>=>λv73=>R.ok []>=>λv74=>R.ok (v73::v74))>=>λv66=>R.ok (v65::v66)) (P5 7 8 NP)) λNQ=>
 (cJ ((((((((dU 7 NQ>=>λv87=>R.ok (D.int 0)>=>λv88=>wO v87 v88)>=>λv85=>(((((dU 7 NQ>=>λv97=>R.ok (D.int 1)>=>λv98=>wO v97 v98)>=>yB)>=>λv92=>ik NQ []>=>λv93=>R.ne (dO (bN 0) Hl Hm (lV 1 v93) v92)>=>fit)>=>λv91=>R.ok (D.lst v91))>=>λv89=>R.ok []>=>λv90=>R.ok (v89::v90))>=>λOB=>R.ok (v85::OB))>=>fit)>=>λds=>R.ok (D.tup ds))>=>λv83=>(((((dU 8 NQ>=>λabg=>R.ok (D.int 0)>=>λabe=>wO abg abe)>=>λabk=>(((((dU 8 NQ>=>λabo=>R.ok (D.int 1)>=>λabp=>wO abo abp)>=>yB)>=>λabl=>ik NQ []>=>λabm=>R.ne (dO (bN 0) Hn Ho (lV 1 abm) abl)>=>fit)>=>λabj=>R.ok (D.lst abj))>=>λabf=>R.ok []>=>λabi=>R.ok (abf::abi))>=>λabd=>R.ok (abk::abd))>=>fit)>=>λds=>R.ok (D.tup ds))>=>λv99=>R.ok []>=>λabh=>R.ok (v99::abh))>=>λv84=>R.ok (v83::v84))>=>fit)>=>λds=>R.ok (D.tup ds))>=>λv82=>R.ok (Out.nx (List.set NQ 9 (Sl.val v82)))) λv81=>
 (cJ ((R.ne ((cB 2 v81>=>λaiB=>(cB 7 v81>=>λaiC=>(cB 8 v81>=>λaiD=>R.ok []>=>λaiE=>R.ok (aiD::aiE))>=>λaiF=>R.ok (aiC::aiF))>=>λaiG=>R.ok (aiB::aiG))>=>cX))>=>λVZ=>R.ok (Out.nx (List.set v81 10 (Sl.deep (Ct.tf (ya VZ) (ou VZ)))))) λET=>
 (cJ ((((((cB 10 ET>=>λaiH=>(cB 2 ET>=>λaiI=>R.ok []>=>λaiJ=>R.ok (aiI::aiJ))>=>λaiK=>R.ok (aiH::aiK))>=>fH)>=>nk)>=>λaiL=>R.ok (!aiL))>=>λaiM=>if aiM=true then R.ok true else(cB 10 ET>=>λaiN=>((R.ne ((cB 2 ET>=>λaiO=>(((qQ 5 ET>=>λaiP=>qQ 6 ET>=>λaiQ=>fit (aiP++aiQ))>=>λaiR=>R.ok (D.lst aiR))>=>λaiS=>R.ok []>=>λaiT=>R.ok (aiS::aiT))>=>λaiU=>R.ok (aiO::aiU))>=>lF))>=>λaiV=>R.ok (pH aiV))>=>λaiW=>R.of (zE aiN aiW)>=>nk))>=>λaiX=>if aiX=true then(R.ok (D.bl false)>=>λaiY=>R.ok (Out.rt aiY))else(R.ok (Out.nx ET))) λabD=>
 (cJ ((R.ne ((cB 2 abD>=>λaiZ=>(cB 7 abD>=>λai0=>R.ok []>=>λai1=>R.ok (ai0::ai1))>=>λai2=>R.ok (aiZ::ai2))>=>dB))>=>λaeH=>R.ok (Out.nx (List.set abD 11 (Sl.deep (Ct.tf (ya aeH) (ou aeH)))))) λE6=>
 (cJ ((((((cB 11 E6>=>λai3=>(cB 2 E6>=>λai4=>R.ok []>=>λai5=>R.ok (ai4::ai5))>=>λai6=>R.ok (ai3::ai6))>=>fH)>=>nk)>=>λai7=>R.ok (!ai7))>=>λai8=>if ai8=true then R.ok true else((cB 11 E6>=>λai9=>((R.ne ((cB 2 E6>=>λaja=>((((dU 5 E6>=>λajb=>R.ok []>=>λajc=>R.ok (ajb::ajc))>=>kC)>=>λajd=>R.ok (D.lst ajd))>=>λaje=>R.ok []>=>λajf=>R.ok (aje::ajf))>=>λajg=>R.ok (aja::ajg))>=>lF))>=>λajh=>R.ok (pH ajh))>=>λaji=>R.of (zE ai9 aji)>=>nk)>=>λajj=>if ajj=true then R.ok true else((((dU 7 E6>=>λajk=>(dU 8 E6>=>λajl=>R.ok []>=>λajm=>R.ok (ajl::ajm))>=>λajn=>R.ok (ajk::ajn))>=>fit)>=>λds=>R.ok (D.tup ds))>=>λajo=>cB 9 E6>=>λajp=>R.of (zE ajo ajp)>=>nk)))>=>λajq=>if ajq=true then(R.ok (D.bl false)>=>λajr=>R.ok (Out.rt ajr))else(R.ok (Out.nx E6))) λJl=>
 (cJ (((((R.ne ((cB 2 Jl>=>λajs=>(cB 7 Jl>=>λajt=>(cB 11 Jl>=>λaju=>R.ok []>=>λajv=>R.ok (aju::ajv))>=>λajw=>R.ok (ajt::ajw))>=>λajx=>R.ok (ajs::ajx))>=>cX))>=>λajy=>R.ok (pH ajy))>=>λajz=>(((R.ok (D.int 0)>=>λajA=>(((R.ok []>=>fit)>=>λajB=>R.ok (D.lst ajB))>=>λajC=>R.ok []>=>λajD=>R.ok (ajC::ajD))>=>λajE=>R.ok (ajA::ajE))>=>fit)>=>λds=>R.ok (D.tup ds))>=>λajF=>R.of (zE ajz ajF)>=>nk)>=>λajG=>if ajG=true then R.ok true else(((R.ne ((cB 2 Jl>=>λajH=>(cB 11 Jl>=>λajI=>(cB 7 Jl>=>λajJ=>R.ok []>=>λajK=>R.ok (ajJ::ajK))>=>λajL=>R.ok (ajI::ajL))>=>λajM=>R.ok (ajH::ajM))>=>cX))>=>λajN=>R.ok (pH ajN))>=>λajO=>(((R.ok (D.int 0)>=>λajP=>(((R.ok []>=>fit)>=>λajQ=>R.ok (D.lst ajQ))>=>λajR=>R.ok []>=>λajS=>R.ok (ajR::ajS))>=>λajT=>R.ok (ajP::ajT))>=>fit)>=>λds=>R.ok (D.tup ds))>=>λajU=>R.of (zE ajO ajU)>=>nk))>=>λajV=>if ajV=true then(R.ok (D.bl false)>=>λajW=>R.ok (Out.rt ajW))else(R.ok (Out.nx Jl))) λE7=>
 (cJ (xM 10 E7>=>λajX=>xM 11 E7>=>λajY=>(R.ne ((cB 2 E7>=>λajZ=>(cB 7 E7>=>λaj0=>R.ok []>=>λaj1=>R.ok (aj0::aj1))>=>λaj2=>R.ok (ajZ::aj2))>=>dB))>=>λaj3=>(R.ne ((cB 2 E7>=>λaj4=>((((R.ok (D.int 0)>=>λaj5=>(((R.ok []>=>fit)>=>λaj6=>R.ok (D.lst aj6))>=>λaj7=>R.ok []>=>λaj8=>R.ok (aj7::aj8))>=>λaj9=>R.ok (aj5::aj9))>=>fit)>=>λds=>R.ok (D.tup ds))>=>λaka=>(cB 8 E7>=>λakb=>R.ok []>=>λakc=>R.ok (akb::akc))>=>λakd=>R.ok (aka::akd))>=>λake=>R.ok (aj4::ake))>=>cX))>=>λakf=>(R.ne ((cB 2 E7>=>λakg=>(cB 7 E7>=>λakh=>((((R.ok (D.int 0)>=>λaki=>(((R.ok []>=>fit)>=>λakj=>R.ok (D.lst akj))>=>λakk=>R.ok []>=>λakl=>R.ok (akk::akl))>=>λakm=>R.ok (aki::akm))>=>fit)>=>λds=>R.ok (D.tup ds))>=>λako=>R.ok []>=>λakp=>R.ok (ako::akp))>=>λakq=>R.ok (akh::akq))>=>λakr=>R.ok (akg::akr))>=>cX))>=>λaks=>GQ 12 13 10 11 2 E7 [ajX,ajY,aj3,akf,aks]) λWl=>
 (cJ (((((dU 7 Wl>=>λakt=>(dU 8 Wl>=>λaku=>R.ok []>=>λakv=>R.ok (aku::akv))>=>λakw=>R.ok (akt::akw))>=>fit)>=>λds=>R.ok (D.tup ds))>=>λakx=>cB 9 Wl>=>λaky=>R.of (zE akx aky)>=>nk)>=>λakz=>if akz=true then(R.ok (D.bl false)>=>λakA=>R.ok (Out.rt akA))else(R.ok (Out.nx Wl))) λabE=>
 (cJ ((((((cB 2 abE>=>λakB=>R.ok (D.int 1)>=>λakC=>R.of (K1 akB akC)>=>nk)>=>λakD=>if akD=true then((cB 3 abE>=>λakE=>R.ok (D.int 5)>=>λakF=>R.of (uh akE akF))>=>λabF=>R.ok (D.int 2)>=>λakG=>R.of (n8 abF akG))else(R.ok (D.int 0)))>=>λakH=>(((R.ok []>=>fit)>=>λakI=>R.ok (D.lst akI))>=>λakJ=>R.ok []>=>λakK=>R.ok (akJ::akK))>=>λakL=>R.ok (akH::akL))>=>fit)>=>λds=>R.ok (D.tup ds))>=>λakM=>R.ok (Out.nx (List.set abE 14 (Sl.val akM)))) λabG=>
 (cJ ((R.ne ((cB 2 abG>=>λakN=>(cB 14 abG>=>λakO=>R.ok []>=>λakP=>R.ok (akO::akP))>=>λakQ=>R.ok (akN::akQ))>=>dB))>=>λaeI=>R.ok (Out.nx (List.set abG 12 (Sl.deep (Ct.tf (ya aeI) (ou aeI)))))) λabH=>
 (cJ (xM 12 abH>=>λakR=>R.ok (D.int 1)>=>λakS=>xJ akS>=>λaqi=>(((dU 2 abH>=>λakT=>R.ok []>=>λakU=>R.ok (akT::akU))>=>fit)>=>λakV=>R.ok (D.lst akV))>=>λaqj=>LH 12 abH akR) λaeJ=>
 (cJ (((dU 14 aeJ>=>λakW=>R.ok (D.int 1)>=>λakX=>wO akW akX)>=>λakY=>((R.ok []>=>fit)>=>λakZ=>R.ok (D.lst akZ))>=>λak0=>R.of (zE akY ak0)>=>nk)>=>λak1=>if ak1=true then(R.ok (D.bl false)>=>λak2=>R.ok (Out.rt ak2))else(R.ok (Out.nx aeJ))) λE8=>
 (((((R.ne ((cB 2 E8>=>λak3=>(((qQ 5 E8>=>λak4=>((dU 5 E8>=>λak5=>R.ok []>=>λak6=>R.ok (ak5::ak6))>=>kC)>=>λak7=>fit (ak4++ak7))>=>λak8=>R.ok (D.lst ak8))>=>λak9=>R.ok []>=>λalb=>R.ok (ak9::alb))>=>λalc=>R.ok (ak3::alc))>=>lF))>=>λald=>R.ok (pH ald))>=>λale=>(((R.ok (D.int 0)>=>λalf=>(((R.ok []>=>fit)>=>λalg=>R.ok (D.lst alg))>=>λalh=>R.ok []>=>λali=>R.ok (alh::ali))>=>λalj=>R.ok (alf::alj))>=>fit)>=>λds=>R.ok (D.tup ds))>=>λalk=>R.of (CW ale alk))>=>λalm=>nk alm>=>λt=>if t=true then(((R.ne ((cB 2 E8>=>λaln=>(cB 8 E8>=>λalo=>(cB 7 E8>=>λalp=>R.ok []>=>λalq=>R.ok (alp::alq))>=>λalr=>R.ok (alo::alr))>=>λals=>R.ok (aln::als))>=>cX))>=>λalu=>R.ok (pH alu))>=>λalv=>((R.ne ((cB 2 E8>=>λalw=>(((qQ 6 E8>=>λalx=>qQ 5 E8>=>λaly=>fit (alx++aly))>=>λalz=>R.ok (D.lst alz))>=>λalA=>R.ok []>=>λalB=>R.ok (alA::alB))>=>λalC=>R.ok (alw::alC))>=>lF))>=>λalD=>R.ok (pH alD))>=>λalE=>R.of (CW alv alE))else R.ok (D.bl false))>=>λalF=>R.ok (Out.rt alF))))))))))))))))))))
def BO:=mS 1 15 YG
end DL
namespace DL.uD
open PySem PySem.Spec PyProof.Rows L2 DL
def top(i:Nat):aD:=PySem.Challenge.pw_braidcomb_k34_forms_joined_and_turned.main.body.getD i (.Pass ⟨0,0,0,0⟩)
abbrev y8:aD:=top 4
def Jm:bc ["word"] ["word"] (au y8):=vz
abbrev BP:aD:=top 5
def uE:bc ["word","left","k"] ["word"] (au BP):=vz
abbrev zJ:aD:=top 7
def E9:bc ["n"] ["n"] (au zJ):=vz
abbrev Mj:aD:=top 8
def QW:bc ["n"] ["n"] (au Mj):=vz
abbrev yb:aD:=top 9
def mU:bc ["row","places","place","string"] ["row"] (au yb):=vz
abbrev BQ:aD:=top 10
def NW:bc ["row"] ["row"] (au BQ):=vz
abbrev Dg:aD:=top 11
def Jo:bc ["row"] ["row"] (au Dg):=vz
abbrev kD:aD:=top 12
def qH:bc ["row","k"] ["row","k"] (au kD):=vz
abbrev lG:aD:=top 13
def rh:bc ["row","k"] ["row","k"] (au lG):=vz
abbrev Dh:aD:=top 14
def sC:bc ["n","word","row","k"] ["n","word"] (au Dh):=vz
abbrev BR:aD:=top 15
def NX:bc ["row"] ["row"] (au BR):=vz
abbrev o7:aD:=top 16
def zZ:bc ["row"] ["row"] (au o7):=vz
abbrev BU:aD:=top 19
def ql:bc ["crossings","bits","k"] ["crossings"] (au BU):=vz
abbrev QX:aD:=top 22
def oy:bc ["n","word","pieces","order","sign_above","k","place","held"] ["n","word"] (au QX):=vz
abbrev uF:aD:=top 23
def z5:bc ["row"] ["row"] (au uF):=vz
abbrev BV:aD:=top 24
def Hq:bc ["n","piece"] ["n","piece"] (au BV):=vz
abbrev uG:aD:=top 25
def Fb:bc ["n","form"] ["n","form"] (au uG):=vz
abbrev uH:aD:=top 26
def z6:bc ["halves","row"] ["halves","row"] (au uH):=vz
abbrev lY:aD:=top 27
def dC:bc ["steps","rows","halves","step"] ["steps"] (au lY):=vz
abbrev mw:aD:=top 28
def iY:bc ["n","steps","comb","row","found"] ["n","steps"] (au mw):=vz
abbrev my:aD:=top 29
def yc:bc ["n","word"] ["n","word"] (au my):=vz
abbrev Ml:aD:=top 30
def QY:bc ["n","word"] ["n","word"] (au Ml):=vz
abbrev uI:aD:=top 31
def z7:bc ["n","one","other"] ["n","one","other"] (au uI):=vz
abbrev o8:aD:=top 32
def tH:bc ["n","one","steps"] ["n","one"] (au o8):=vz
abbrev zK:aD:=top 34
def Fc:bc ["_law_cell","_law_k","_law_factor"] ["_law_cell","_law_k","_law_factor"] (au zK):=vz
abbrev tJ:aD:=top 35
def y9:bc ["_law_script","_law_k"] ["_law_script","_law_k"] (au tJ):=vz
abbrev tK:aD:=top 36
def rn:bc ["_law_seed","_law_least","_law_most"] ["_law_seed","_law_least","_law_most"] (au tK):=vz
abbrev rq:aD:=top 37
def qm:bc ["_law_number","_law_n","_law_k"] ["_law_number","_law_n"] (au rq):=vz
abbrev wk:aD:=top 38
def o9:bc ["_law_number","_law_n","_law_k","_law_other"] ["_law_number","_law_n"] (au wk):=vz
abbrev wm:aD:=top 39
def jh:bc ["_law_cells","_law_n","_law_most","_law_word","_law_k","_law_cell"] ["_law_cells","_law_n","_law_most"] (au wm):=vz
abbrev sE:aD:=top 40
def mV:bc ["_law_cells","_law_n","_law_most","_law_word","_law_total","_law_at"] ["_law_cells","_law_n","_law_most"] (au sE):=vz
abbrev sG:aD:=top 41
def CH:bc ["_law_word"] ["_law_word"] (au sG):=vz
abbrev nK:aD:=top 42
def gW:bc ["_law_found","_law_n","_law_last","_law_row","_law_k"] ["_law_found","_law_n"] (au nK):=vz
abbrev Fd:aD:=top 43
def jz:bc ["_law_script","_law_seed","_law_n","_law_cut","_law_most","_law_one","_law_other","_law_first","_law_second","_law_kept","_law_found","_law_back_here","_law_told","_law_row","_law_turns"] ["_law_script"] (au Fd):=vz
set_option genInjectivity false
set_option genSizeOf false
structure Tb(K:ak)(mg:Str->Option ah) where
 yd:ae
 ye:aL
 BW:Df K mg "turned" y8 ["word"] yd ye
 vC:ae
 vD:aL
 za:Df K mg "trimmed" BP ["word"] vC vD
 ji:ae
 jj:aL
 gz:Df K mg "straight" zJ ["n"] ji jj
 Fe:ae
 Ff:aL
 BX:Df K mg "half" Mj ["n"] Fe Ff
 kE:ae
 kF:aL
 kG:Df K mg "places_of" yb ["row"] kE kF
 yf:ae
 yg:aL
 vE:Df K mg "stops" BQ ["row"] yf yg
 yh:ae
 yi:aL
 uJ:Df K mg "starts" Dg ["row"] yh yi
 cS:ae
 cT:aL
 cy:Df K mg "with_crossing_behind" kD ["row","k"] cS cT
 fQ:ae
 fR:aL
 dR:Df K mg "with_crossing_ahead" lG ["row","k"] fQ fR
 yj:ae
 yk:aL
 ym:Df K mg "row_of" Dh ["n","word"] yj yk
 AQ:ae
 AR:aL
 Fg:Df K mg "ahead" BR ["row"] AQ AR
 mW:ae
 mX:aL
 qI:Df K mg "flipped_row" o7 ["row"] mW mX
 vG:ae
 vH:aL
 kH:Df K mg "as_bits" BU ["crossings"] vG vH
 Mm:ae
 Mn:aL
 QZ:Df K mg "cut" QX ["n","word"] Mm Mn
 jJ:ae
 jK:aL
 mY:Df K mg "turned_step" uF ["row"] jJ jK
 vI:ae
 vJ:aL
 zb:Df K mg "step_of" BV ["n","piece"] vI vJ
 sH:ae
 sI:aL
 sJ:Df K mg "steps_of" uG ["n","form"] sH sI
 mZ:ae
 m7:aL
 qJ:Df K mg "past_halves" uH ["halves","row"] mZ m7
 gq:ae
 gu:aL
 dY:Df K mg "rows_behind_halves" lY ["steps"] gq gu
 fY:ae
 fZ:aL
 iF:Df K mg "form_of_steps" mw ["n","steps"] fY fZ
 j0:ae
 j7:aL
 nM:Df K mg "steps_of_word" my ["n","word"] j0 j7
 Fi:ae
 Fj:aL
 uK:Df K mg "form" Ml ["n","word"] Fi Fj
 m8:ae
 m9:aL
 fq:Df K mg "form_joined" uI ["n","one","other"] m8 m9
 nc:ae
 ng:aL
 jL:Df K mg "form_turned" o8 ["n","one"] nc ng
 mz:ae
 mB:aL
 pe:Df K mg "_law_mix" zK ["_law_cell","_law_k","_law_factor"] mz mB
 lH:ae
 lI:aL
 ph:Df K mg "_law_cell_at" tJ ["_law_script","_law_k"] lH lI
 lJ:ae
 lK:aL
 pA:Df K mg "_law_strings" tK ["_law_seed","_law_least","_law_most"] lJ lK
 j8:ae
 j9:aL
 nN:Df K mg "_law_crossing" rq ["_law_number","_law_n"] j8 j9
 oA:ae
 oB:aL
 sL:Df K mg "_law_piece" wk ["_law_number","_law_n"] oA oB
 oE:ae
 oF:aL
 sM:Df K mg "_law_drawn" wm ["_law_cells","_law_n","_law_most"] oE oF
 qo:ae
 qp:aL
 qq:Df K mg "_law_part" sE ["_law_cells","_law_n","_law_most"] qo qp
 qr:ae
 qt:aL
 qu:Df K mg "_law_back" sG ["_law_word"] qr qt
 lL:ae
 lM:aL
 lN:Df K mg "_law_is_form" nK ["_law_found","_law_n"] lL lM
 Q0:ae
 Mp:aL
 YH:Df K mg "law" Fd ["_law_script"] Q0 Mp
 Q1:mg "abs"=none
 Jp:mg "bool"=none
 qv:mg "enumerate"=none
 Q2:mg "int"=none
 gw:mg "isinstance"=none
 rz:mg "len"=none
 lP:mg "list"=none
 YJ:mg "max"=none
 qw:mg "range"=none
 kr:mg "reversed"=none
 Hr:mg "sorted"=none
 Q3:mg "sum"=none
 Fl:mg "tuple"=none
 yn:Tok
 yo:mg "MOST_KEPT"=aa (.int 200000 yn)
set_option genInjectivity true
set_option genSizeOf true
end DL.uD
namespace DL.H
open PySem PySem.W L2
noncomputable section
def vi(i:Int)(t:Nat):ah:=.int i t
def vs(s:String)(t:Nat):ah:=.str (cV s) t
def vr(a:Nat):ah:=.ref a
def vy(s:String):ah:=.type s
def vb(s:String):ah:=.builtin s
def vn:ah:=.none
def vt:ah:=.bool true
def vf:ah:=.bool false
def pl:Data:=.plain
def ob(c:ah)(d:Data)(s:List (Option ah)):Obj:=⟨c,none,d,⟨s⟩⟩
def en(P:kY)(x:String)(t:Nat)(v:ah):DY:=⟨PyData.keyHash P (cV x),.str (cV x) t,v⟩
def cd(n:String)(b m:List ah)(s:ae)(q:String)(hd:Bool)(sn:List Str)(su:List ah)(ab:Bool)(c:Option Bool)(de:Bool):ClassData:=⟨cV n,b,m,s,cV q,hd,sn,su,ab,c,de⟩
def E:Obj:=ob (vy "tuple") (.seq ⟨[]⟩ 0) []
def F:Obj:=ob vn (.fields ⟨[]⟩) []
def Z:String:="/claim/cut.py"
def nO(s:aD):Str:=match s with|.FunctionDef n _ _ _ _ _ _ _ _ _=>n|_=>Kh
def lO(s:aD):Nat:=match s with|.FunctionDef _ _ _ _ _ _ _ _ _ p=>p.line|_=>0
def tf(s:aD)(q:Str):Obj:=⟨.none,none,.func {name:=nO s,qualname:=q,params:=iT s,body:=.stmts (dq s),scope:=au s,globals:=0,closure:=[],defaults:=.none,kwdefaults:=.none},⟨[]⟩⟩
def hf(n q:Str)(s:aD)(m:ah)(c:Nat):Obj:=⟨.type "function",none,.func (fnOf n q (iT s) (dq s) (au s) .none .none .none m none (.ref c) .none),⟨[]⟩⟩
def cf(n q:Str)(t l k:Nat)(f:ah)(a b:Nat)(x y z:ah)(u:Nat):Obj:=ob (vy "code") (.fields ⟨[.str n t,.str q (t+1),vs Z (t+2),.int l 0,.int k 0,vi 0 0,vi 0 0,f,vr a,.bool (f !=vi 0 0),vi 181 0,vr b,vn,x,y,z,.int u 0,.int l 0,vs Z (u+1)]⟩) []
def tu:List String->Nat->List ah
 |[],_=>[]
 |x::l,t=>vs x t::tu l (t+1)
def YK(s:aD)(q:Str)(a t:Nat)(m:ah)(ns:List String):List Obj:=[E,F,ob (vy "tuple") (.seq ⟨tu ns (t+3)⟩ 0) [],E,tf s q,cf (nO s) q t (lO s) (iT s).args.length (vi 3 0) a (a+1) (vr (a+2)) (vr (a+3)) (vr (a+4)) (t+3+ns.length),hf (nO s) q s m (a+5)]
def fb5(s:aD)(q:Str)(a t:Nat)(m:ah):List Obj:=[E,F,tf s q,cf (nO s) q t (lO s) (iT s).args.length (vi 3 0) a (a+1) vn vn (vr (a+2)) (t+3),hf (nO s) q s m (a+3)]
noncomputable def xb(P:kY)(n:String)(a t:Nat)(m:ah)(b:Nat)(l:Nat):List Obj:=
 [ob (vy "tuple") (.seq ⟨[vr b]⟩ 0) [],ob (vy "builtin_function_or_method") (.fields ⟨[vb "type.__prepare__",vy "type"]⟩) [],
  ob (vy "dict") (.dict ⟨[en P "__module__" (t+5) m,en P "__qualname__" (t+7) (vs n (t+6)),en P "__firstlineno__" (t+9) (.int l (t+8)),en P "__static_attributes__" (t+10) (vr (a+7))]⟩ 4) [],E,F,
  cf (cV n) (cV n) t l 0 (vi 0 0) (a+3) (a+4) vn vn vn (t+3),ob (vy "frame") pl [aa (vr (a+5)),aa (vr 3),aa (vr (a+2)),none,aa m,none,aa (vr 0)],E,
  ob (vy "dict") (.dict ⟨[en P "__module__" (t+5) m,en P "__firstlineno__" (t+9) (.int l (t+8)),en P "__static_attributes__" (t+10) (vr (a+7)),en P "__doc__" (t+11) vn]⟩ 2) [],
  ob (vy "type") (.cls (cd n [vr b] [vr (a+9),vr b,vy "ValueError",vy "Exception",vy "BaseException",vy "object"] (a+8) n true [] [] false none false)) [aa (vr a),none,aa (vs n (t-2)),aa (vs n (t+6)),aa (vb "ValueError.__new__"),aa vt],
  ob (vy "super") (.fields ⟨[vr (a+9),vr (a+9),vr (a+9)]⟩) [],ob (vy "builtin_function_or_method") (.fields ⟨[vb "object.__init_subclass__",vr (a+9)]⟩) []]
def sp:List Obj->List Obj×List Obj
 |[]=>([],[])
 |x::l=>(x::(sp l).2,(sp l).1)
def bt:Nat->List Obj->BT
 |0,_=>.nil
 |_+1,[]=>.nil
 |n+1,x::l=>.node x (bt n (sp l).1) (bt n (sp l).2)
end
end DL.H
namespace DL.uD.H
open PySem PySem.W DL.H L2
noncomputable section
abbrev pw:aR:=PySem.Challenge.pw_braidcomb_k34_forms_joined_and_turned
abbrev T(i:Nat):aD:=DL.uD.top i
def J(i j:Nat):aD:=match T i with|.ClassDef _ _ _ b _ _ _ _ _ _ _=>b.getD j (.Pass ⟨0,0,0,0⟩)|s=>s
noncomputable def M3(P:kY):List DY:=[en P "__doc__" 166 vn,en P "__package__" 167 vn,en P "__loader__" 168 (vb "__main__.__loader__#opaque"),en P "__spec__" 169 vn,en P "__annotations__" 170 (vr 6),en P "__builtins__" 171 (vr 4),en P "__file__" 173 (vs "/claim/cut.py" 172),en P "__cached__" 174 vn,en P "BraidError" 206 (vr 24),en P "NoRow" 222 (vr 37),en P "turned" 230 (vr 44),en P "trimmed" 239 (vr 51),en P "straight" 248 (vr 58),en P "half" 255 (vr 65),en P "places_of" 265 (vr 72),en P "stops" 271 (vr 77),en P "starts" 278 (vr 84),en P "with_crossing_behind" 286 (vr 91),en P "with_crossing_ahead" 294 (vr 98),en P "row_of" 304 (vr 105),en P "ahead" 310 (vr 110),en P "flipped_row" 316 (vr 115),en P "MOST_KEPT" 320 (vi 200000 319),en P "as_bits" 329 (vr 122),en P "Comb" 435 (vr 186),en P "cut" 451 (vr 197),en P "turned_step" 458 (vr 204),en P "step_of" 466 (vr 211),en P "steps_of" 472 (vr 216),en P "past_halves" 480 (vr 223),en P "rows_behind_halves" 490 (vr 230),en P "form_of_steps" 496 (vr 235),en P "steps_of_word" 502 (vr 240),en P "form" 510 (vr 247),en P "form_joined" 519 (vr 254),en P "form_turned" 525 (vr 259),en P "_law_mix" 536 (vr 266),en P "_law_cell_at" 544 (vr 273),en P "_law_strings" 553 (vr 280),en P "_law_crossing" 562 (vr 287),en P "_law_piece" 572 (vr 294),en P "_law_drawn" 584 (vr 301),en P "_law_part" 590 (vr 306),en P "_law_back" 596 (vr 311),en P "_law_is_form" 602 (vr 316),en P "law" 608 (vr 321)]
def m3(P:kY)(v:ah)(k e:Nat):Obj:=ob (vy "dict") (.dict ⟨en P "__name__" 165 v::(M3 P).take k⟩ e) []
noncomputable def L12:List (Nat×Nat):=[(2,20),(4,33),(7,43),(9,50),(18,57),(20,64),(22,71),(27,76),(29,83),(31,90),(33,97),(35,104),(44,109),(46,114),(50,121),(55,128),(128,196),(143,203),(145,210),(149,215),(151,222),(155,229),(163,234),(169,239),(171,246),(173,253),(175,258),(179,265),(181,272),(185,279),(190,286),(195,293),(201,300),(207,305),(214,310),(216,315),(232,320)]
def o12(k:Nat):Obj:=ob vn (.fields ⟨(L12.take k).flatMap λx=>[.int x.1 0,vi 0 0,vr x.2]⟩) []
def w0:ah:=vs "braidcomb.errors" 187
def w1:ah:=vs "braidcomb.words" 223
def w2:ah:=vs "braidcomb.rows" 240
def w3:ah:=vs "braidcomb.sliding" 317
def w4:ah:=vs "braidcomb.forms" 436
def w5:ah:=vs "law_braidcomb_k34_forms_joined_and_turned" 526
def f7(i a t:Nat)(m:ah)(ns:List String):List Obj:=YK (T i) (nO (T i)) a t m ns
def f5(i a t:Nat)(m:ah):List Obj:=fb5 (T i) (nO (T i)) a t m
noncomputable def FL(P:kY):List Obj:=[boot_o_0 P,boot_o_1 P,boot_o_2 P,m3 P w5 46 47,boot_o_4 P,boot_o_5 P,boot_o_6 P,boot_o_7 P,boot_o_8 P,boot_o_9 P,boot_o_10 P]
 ++[E,(o12 37),(ob (vy "code") (.fields ⟨[(vs "<module>" 182),(vs "<module>" 183),(vs "/claim/cut.py" 184),(vi 1 0),(vi 0 0),(vi 0 0),(vi 0 0),(vi 0 0),(vr 11),vf,(vi 181 0),(vr 12),vn,vn,vn,vn,(vi 185 0),(vi 1 0),(vs "/claim/cut.py" 186)]⟩) []),(ob (vy "frame") pl [(aa (vr 13)),(aa (vr 3)),(aa (vr 3)),none,(aa (vs "__main__" 164)),none,(aa (vr 0))]),(ob (vy "tuple") (.seq ⟨[(vy "ValueError")]⟩ 0) []),(ob (vy "builtin_function_or_method") (.fields ⟨[(vb "type.__prepare__"),(vy "type")]⟩) []),(ob (vy "dict") (.dict ⟨[(en P "__module__" 196 (vs "braidcomb.errors" 187)),(en P "__qualname__" 198 (vs "BraidError" 197)),(en P "__firstlineno__" 200 (vi 2 199)),(en P "__static_attributes__" 201 (vr 22))]⟩ 4) []),E,F,(ob (vy "code") (.fields ⟨[(vs "BraidError" 191),(vs "BraidError" 192),(vs "/claim/cut.py" 193),(vi 2 0),(vi 0 0),(vi 0 0),(vi 0 0),(vi 0 0),(vr 18),vf,(vi 181 0),(vr 19),vn,vn,vn,vn,(vi 194 0),(vi 2 0),(vs "/claim/cut.py" 195)]⟩) []),(ob (vy "frame") pl [(aa (vr 20)),(aa (vr 3)),(aa (vr 17)),none,(aa (vs "braidcomb.errors" 187)),none,(aa (vr 0))]),E,(ob (vy "dict") (.dict ⟨[(en P "__module__" 196 (vs "braidcomb.errors" 187)),(en P "__firstlineno__" 200 (vi 2 199)),(en P "__static_attributes__" 201 (vr 22)),(en P "__weakref__" 203 (vr 25)),(en P "__doc__" 204 vn)]⟩ 3) []),(ob (vy "type") (.cls (cd "BraidError" [(vy "ValueError")] [(vr 24),(vy "ValueError"),(vy "Exception"),(vy "BaseException"),(vy "object")] 23 "BraidError" true [] [(vr 37)] false none false)) [(aa (vr 15)),none,(aa (vs "BraidError" 189)),(aa (vs "BraidError" 197)),(aa (vb "ValueError.__new__")),(aa vt)]),(ob (vy "getset_descriptor") (.fields ⟨[(vs "__weakref__" 202),(vr 24),(vb "ExceptionGroup.__weakref__"),vn]⟩) []),(ob (vy "super") (.fields ⟨[(vr 24),(vr 24),(vr 24)]⟩) []),(ob (vy "builtin_function_or_method") (.fields ⟨[(vb "object.__init_subclass__"),(vr 24)]⟩) [])]
 ++xb P "NoRow" 28 209 w0 24 4
 ++f5 4 40 225 w1
 ++f7 5 45 231 w1 ["word","left","k"]
 ++f7 7 52 242 w2 ["n"]
 ++f7 8 59 249 w2 ["n"]
 ++f7 9 66 256 w2 ["row","places","place","string"]
 ++f5 10 73 266 w2
 ++f7 11 78 272 w2 ["row"]
 ++f7 12 85 279 w2 ["row","k"]
 ++f7 13 92 287 w2 ["row","k"]
 ++f7 14 99 295 w2 ["n","word","row","k"]
 ++f5 15 106 305 w2
 ++f5 16 111 311 w2
 ++f7 19 116 321 w3 ["crossings","bits","k"]
 ++[E,(ob (vy "builtin_function_or_method") (.fields ⟨[(vb "type.__prepare__"),(vy "type")]⟩) []),(ob (vy "dict") (.dict ⟨[(en P "__module__" 337 w3),(en P "__qualname__" 339 (vs "Comb" 338)),(en P "__firstlineno__" 341 (vi 55 340)),(en P "__init__" 349 (vr 136)),(en P "number_of" 358 (vr 143)),(en P "without_first" 368 (vr 150)),(en P "with_last" 378 (vr 157)),(en P "slide" 389 (vr 164)),(en P "slide_kept" 400 (vr 171)),(en P "put" 411 (vr 178)),(en P "form_told" 417 (vr 183)),(en P "__static_attributes__" 428 (vr 184))]⟩ 12) []),E,(ob vn (.fields ⟨[(vi 57 0),(vi 4 0),(vr 135),(vi 69 0),(vi 4 0),(vr 142),(vi 78 0),(vi 4 0),(vr 149),(vi 84 0),(vi 4 0),(vr 156),(vi 90 0),(vi 4 0),(vr 163),(vi 99 0),(vi 4 0),(vr 170),(vi 108 0),(vi 4 0),(vr 177),(vi 122 0),(vi 4 0),(vr 182)]⟩) []),(ob (vy "code") (.fields ⟨[(vs "Comb" 332),(vs "Comb" 333),(vs "/claim/cut.py" 334),(vi 55 0),(vi 0 0),(vi 0 0),(vi 0 0),(vi 0 0),(vr 126),vf,(vi 181 0),(vr 127),vn,vn,vn,vn,(vi 335 0),(vi 55 0),(vs "/claim/cut.py" 336)]⟩) []),(ob (vy "frame") pl [(aa (vr 128)),(aa (vr 3)),(aa (vr 125)),none,(aa w3),none,(aa (vr 0))])]
 ++YK (J 20 0) "Comb.__init__" 130 342 w3 ["self","n"]
 ++YK (J 20 1) "Comb.number_of" 137 350 w3 ["self","row","key"]
 ++YK (J 20 2) "Comb.without_first" 144 359 w3 ["self","number","k","step"]
 ++YK (J 20 3) "Comb.with_last" 151 369 w3 ["self","number","k","step"]
 ++YK (J 20 4) "Comb.slide" 158 379 w3 ["self","one","other","free","k"]
 ++YK (J 20 5) "Comb.slide_kept" 165 390 w3 ["self","one","other","pair","found"]
 ++YK (J 20 6) "Comb.put" 172 401 w3 ["self","row","line","place","pair"]
 ++fb5 (J 20 7) "Comb.form_told" 179 412 w3
 ++[(ob (vy "tuple") (.seq ⟨[(vs "firsts" 418),(vs "kept" 419),(vs "known" 420),(vs "lasts" 421),(vs "line" 422),(vs "longer" 423),(vs "none" 424),(vs "numbers" 425),(vs "shorter" 426),(vs "whole" 427)]⟩ 0) []),(ob (vy "dict") (.dict ⟨[(en P "__module__" 337 w3),(en P "__firstlineno__" 341 (vi 55 340)),(en P "__init__" 349 (vr 136)),(en P "number_of" 358 (vr 143)),(en P "without_first" 368 (vr 150)),(en P "with_last" 378 (vr 157)),(en P "slide" 389 (vr 164)),(en P "slide_kept" 400 (vr 171)),(en P "put" 411 (vr 178)),(en P "form_told" 417 (vr 183)),(en P "__static_attributes__" 428 (vr 184)),(en P "__dict__" 430 (vr 187)),(en P "__weakref__" 432 (vr 188)),(en P "__doc__" 433 vn)]⟩ 4) []),(ob (vy "type") (.cls (cd "Comb" [(vy "object")] [(vr 186),(vy "object")] 185 "Comb" true [] [] false none false)) [none,none,(aa (vs "Comb" 330)),(aa (vs "Comb" 338)),(aa (vb "object.__new__")),(aa vt)]),(ob (vy "getset_descriptor") (.fields ⟨[(vs "__dict__" 429),(vr 186),(vb "function.__dict__"),(vb "function.__dict__#set")]⟩) []),(ob (vy "getset_descriptor") (.fields ⟨[(vs "__weakref__" 431),(vr 186),(vb "ExceptionGroup.__weakref__"),vn]⟩) []),(ob (vy "super") (.fields ⟨[(vr 186),(vr 186),(vr 186)]⟩) []),(ob (vy "builtin_function_or_method") (.fields ⟨[(vb "object.__init_subclass__"),(vr 186)]⟩) [])]
 ++f7 22 191 438 w4 ["n","word","pieces","order","sign_above","k","place","held"]
 ++f7 23 198 452 w4 ["row"]
 ++f7 24 205 459 w4 ["n","piece"]
 ++f5 25 212 467 w4
 ++f7 26 217 473 w4 ["halves","row"]
 ++f7 27 224 481 w4 ["steps","rows","halves","step"]
 ++f5 28 231 491 w4
 ++f5 29 236 497 w4
 ++f7 30 241 503 w4 ["n","word"]
 ++f7 31 248 511 w4 ["n","one","other"]
 ++f5 32 255 520 w4
 ++f7 34 260 528 w5 ["_law_cell","_law_k","_law_factor"]
 ++f7 35 267 537 w5 ["_law_script","_law_k"]
 ++f7 36 274 545 w5 ["_law_seed","_law_least","_law_most"]
 ++f7 37 281 554 w5 ["_law_number","_law_n","_law_k"]
 ++f7 38 288 563 w5 ["_law_number","_law_n","_law_k","_law_other"]
 ++f7 39 295 573 w5 ["_law_cells","_law_n","_law_most","_law_word","_law_k","_law_cell"]
 ++f5 40 302 585 w5
 ++f5 41 307 591 w5
 ++f5 42 312 597 w5
 ++f5 43 317 603 w5
def as:List ae:=2::3::(bZ 311).map (·+11)
def K(P:kY):Frag:=as.map λa=>(a,(FL P).getD a E)
def q:aR:=view pw [1,2,4,5,7,8,9,10,11,12,13,14,15,16,18,19,20,22,23,24,25,26,27,28,29,30,31,32,34,35,36,37,38,39,40,41,42,43]
def env:Env:={scope:=pw.main.scope,locals:=mainNs,globals:=mainNs,cells:=[],code:=vr 13,frame:=aa 14}
def bd:List aD:=behindTheImports pw
abbrev cE:rK:=.body bd env
abbrev fr:List Frame:=[topFrame ⟨0,0,0,0⟩]
abbrev an:Option ah:=(aa (vr 6))
noncomputable def S(P:kY):Nat->List Obj
 |0=>(((FL P).take 15).set 12 (o12 0)).set 3 (boot_o_3 P)
 |1=>(((FL P).take 45).set 3 (m3 P w1 11 12)).set 12 (o12 3)
 |2=>(((FL P).take 123).set 3 (m3 P w3 24 25)).set 12 (o12 15)
 |3=>(((FL P).take 191).set 3 (m3 P w3 25 26)).set 12 (o12 16)
 |4=>(((FL P).take 281).set 3 (m3 P w5 39 40)).set 12 (o12 30)
 |5=>(FL P).take 322
 |_=>[]
abbrev st(i n t:Nat)(w:aE)(os:iB):SharedT:=⟨bt 12 (S w.params i),n,(boot_heap w.params).life,⟨[]⟩,boot_drawn,t,os⟩
def pre(w:aE)(os:iB):topGo sN pw w 11 an 12 ⟨boot_heap w.params,⟨[]⟩,boot_drawn,boot_toks,os⟩ (topStub pw)=aa ((st 0 15 187 w os).abs,⟨denote sN cE,cE,⟨0,0,0,0⟩,fr⟩):=by kernel_rfl
def blk(w:aE)(os:iB):segRun sN pw w 11 an 1 1 (st 0 15 187 w os).abs (blockOf bd env cE ⟨0,0,0,0⟩ fr)=aa (.next,(st 0 15 187 w os).abs,cE,⟨0,0,0,0⟩):=by kernel_rfl
abbrev Pc(N i n t d k:Nat)(p:Pos)(n2 t2:Nat)(p2:Pos)(w:aE)(os:iB):Prop:=segRunT sN pw w 11 an 1 N (st i n t w os) (piecesOf ((bd.drop d).take k) env cE p fr)=aa (.next,st (i+1) n2 t2 w os,cE,p2)
def pc0(w:aE)(os:iB):Pc 444 0 15 187 0 5 ⟨0,0,0,0⟩ 45 231 ⟨7,0,8,39⟩ w os:=by kernel_rfl
def pc1(w:aE)(os:iB):Pc 379 1 45 231 5 15 ⟨7,0,8,39⟩ 123 330 ⟨50,0,54,15⟩ w os:=by kernel_rfl
def pc2(w:aE)(os:iB):Pc 466 2 123 330 20 1 ⟨50,0,54,15⟩ 191 436 ⟨55,0,126,80⟩ w os:=by kernel_rfl
def pc3(w:aE)(os:iB):Pc 433 3 191 436 21 16 ⟨55,0,126,80⟩ 281 554 ⟨185,0,189,70⟩ w os:=by kernel_rfl
def pc4(w:aE)(os:iB):Pc 202 4 281 554 37 7 ⟨185,0,189,70⟩ 322 609 ⟨232,0,259,154⟩ w os:=by kernel_rfl
def fin(w:aE)(os:iB):topRun sN pw w 11 an 2 (st 5 322 609 w os).abs (restOf [] env cE ⟨232,0,259,154⟩ fr)=aa (st 5 322 609 w os).abs:=by kernel_rfl
def cut:bd=((bd.drop 0).take 5++((bd.drop 5).take 15++((bd.drop 20).take 1++((bd.drop 21).take 16++((bd.drop 37).take 7++[]))))):=by kernel_rfl
def rest{tb:String->Option EJ}{p:aR}{w:aE}{n₀ N:Nat}{ann:Option ah}{s r:aj}{b b':List aD}{e:Env}{c:rK}{ps:Pos}{B:List Frame}(h:b=b')(k:topRun tb p w n₀ ann N s (restOf b' e c ps B)=aa r):topRun tb p w n₀ ann N s (restOf b e c ps B)=aa r:=h▸k
def run(w:aE)(os:iB):topRun sN pw w 11 an (12+(1+(444+(379+(466+(433+(202+2))))))) ⟨boot_heap w.params,⟨[]⟩,boot_drawn,boot_toks,os⟩ (topStub pw)=aa (st 5 322 609 w os).abs:=go_top (pre w os) (piece_block (blk w os) (rest cut (piece_app (segRun_of (pc0 w os)) (piece_app (segRun_of (pc1 w os)) (piece_app (segRun_of (pc2 w os)) (piece_app (segRun_of (pc3 w os)) (piece_app (segRun_of (pc4 w os)) (fin w os))))))))
def lo:List Str:=[]
def hk:Hook:=kHook K as (λ_=>by kernel_rfl)
def Xt(s:aj):Bool:=xlAt q [] s&&recOk (OpenLaw.row PySem.Challenge.rw_braidcomb_k34_forms_joined_and_turned).toRowW.records s
abbrev H1(P:kY):aC:=absHeap (bt 12 (S P 5)) 322 (boot_heap P).life
def aeK(w:aE)(os:iB):(staticsOk (Wm pw.main.body) (boot_heap w.params) (H1 w.params)&&namesBound pw (H1 w.params)&&gensDone ⟨H1 w.params,⟨[]⟩,boot_drawn,609,os⟩&&laidKept (boot_heap w.params) (H1 w.params))=true:=by kernel_rfl
def aeL(w:aE)(os:iB):(openSeen q lo (Wm pw.main.body) Xt true ⟨H1 w.params,⟨[]⟩,boot_drawn,609,os⟩)=openGood q lo:=by kernel_rfl
def aeM(w:aE)(os:iB):(hk.obs ⟨H1 w.params,⟨[]⟩,boot_drawn,609,os⟩)=hk.val w:=by kernel_rfl
def o1:opening pw=plainProg pw.main.scope.names:=by kernel_rfl
def o2(s:aj):fenceModules? pw s=aa s:=by kernel_rfl
def o3:ble 600 3964=true:=by kernel_rfl
def op(w:aE):(fencedOpening sN pw w 3964).map (λs=>(s.heap,s.gens,s.drawn,s.toks))=aa (boot_heap w.params,⟨[]⟩,boot_drawn,boot_toks):=boot_open o1 o3 o2 w
def sz(w:aE):((boot_heap w.params).isNs dH&&(⟨[]⟩:Array GenState).size==0,(boot_heap w.params).objs.size,(boot_heap w.params).nsMap dH "__annotations__")=(true,11,an):=by kernel_rfl
def le:ble (12+(1+(444+(379+(466+(433+(202+2))))))) 3964=true:=by kernel_rfl
def ab(w:aE)(os:iB):aa (st 5 322 609 w os).abs=aa ⟨H1 w.params,⟨[]⟩,boot_drawn,609,os⟩:=by kernel_rfl
def run'(w:aE)(os:iB):topRun sN pw w 11 an (12+(1+(444+(379+(466+(433+(202+2))))))) ⟨boot_heap w.params,⟨[]⟩,boot_drawn,boot_toks,os⟩ (topStub pw)=aa ⟨H1 w.params,⟨[]⟩,boot_drawn,609,os⟩:=Eq.trans (run w os) (ab w os)
def left:LeftO pw q lo Xt hk.obs hk.val 3964 true:=
 @LeftO.of_pieces pw q lo Xt hk.α hk.obs hk.val 3964 true boot_heap H1 ⟨[]⟩ ⟨[]⟩ boot_drawn boot_drawn boot_toks 609 11 an (12+(1+(444+(379+(466+(433+(202+2))))))) op sz run' le (λw=>funext λos=>Prod.ext (aeK w os) (Prod.ext (aeL w os) (aeM w os)))
end
end DL.uD.H
namespace DL.uD
open PySem PySem.Spec PyProof.Rows L2 DL
abbrev Q4:aD:=inClass (top 20) 1
structure SN(K:ak)(mg:Str->Option ah)(C:ae):Prop where
 cl:O2 K C
 kn:jE K C "known"
 nu:jE K C "numbers"
 fi:jE K C "firsts"
 la:jE K C "lasts"
 sh:jE K C "shorter"
 lo:jE K C "longer"
 ke:jE K C "kept"
 li:jE K C "line"
 no:jE K C "none"
 wh:jE K C "whole"
 mgC:mg "Comb"=aa (.ref C)
 mtu:mg "tuple"=none
 mli:mg "list"=none
 mle:mg "len"=none
inductive Q5 (K:ak) (C:ae) (vs:List V) (H:Hp) (Q:VK):Prop
 |mk (a:ae) (A:Ad) (ex:List (Str×V)) (n:Nat) (kn:List RP) (ln:List Int) (B:Nat) (nu sh lo ke:List (List Key×V)) (p:RP) (v:V):(vs=[.ref a,v])->(lR C H a A ex n kn ln B nu sh lo ke)->(n<=7)->(B<1000000)->(Iv n p.1 p.2)->(Is K (λx=>x∉a::A.all) H (.lst (bK p.1)) v)->(∀(i:Nat)(H':Hp)(A':Ad)(mo:List RP)(Jq:List (List Key×V)),lR C H' a A' ex n (kn++mo) ln (B+1) Jq sh lo ke->(kn++mo)[i]?=aa p->lS H H' (a::A.all) (a::A'.all)->A'.li=A.li->Q (.int i) H')->Q5 K C vs H Q
def Hs(K:ak)(C:ae):Sp:=λvs H Q _=>Q5 K C vs H Q
section
variable{P:aR}{w:aE}{K:ak}{mg:Str->Option ah}{base:aC}
def sc1:bc ["self","row","key"] ["self","row"] (au Q4):=⟨rfl,rfl,rfl,by decide +kernel,rfl,by decide +kernel,by decide +kernel⟩
def abJ{f C:ae}{fd:aL}(F:Gd K "number_of" "Comb.number_of" Q4 f fd)(T:SN K mg C)(t:Tb K mg)
  (BZ:qc P w K mg base 2 t.yh t.yi ["row"] xV)(vK:qc P w K mg base 1 t.yf t.yg ["row"] vA)(Q6:Ok P w K mg base 1 t.vG t.vH ["crossings"] qX)
  (YL:∀ks:List Int,(∀k∈ks,1<=k/\k<=7)->qX [.lst (bK ks)]=.ok (.int (Jh ks))):fA P w K mg base oN 3 f fd ["self","row"] (Hs K C):=by
 refine F.ok sc1 (λvs H Q E h=>?_) (λcdv A outer s H vs Q E hr h=>?_)
 ·obtain⟨a,A,ex,n,kn,ln,B,nu,sh,lo,ke,p,v,rfl,_⟩:=h
  rfl
 ·obtain⟨a,A,ex,n,kn,ln,B,nu,sh,lo,ke,p,v,rfl,c,hn,hB,iv,SG,k⟩:=h
  have hu:=xj hr;refine⟨_,bj (gy (i:=2) sc1.nd rfl (eB rfl) (vc Cs (by rfl) T.mtu Gy (aS (pv 1) bA)))
   (bj (zx (Io (yO hu (pv 2) (dw (pv 0) rfl)))
    (bj (Am hu (dw (pv 0) rfl) (pv 2) (nj rO (by rfl) T.mle ki (aS (dw (pv 0) rfl) bA)) rfl)
    (bj (iO (ug jt n9 og fX (dw (pv 0) rfl) (aS (vc rP (by rfl) T.mli rV (aS (pv 1) bA)) bA)) rfl)
    (bj (iO (ug jt n9 og fX (dw (pv 0) rfl) (aS (ie (E:=λ_ _ _=>False) Q6 hr.mono (by rfl) t.kH.m t.kH.F.kp t.kH.b .nil oV (aS (ie (E:=λ_ _ _=>False) BZ hr.mono (by rfl) t.uJ.m t.uJ.F.kp t.uJ.b .nil oV (aS (pv 1) bA)) bA)) bA)) rfl)
    (dJ (iO (ug jt n9 og fX (dw (pv 0) rfl) (aS (ie (E:=λ_ _ _=>False) Q6 hr.mono (by rfl) t.kH.m t.kH.F.kp t.kH.b .nil oV (aS (ie (E:=λ_ _ _=>False) vK hr.mono (by rfl) t.vE.m t.vE.F.kp t.vE.b .nil oV (aS (pv 1) bA)) bA)) bA)) rfl))))) pR)
   (dJ (nE (Ej hu (dw (pv 0) rfl) (pv 2) (λ_ _=>rfl))))),?_⟩
  obtain⟨b,vs,rfl,lb,il⟩:=id SG;have ev:=jT il;subst ev;refine⟨_,rfl,b,_,rfl,.inl ⟨lb.sq,λl hl=>?_⟩⟩;have s1:bD H (upd H l (.tup (p.1.map V.int))):=bF hl _;have c1:=c.same s1;have hkey:(upd H l (.tup (p.1.map V.int))) l=aa (.tup ((kk p.1).map kV)):=by rw[air];exact aP
  have Fo:=lS.same s1 (a::A.all);generalize hH1:upd H l (.tup (p.1.map V.int))=H1 at s1 c1 hkey Fo;refine⟨_,rfl,_,rfl,a,C,A.dx,_,_,rfl,c1.ob,T.cl,T.nu,LV,A.nu,_,rfl,rQ.t c1.CD hkey,_,rfl,?_⟩
  by_cases hm:∃q∈kn,q.1=p.1
  ·obtain⟨q,hq,eq⟩:=hm
   have hqp:q=p:=lX (c.rw q hq) iv eq;subst hqp;obtain⟨i,hi,ei⟩:=pZ hq;have Bt:kn[i]?=aa q:=by rw[aQ hi,ei]
   have hv:=c.n1 i q Bt;rw[hv];refine yM ?_;refine⟨_,rfl,a,C,A.dx,_,_,rfl,c1.ob,T.cl,T.nu,LV,_,rfl,A.nu,.int i,rfl,?_,?_⟩
   ·have:=rQ.t (k:=kk q.1) c1.CD hkey
    rw[hv]at this;exact this
   ·exact k i H1 A [] nu (by rw[bq];exact c1.more (by lia)) (by rw[bq];exact Bt) Fo rfl
  ·have hv:gP nu (kk p.1)=none:=c.n2 p.1 λq hq e=>hm ⟨q,hq,e⟩
   rw[hv];refine zO ?_;have hz:=c.z;obtain⟨n1,n2,n3,n4,n5,n6,m1,m2,m3,m4,m5,m6,YA,d1,d2,d3,d4,d5,d6,d7,d8,d9,ksd⟩:=c.nes;have big:∀{x:Nat},x<=1000001->x<aH:=λh=>xm h (by decide);have Wn:∀x∈A.hd,x∈a::A.all:=λx hx=>bg _ (gb _ hx);refine⟨_,rfl,a,C,A.dx,_,_,rfl,c1.ob,T.cl,T.kn,C9,A.kn,_,rfl,.inl (fG.of c1.hkn),_,rfl,a,C,A.dx,_,_,rfl,c1.ob,T.cl,T.nu,LV,_,rfl,A.nu,_,rfl,Gg.t c1.CD hkey (big (by lia)),?_⟩;rw[aG,c.Hd];have k1n:A.kn≠A.nu:=dE c.hkn c.CD (by intro z;cases z);have fin:A.fi≠A.nu:=dE c.Cg c.CD (by intro z;cases z);have lan:A.la≠A.nu:=dE c.hla c.CD (by intro z;cases z);have an:a≠A.nu:=dE c.ob c.CD (by intro z;cases z);have akn:a≠A.kn:=dE c.ob c.hkn (by intro z;cases z);have afi:a≠A.fi:=dE c.ob c.Cg (by intro z;cases z);have ala:a≠A.la:=dE c.ob c.hla (by intro z;cases z);have ln1:l≠A.nu:=λz=>by rw[z,c.CD]at hl;cases hl
   generalize hH2:upd H1 A.nu (.dT (putK nu (kk p.1) (.int (kn.length:Int))))=H2;have ob2:H2 a=aa (.ins C A.dx (zV A++ex)):=by rw[<-hH2,aB an];exact c1.ob
   have YM:H2 A.kn=aa (.lst (A.ks.map V.ref)):=by rw[<-hH2,aB k1n];exact c1.hkn
   have Jr:lS H H2 (a::A.all) (a::A.all):=Fo.trans (by rw[<-hH2];exact lS.upd (Wn _ (by simp[Ad.hd])) _);have lb2:zP K (λ_=>True) H2 b (p.1.map V.int):=lb.ext ⟨λ_ _ _ _=>trivial,λx o px hx=>Jr.kp x o px hx⟩;refine⟨_,rfl,a,C,A.dx,_,_,rfl,ob2,T.cl,T.kn,C9,.inl ⟨rfl,_,fG.of YM⟩,_,rfl,b,_,rfl,.inl lb2.sq,λl2 hl2=>?_⟩;have l2H:H l2=none:=Jr.gr l2 hl2;have l2k:A.kn≠l2:=λz=>by rw[<-z,YM]at hl2;cases hl2
   refine⟨A.kn,A.ks.map V.ref,.ref l2,rfl,rfl,by rw[aB l2k];exact YM,by rw[aG,c.Hd];exact big (by lia),?_⟩;generalize SQ:upd (upd H2 l2 (.lst (p.1.map V.int))) A.kn (.lst (A.ks.map V.ref++[.ref l2]))=H3;have vQ:lS H H3 (a::A.all) (a::A.all):=by rw[<-SQ];exact(Jr.trans (lS.same (bF hl2 _) _)).trans (lS.upd (Wn _ (by simp[Ad.hd])) _)
   have ob3:H3 a=aa (.ins C A.dx (zV A++ex)):=by rw[<-SQ,aB akn];exact bF hl2 _ _ _ ob2
   have fi3:H3 A.fi=aa (.lst (kn.map λp=>V.int (zW p.2))):=by rw[<-SQ,aB (Ne.symm n1)];refine bF hl2 _ _ _ ?_;rw[<-hH2,aB fin];exact c1.Cg
   have lb3:zP K (λ_=>True) H3 b (p.1.map V.int):=lb.ext ⟨λ_ _ _ _=>trivial,λx o px hx=>vQ.kp x o px hx⟩;refine⟨_,rfl,a,C,A.dx,_,_,rfl,ob3,T.cl,T.fi,QF,.inl ⟨rfl,_,fG.of fi3⟩,_,rfl,_,[.lst (bK p.1)],⟨.ref b,[],rfl,⟨b,_,rfl,lb3,dX p.1⟩,rfl⟩,?_⟩;have hd7:∀(m:Nat)(x y:List Int),m<=7->Iv m x y->∀k∈FQ y,1<=k/\k<=7:=λm x y hm h k hk=>by obtain⟨a',e,h1,_⟩:=xY.mp hk;rw[h.ls]at h1;lia
   rw[NS iv hn];intro q ws H4 s4 hq4 hw4 iw4;have ew:=jT iw4;subst ew;refine⟨λ_=>True,[.lst (bK (FQ p.2))],⟨.ref q,[],rfl,⟨q,_,rfl,.inl ⟨trivial,.inl hw4⟩,dX _⟩,rfl⟩,?_⟩;rw[YL _ (hd7 n p.1 p.2 hn iv)];intro v5 H5 s5 i5;have e5:v5=.int (Jh (FQ p.2)):=i5;subst e5;have Ja:=s4.trans s5;refine⟨A.fi,_,.int (zW p.2),rfl,rfl,Ja _ _ fi3,by rw[aG];exact big (by lia),?_⟩;generalize SR:upd H5 A.fi (.lst ((kn.map λp=>V.int (zW p.2))++[V.int (zW p.2)]))=H6;have fr6:lS H H6 (a::A.all) (a::A.all):=by rw[<-SR];exact(vQ.trans (lS.same Ja _)).trans (lS.upd (Wn _ (by simp[Ad.hd])) _)
   have ob6:H6 a=aa (.ins C A.dx (zV A++ex)):=by rw[<-SR,aB afi];exact Ja _ _ ob3
   have la6:H6 A.la=aa (.lst (kn.map λp=>V.int (zW p.1))):=by rw[<-SR,aB (Ne.symm n4)];refine Ja _ _ ?_;rw[<-SQ,aB (Ne.symm n2)];refine bF hl2 _ _ _ ?_;rw[<-hH2,aB lan];exact c1.hla
   have lb6:zP K (λ_=>True) H6 b (p.1.map V.int):=lb.ext ⟨λ_ _ _ _=>trivial,λx o px hx=>fr6.kp x o px hx⟩;refine⟨_,rfl,a,C,A.dx,_,_,rfl,ob6,T.cl,T.la,QG,.inl ⟨rfl,_,fG.of la6⟩,_,rfl,_,[.lst (bK p.1)],⟨.ref b,[],rfl,⟨b,_,rfl,lb6,dX p.1⟩,rfl⟩,?_⟩;rw[Hc p.1 (by rw[iv.lr];exact hn)];intro q7 ws7 H7 s7 hq7 hw7 iw7;have ew7:=jT iw7;subst ew7;refine⟨λ_=>True,[.lst (bK (FQ p.1))],⟨.ref q7,[],rfl,⟨q7,_,rfl,.inl ⟨trivial,.inl hw7⟩,dX _⟩,rfl⟩,?_⟩;rw[YL _ (hd7 n p.2 p.1 hn iv.symm)];intro v8 H8 s8 i8;have e8:v8=.int (Jh (FQ p.1)):=i8;subst e8;have YN:=s7.trans s8;refine⟨A.la,_,.int (zW p.1),rfl,rfl,YN _ _ la6,by rw[aG];exact big (by lia),?_⟩;generalize YQ:upd H8 A.la (.lst ((kn.map λp=>V.int (zW p.1))++[V.int (zW p.1)]))=H9;have fr9:lS H H9 (a::A.all) (a::A.all):=by rw[<-YQ];exact(fr6.trans (lS.same YN _)).trans (lS.upd (Wn _ (by simp[Ad.hd])) _)
   have keep:∀x o,x≠A.nu->x≠A.kn->x≠A.fi->x≠A.la->H x=aa o->H9 x=aa o:=λx o x1 x2 x3 x4 hx=>by rw[<-YQ,aB x4];refine YN _ _ ?_;rw[<-SR,aB x3];refine Ja _ _ ?_;rw[<-SQ,aB x2];refine bF hl2 _ _ _ ?_;rw[<-hH2,aB x1];exact s1 _ _ hx
   have ob9:H9 a=aa (.ins C A.dx (zV A++ex)):=keep a _ an akn afi ala c.ob;have nu9:H9 A.nu=aa (.dT (putK nu (kk p.1) (.int (kn.length:Int)))):=by rw[<-YQ,aB (Ne.symm lan)];refine YN _ _ ?_;rw[<-SR,aB (Ne.symm fin)];refine Ja _ _ ?_;rw[<-SQ,aB (Ne.symm k1n)];refine bF hl2 _ _ _ ?_;rw[<-hH2];exact aP
   have alG:H9 l=aa (.tup ((kk p.1).map kV)):=by
    have lk:∀{x:ae}{o:HO},H x=aa o->l≠x:=λhx z=>by rw[z,hx]at hl;cases hl
    rw[<-YQ,aB (lk c.hla)];refine YN _ _ ?_;rw[<-SR,aB (lk c.Cg)];refine Ja _ _ ?_;rw[<-SQ,aB (lk c.hkn)];refine bF hl2 _ _ _ ?_;rw[<-hH2,aB (lk c.CD)];exact hkey
   have l29:H9 l2=aa (.lst (p.1.map V.int)):=by
    have lk:∀{x:ae}{o:HO},H x=aa o->l2≠x:=λhx z=>by rw[z,hx]at l2H;cases l2H
    rw[<-YQ,aB (lk c.hla)];refine YN _ _ ?_;rw[<-SR,aB (lk c.Cg)];refine Ja _ _ ?_;rw[<-SQ,aB (lk c.hkn)];exact aP
   have kn9:H9 A.kn=aa (.lst (A.ks.map V.ref++[.ref l2])):=by rw[<-YQ,aB n2];refine YN _ _ ?_;rw[<-SR,aB n1];refine Ja _ _ ?_;rw[<-SQ];exact aP
   have fi9:H9 A.fi=aa (.lst ((kn.map λp=>V.int (zW p.2))++[V.int (zW p.2)])):=by rw[<-YQ,aB n4];refine YN _ _ ?_;rw[<-SR];exact aP
   have la9:H9 A.la=aa (.lst ((kn.map λp=>V.int (zW p.1))++[V.int (zW p.1)])):=by rw[<-YQ];exact aP
   have CF:∀j,gP (putK nu (kk p.1) (.int (kn.length:Int))) j=if j=kk p.1 then aa (.int (kn.length:Int))else gP nu j:=λj=>oO nu (kk p.1) j _;have c9:=c.add hm iv l2H ob9 nu9 kn9 fi9 la9 l29 keep;refine⟨_,rfl,a,C,A.dx,_,_,rfl,ob9,T.cl,T.nu,LV,_,rfl,A.nu,.int (kn.length:Int),rfl,?_,?_⟩
   ·have:=rQ.t (k:=kk p.1) nu9 alG
    rw[CF,if_pos rfl]at this;exact this
   ·refine k kn.length H9 _ [p] _ c9 (by simp) ⟨fr9.kp,λx hx=>?_,fr9.gr⟩ rfl
    have Cn:x∈a::(A.hd++(A.ks++[l2])):=hx;rw[<-bC,<-gI]at Cn;rcases b8.mp Cn with h|h
    ·exact .inl h
    ·have:x=l2:=by simpa using h
     rw[this];exact .inr l2H
end
end DL.uD
namespace DL.uD
open PySem PySem.Spec PyProof.Rows L2 DL
abbrev Q7:aD:=inClass (top 20) 2
inductive Q8 (C:ae) (vs:List V) (H:Hp) (Q:VK):Prop
 |mk (a:ae) (A:Ad) (z w:Int) (n:Nat) (kn:List RP) (ln:List Int) (B:Nat) (nu sh lo ke:List (List Key×V)) (p:RP) (i j:Nat):(vs=[.ref a,.int i,.int ((j:Int)+1)])->(lR C H a A (zH z w) n kn ln B nu sh lo ke)->(n<=7)->(B+1<1000000)->(kn[i]?=aa p)->(j+1<n)->(∀(i':Nat)(H':Hp)(A':Ad)(mo:List RP)(Jq sh':List (List Key×V)),lR C H' a A' (zH z w) n (kn++mo) ln (B+2) Jq sh' lo ke->(kn++mo)[i']?=aa (wJ p j)->lS H H' (a::A.all) (a::A'.all)->A'.li=A.li->Q (.int i') H')->Q8 C vs H Q
def YR(C:ae):Sp:=λvs H Q _=>Q8 C vs H Q
section
variable{P:aR}{w:aE}{K:ak}{mg:Str->Option ah}{base:aC}
def sc2:bc ["self","number","k","step"] ["self","number","k"] (au Q7):=⟨rfl,rfl,rfl,by decide +kernel,rfl,by decide +kernel,by decide +kernel⟩
def aeP{f C fN:ae}{fd Q9:aL}(F:Gd K "without_first" "Comb.without_first" Q7 f fd)(T:SN K mg C)(t:Tb K mg)
  (mN:Meth K C "number_of" fN)(bN:Binds K Q9 ["self","row"] [])(GN:fA P w K mg base oN 3 fN Q9 ["self","row"] (Hs K C))
  (G_x:qc P w K mg base 2 t.fQ t.fR ["row","k"] fO):fA P w K mg base oN 4 f fd ["self","number","k"] (YR C):=by
 refine F.ok sc2 (λvs H Q E h=>?_) (λcdv A outer s H vs Q E hr h=>?_)
 ·obtain⟨a,A,z,w,n,kn,ln,B,nu,sh,lo,ke,p,i,j,rfl,_⟩:=h
  rfl
 ·obtain⟨a,A,z,w,n,kn,ln,B,nu,sh,lo,ke,p,i,j,rfl,c,hn,hB,hi,hj,k⟩:=h
  have hu:=xj hr;refine⟨_,bj (gy (i:=3) sc2.nd rfl (eB rfl) (wx (aS (pv 1) (aS (pv 2) bA))))
   (bj (zx (Io (yO hu (pv 3) (dw (pv 0) rfl)))
    (dJ (Am hu (dw (pv 0) rfl) (pv 3) (mK (pv 0) T.cl mN GN hr.mono bN .nil sY (aS (ie (E:=λ_ _ _=>False) G_x hr.mono (by rfl) t.dR.m t.dR.F.kp t.dR.b .nil oV (aS (ja ig (dw (pv 0) rfl) (pv 1) (λ_ _=>rfl)) (aS (pv 2) bA))) bA)) rfl)) pR)
   (dJ (nE (Ej hu (dw (pv 0) rfl) (pv 3) (λ_ _=>rfl))))),?_⟩
  refine⟨_,rfl,_,rfl,(by show 2<=aH;decide),λl hl=>?_⟩;have s1:bD H (upd H l (.tup [.int i,.int ((j:Int)+1)])):=bF hl _;have c1:=c.same s1;have hkey:(upd H l (.tup [.int i,.int ((j:Int)+1)])) l=aa (.tup (([.inl (i:Int),.inl ((j:Int)+1)]:List Key).map kV)):=aP;have Fo:=lS.same s1 (a::A.all);have hlF:l∉a::A.all:=λhx=>by obtain⟨o,ho⟩:=c.there hx;rw[hl]at ho;cases ho
  generalize hH1:upd H l (.tup [.int i,.int ((j:Int)+1)])=H1 at s1 c1 hkey Fo;refine⟨_,rfl,_,rfl,a,C,A.dx,_,_,rfl,c1.ob,T.cl,T.sh,LW,A.sh,_,rfl,rQ.t c1.hsh hkey,_,rfl,?_⟩;have ej:((j:Int)+1-1).toNat=j:=by lia
  cases hv:gP sh ([.inl (i:Int),.inl ((j:Int)+1)]:List Key)with
  |some v=>
   refine yM ?_;obtain⟨j',p',h1,h2,rfl⟩:=c.s1 i ((j:Int)+1) v hv;rw[hi]at h1;cases h1;rw[ej]at h2;refine⟨_,rfl,a,C,A.dx,_,_,rfl,c1.ob,T.cl,T.sh,LW,_,rfl,A.sh,.int j',rfl,?_,?_⟩
   ·have:=rQ.t (k:=[.inl (i:Int),.inl ((j:Int)+1)]) c1.hsh hkey
    rw[hv]at this;exact this
   ·exact k j' H1 A [] nu sh (by rw[bq];exact c1.more (by lia)) (by rw[bq];exact h2) Fo rfl
  |none=>
   refine zO ?_;have iv:=c.rw p (dm hi);have hil:i<A.ks.length:=by rw[c.Hd];exact(bz.mp hi).1
   have hb1:=c1.hks i A.ks[i] p (aQ hil) hi;refine⟨_,rfl,a,A.dx,_,rfl,c1.ob,rfl,_,rfl,a,C,A.dx,_,_,rfl,c1.ob,T.cl,T.kn,C9,_,rfl,A.kn,A.ks.map V.ref,i,.ref A.ks[i],rfl,rfl,fG.of c1.hkn,mR (by rw[bG,aQ hil];rfl),_,rfl,λ_=>True,[.lst (bK p.1),.int ((j:Int)+1)],⟨_,_,rfl,⟨_,_,rfl,.inl ⟨trivial,.inl hb1⟩,dX _⟩,⟨_,_,rfl,rfl,rfl⟩⟩,?_⟩;rw[QD iv hn hj];intro q ws H2 s2 hq2 YF Wj;have ew:=jT Wj;subst ew;have c2:=c1.same s2;have hqF:q∉a::A.all:=λhx=>by obtain⟨o,ho⟩:=c1.there hx;rw[hq2]at ho;cases ho
   refine⟨a,A,zH z w,n,kn,ln,B,nu,sh,lo,ke,wJ p j,.ref q,rfl,c2,hn,by lia,iv.step hj,⟨q,_,rfl,.inl ⟨hqF,.inl YF⟩,dX _⟩,λi' H3 A' mo Jq c3 VJ vQ eli=>?_⟩;have yp:H3 l=aa (.tup (([.inl (i:Int),.inl ((j:Int)+1)]:List Key).map kV)):=vQ.kp l _ hlF (s2 _ _ hkey);have hz:=c3.z;refine⟨_,rfl,a,C,A'.dx,_,_,rfl,c3.ob,T.cl,T.sh,LW,_,rfl,A'.sh,_,rfl,Gg.t c3.hsh yp (xm (show sh.length<=1000001 by lia) (by decide)),?_⟩;have Bt:(kn++mo)[i]?=aa p:=eg hi;have c4:=c3.abv (i:=i) (j:=i') (k:=(j:Int)+1) Bt (by rw[ej];exact VJ);have hl4:A'.sh≠l:=λzz=>by rw[<-zz,c3.hsh]at yp;cases yp
   refine⟨_,rfl,a,C,A'.dx,_,_,rfl,c4.ob,T.cl,T.sh,LW,_,rfl,A'.sh,.int i',rfl,?_,?_⟩
   ·have hk4:(upd H3 A'.sh (.dT (putK sh [.inl (i:Int),.inl ((j:Int)+1)] (.int i')))) l=aa (.tup (([.inl (i:Int),.inl ((j:Int)+1)]:List Key).map kV)):=by rw[aB (Ne.symm hl4)];exact yp
    have:=rQ.t (k:=[.inl (i:Int),.inl ((j:Int)+1)]) c4.hsh hk4;rw[oO,if_pos rfl]at this;exact this
   ·refine k i' _ A' mo Jq _ c4 VJ ?_ eli
    exact((Fo.trans (lS.same s2 _)).trans vQ).trans (lS.upd (bg _ (gb _ (by simp[Ad.hd]))) _)
end
abbrev Ra:aD:=inClass (top 20) 3
inductive Rb (C:ae) (vs:List V) (H:Hp) (Q:VK):Prop
 |mk (a:ae) (A:Ad) (z w:Int) (n:Nat) (kn:List RP) (ln:List Int) (B:Nat) (nu sh lo ke:List (List Key×V)) (p:RP) (i j:Nat):(vs=[.ref a,.int i,.int ((j:Int)+1)])->(lR C H a A (zH z w) n kn ln B nu sh lo ke)->(n<=7)->(B+1<1000000)->(kn[i]?=aa p)->(j+1<n)->(∀(i':Nat)(H':Hp)(A':Ad)(mo:List RP)(Jq lo':List (List Key×V)),lR C H' a A' (zH z w) n (kn++mo) ln (B+2) Jq sh lo' ke->(kn++mo)[i']?=aa (tZ p j)->lS H H' (a::A.all) (a::A'.all)->A'.li=A.li->Q (.int i') H')->Rb C vs H Q
def YS(C:ae):Sp:=λvs H Q _=>Rb C vs H Q
section
variable{P:aR}{w:aE}{K:ak}{mg:Str->Option ah}{base:aC}
def sc3:bc ["self","number","k","step"] ["self","number","k"] (au Ra):=⟨rfl,rfl,rfl,by decide +kernel,rfl,by decide +kernel,by decide +kernel⟩
def aeS{f C fN:ae}{fd Q9:aL}(F:Gd K "with_last" "Comb.with_last" Ra f fd)(T:SN K mg C)(t:Tb K mg)
  (mN:Meth K C "number_of" fN)(bN:Binds K Q9 ["self","row"] [])(GN:fA P w K mg base oN 3 fN Q9 ["self","row"] (Hs K C))
  (G_x:qc P w K mg base 1 t.cS t.cT ["row","k"] cg):fA P w K mg base oN 4 f fd ["self","number","k"] (YS C):=by
 refine F.ok sc3 (λvs H Q E h=>?_) (λcdv A outer s H vs Q E hr h=>?_)
 ·obtain⟨a,A,z,w,n,kn,ln,B,nu,sh,lo,ke,p,i,j,rfl,_⟩:=h
  rfl
 ·obtain⟨a,A,z,w,n,kn,ln,B,nu,sh,lo,ke,p,i,j,rfl,c,hn,hB,hi,hj,k⟩:=h
  have hu:=xj hr;refine⟨_,bj (gy (i:=3) sc3.nd rfl (eB rfl) (wx (aS (pv 1) (aS (pv 2) bA))))
   (bj (zx (Io (yO hu (pv 3) (dw (pv 0) rfl)))
    (dJ (Am hu (dw (pv 0) rfl) (pv 3) (mK (pv 0) T.cl mN GN hr.mono bN .nil sY (aS (ie (E:=λ_ _ _=>False) G_x hr.mono (by rfl) t.cy.m t.cy.F.kp t.cy.b .nil oV (aS (ja ig (dw (pv 0) rfl) (pv 1) (λ_ _=>rfl)) (aS (pv 2) bA))) bA)) rfl)) pR)
   (dJ (nE (Ej hu (dw (pv 0) rfl) (pv 3) (λ_ _=>rfl))))),?_⟩
  refine⟨_,rfl,_,rfl,(by show 2<=aH;decide),λl hl=>?_⟩;have s1:bD H (upd H l (.tup [.int i,.int ((j:Int)+1)])):=bF hl _;have c1:=c.same s1;have hkey:(upd H l (.tup [.int i,.int ((j:Int)+1)])) l=aa (.tup (([.inl (i:Int),.inl ((j:Int)+1)]:List Key).map kV)):=aP;have Fo:=lS.same s1 (a::A.all);have hlF:l∉a::A.all:=λhx=>by obtain⟨o,ho⟩:=c.there hx;rw[hl]at ho;cases ho
  generalize hH1:upd H l (.tup [.int i,.int ((j:Int)+1)])=H1 at s1 c1 hkey Fo;refine⟨_,rfl,_,rfl,a,C,A.dx,_,_,rfl,c1.ob,T.cl,T.lo,LX,A.lo,_,rfl,rQ.t c1.hlo hkey,_,rfl,?_⟩;have ej:((j:Int)+1-1).toNat=j:=by lia
  cases hv:gP lo ([.inl (i:Int),.inl ((j:Int)+1)]:List Key)with
  |some v=>
   refine yM ?_;obtain⟨j',p',h1,h2,rfl⟩:=c.l1 i ((j:Int)+1) v hv;rw[hi]at h1;cases h1;rw[ej]at h2;refine⟨_,rfl,a,C,A.dx,_,_,rfl,c1.ob,T.cl,T.lo,LX,_,rfl,A.lo,.int j',rfl,?_,?_⟩
   ·have:=rQ.t (k:=[.inl (i:Int),.inl ((j:Int)+1)]) c1.hlo hkey
    rw[hv]at this;exact this
   ·exact k j' H1 A [] nu lo (by rw[bq];exact c1.more (by lia)) (by rw[bq];exact h2) Fo rfl
  |none=>
   refine zO ?_;have iv:=c.rw p (dm hi);have hil:i<A.ks.length:=by rw[c.Hd];exact(bz.mp hi).1
   have hb1:=c1.hks i A.ks[i] p (aQ hil) hi;refine⟨_,rfl,a,A.dx,_,rfl,c1.ob,rfl,_,rfl,a,C,A.dx,_,_,rfl,c1.ob,T.cl,T.kn,C9,_,rfl,A.kn,A.ks.map V.ref,i,.ref A.ks[i],rfl,rfl,fG.of c1.hkn,mR (by rw[bG,aQ hil];rfl),_,rfl,λ_=>True,[.lst (bK p.1),.int ((j:Int)+1)],⟨_,_,rfl,⟨_,_,rfl,.inl ⟨trivial,.inl hb1⟩,dX _⟩,⟨_,_,rfl,rfl,rfl⟩⟩,?_⟩;rw[yX (by rw[iv.lr];exact hn) (by rw[iv.lr];exact hj)];intro q ws H2 s2 hq2 YF Wj;have ew:=jT Wj;subst ew;have c2:=c1.same s2;have hqF:q∉a::A.all:=λhx=>by obtain⟨o,ho⟩:=c1.there hx;rw[hq2]at ho;cases ho
   refine⟨a,A,zH z w,n,kn,ln,B,nu,sh,lo,ke,tZ p j,.ref q,rfl,c2,hn,by lia,(iv.symm.step hj).symm,⟨q,_,rfl,.inl ⟨hqF,.inl YF⟩,dX _⟩,λi' H3 A' mo Jq c3 VJ vQ eli=>?_⟩;have yp:H3 l=aa (.tup (([.inl (i:Int),.inl ((j:Int)+1)]:List Key).map kV)):=vQ.kp l _ hlF (s2 _ _ hkey);have hz:=c3.z;refine⟨_,rfl,a,C,A'.dx,_,_,rfl,c3.ob,T.cl,T.lo,LX,_,rfl,A'.lo,_,rfl,Gg.t c3.hlo yp (xm (show lo.length<=1000001 by lia) (by decide)),?_⟩;have Bt:(kn++mo)[i]?=aa p:=eg hi;have c4:=c3.abw (i:=i) (j:=i') (k:=(j:Int)+1) Bt (by rw[ej];exact VJ);have hl4:A'.lo≠l:=λzz=>by rw[<-zz,c3.hlo]at yp;cases yp
   refine⟨_,rfl,a,C,A'.dx,_,_,rfl,c4.ob,T.cl,T.lo,LX,_,rfl,A'.lo,.int i',rfl,?_,?_⟩
   ·have hk4:(upd H3 A'.lo (.dT (putK lo [.inl (i:Int),.inl ((j:Int)+1)] (.int i')))) l=aa (.tup (([.inl (i:Int),.inl ((j:Int)+1)]:List Key).map kV)):=by rw[aB (Ne.symm hl4)];exact yp
    have:=rQ.t (k:=[.inl (i:Int),.inl ((j:Int)+1)]) c4.hlo hk4;rw[oO,if_pos rfl]at this;exact this
   ·refine k i' _ A' mo Jq _ c4 VJ ?_ eli
    exact((Fo.trans (lS.same s2 _)).trans vQ).trans (lS.upd (bg _ (gb _ (by simp[Ad.hd]))) _)
end
end DL.uD
namespace DL.uD
open PySem PySem.Spec PyProof.Rows L2 DL
abbrev Rf:aD:=inClass (top 20) 4
inductive Rg (C:ae) (vs:List V) (H:Hp) (Q:VK):Prop
 |mk (a:ae) (A:Ad) (z w:Int) (n:Nat) (kn:List RP) (ln:List Int) (B:Nat) (nu sh lo ke:List (List Key×V)) (p q:RP) (i j:Nat):(vs=[.ref a,.int i,.int j])->(lR C H a A (zH z w) n kn ln B nu sh lo ke)->(n<=7)->(B+300<1000000)->(kn[i]?=aa p)->(kn[j]?=aa q)->(∀(t:ae)(i' j':Nat)(H':Hp)(A':Ad)(mo:List RP)(Jq sh' lo':List (List Key×V)),lR C H' a A' (zH z w) n (kn++mo) ln (B+200) Jq sh' lo' ke->(kn++mo)[i']?=aa (fU 50 p q).1->(kn++mo)[j']?=aa (fU 50 p q).2->H t=none->H' t=aa (.tup [.int i',.int j'])->lS H H' (a::A.all) (a::A'.all)->A'.li=A.li->Q (.ref t) H')->Rg C vs H Q
def YT(C:ae):Sp:=λvs H Q _=>Rg C vs H Q
section
variable{P:aR}{w:aE}{K:ak}{mg:Str->Option ah}{base:aC}
def sc4:bc ["self","one","other","free","k"] ["self","one","other"] (au Rf):=⟨rfl,rfl,rfl,by decide +kernel,rfl,by decide +kernel,by decide +kernel⟩
def aeT{f C fS fL:ae}{fd YU fdL:aL}(F:Gd K "slide" "Comb.slide" Rf f fd)(T:SN K mg C)
  (mS:Meth K C "without_first" fS)(bS:Binds K YU ["self","number","k"] [])(GS:fA P w K mg base oN 4 fS YU ["self","number","k"] (YR C))
  (mL:Meth K C "with_last" fL)(bL:Binds K fdL ["self","number","k"] [])(GL:fA P w K mg base oN 4 fL fdL ["self","number","k"] (YS C)):fA P w K mg base oN 5 f fd ["self","one","other"] (YT C):=by
 refine F.ok sc4 (λvs H Q E h=>?_) (λcdv A outer s H vs Q E hr h=>?_)
 ·obtain⟨a,A,z,w,n,kn,ln,B,nu,sh,lo,ke,p,q,i,j,rfl,_⟩:=h
  rfl
 ·obtain⟨a,A,z,w,n,kn,ln,B,nu,sh,lo,ke,p,q,i,j,rfl,c,hn,hB,hi,hj,k⟩:=h
  have hu:=xj hr;refine⟨_,bj (gy (i:=3) sc4.nd rfl (eB rfl) (wW OV (ja ig (dw (pv 0) rfl) (pv 2) (λ_ _=>rfl)) (J3 OW (ja ig (dw (pv 0) rfl) (pv 1) (λ_ _=>rfl)))))
   (bj (A5 jA (nV qP (pv 3) jD (bH _))
    (bj (gy (i:=4) sc4.nd rfl (eB rfl) (Ef PySem.F.plainAttrs_int PySem.F.slot_int_bit_length PySem.F.type_int_bit_length V1 (pv 3)))
    (bj (gy (i:=1) sc4.nd rfl (eB rfl) (mK (pv 0) T.cl mL GL hr.mono bL .nil sY (aS (pv 1) (aS (pv 4) bA))))
    (bj (gy (i:=2) sc4.nd rfl (eB rfl) (mK (pv 0) T.cl mS GS hr.mono bS .nil sY (aS (pv 2) (aS (pv 4) bA))))
    (dJ (gy (i:=3) sc4.nd rfl (eB rfl) (wW OV (ja ig (dw (pv 0) rfl) (pv 2) (λ_ _=>rfl)) (J3 OW (ja ig (dw (pv 0) rfl) (pv 1) (λ_ _=>rfl))))))))))
   (dJ (nE (wx (aS (pv 1) (aS (pv 2) bA)))))),?_⟩
  have rdB:∀{H2:Hp}{A2:Ad}{YM:List RP}{B2:Nat}{AS B0 lo2:List (List Key×V)}{i2:Nat}{p2:RP},lR C H2 a A2 (zH z w) n YM ln B2 AS B0 lo2 ke->YM[i2]?=aa p2->kU (YM.map λp=>V.int (zW p.2)) (i2:Int)=aa (.int (zW p2.2))/\kU (YM.map λp=>V.int (zW p.1)) (i2:Int)=aa (.int (zW p2.1)):=λc2 h2=>
   ⟨mR (by rw[bG,h2];rfl),mR (by rw[bG,h2];rfl)⟩
  have l7:∀{x:RP},Iv n x.1 x.2->x.1.length<=7/\x.2.length<=7:=λh=>⟨by rw[h.lr];exact hn,by rw[h.ls];exact hn⟩
  have ivp:=c.rw p (dm hi);have ivq:=c.rw q (dm hj);refine⟨_,rfl,a,C,A.dx,_,_,rfl,c.ob,T.cl,T.fi,QF,_,rfl,A.fi,_,j,_,rfl,rfl,fG.of c.Cg,(rdB c hj).1,_,rfl,a,C,A.dx,_,_,rfl,c.ob,T.cl,T.la,QG,_,rfl,A.la,_,i,_,rfl,rfl,fG.of c.hla,(rdB c hi).2,_,rfl,_,_,rfl,rfl,?_⟩;dsimp only;rw[LY (l7 ivp).1 (l7 ivq).2];refine⟨λm σ H2=>∃(A2:Ad)(mo:List RP)(AS B0 lo2:List (List Key×V))(i2 j2:Nat)(p2 q2:RP)(s:Nat)(kv:Option V),σ=[aa (.ref a),aa (.int i2),aa (.int j2),aa (.int (Jh (pJ p2 q2))),kv]/\lR C H2 a A2 (zH z w) n (kn++mo) ln (B+4*s) AS B0 lo2 ke/\
    (kn++mo)[i2]?=aa p2/\(kn++mo)[j2]?=aa q2/\fU (50-s) p2 q2=fU 50 p q/\s<=jX p2.1/\m=50-s/\lS H H2 (a::A.all) (a::A2.all)/\A2.li=A.li,⟨50,A,[],nu,sh,lo,i,j,p,q,0,none,rfl,by rw[bq];exact c,by rw[bq];exact hi,by rw[bq];exact hj,rfl,iR _,rfl,lS.refl _ _,rfl⟩,?_⟩
  rintro m σ H2 ⟨A2,mo,AS,B0,lo2,i2,j2,p2,q2,s,kv,rfl,c2,hi2,Wo,hs,hsc,hm,Jr,el2⟩;have SE:=c2.rw p2 (dm hi2);have SG:=c2.rw q2 (dm Wo);have aqG:=yY hn SE;refine⟨_,rfl,_,_,rfl,rfl,_,rfl,?_⟩;dsimp only;rw[QJ (l7 SE).1 (l7 SG).2];cases hl:(pJ p2 q2).getLast? with
  |none=>
   refine yM ?_;rw[q9 _ hl]at hs;refine⟨_,rfl,_,rfl,(by show 2<=aH;decide),λt ht=>?_⟩;have st:=bF ht (.tup [V.int i2,V.int j2]);refine k t i2 j2 _ A2 mo AS B0 lo2 ((c2.same st).more (by lia)) (by rw[<-hs];exact hi2) (by rw[<-hs];exact Wo) (Jr.gr t ht) aP (Jr.trans (lS.same st _)) el2
  |some kk'=>
   refine zO ?_;obtain⟨j',rfl,Je,hlt,_⟩:=r9 SE SG (x6 hl);have hup:=QL SE Je hlt;have ivu:=iJ SE Je;have aqH:=yY hn ivu;have hsl:fU (50-(s+1)) (tZ p2 j') (wJ q2 j')=fU 50 p q:=by rw[<-hs,show 50-s=(50-(s+1))+1 by lia,q8 _ hl,show((j':Int)+1-1).toNat=j' by lia]
   refine⟨λσ' H'=>∃m'<m,∃(A2:Ad)(mo:List RP)(AS B0 lo2:List (List Key×V))(i2 j2:Nat)(p2 q2:RP)(s:Nat)(kv:Option V),σ'=[aa (.ref a),aa (.int i2),aa (.int j2),aa (.int (Jh (pJ p2 q2))),kv]/\lR C H' a A2 (zH z w) n (kn++mo) ln (B+4*s) AS B0 lo2 ke/\
    (kn++mo)[i2]?=aa p2/\(kn++mo)[j2]?=aa q2/\fU (50-s) p2 q2=fU 50 p q/\s<=jX p2.1/\m'=50-s/\lS H H' (a::A.all) (a::A2.all)/\A2.li=A.li,λσ' H' h=>h,?_⟩
   refine⟨_,rfl,(by first|exact rfl|exact trivial),_,rfl,rfl,?_⟩;dsimp only;rw[QK (l7 SE).1 (l7 SG).2 hl];refine⟨_,rfl,a,A2.dx,_,rfl,c2.ob,rfl,_,rfl,_,rfl,a,A2,z,w,n,kn++mo,ln,B+4*s,AS,B0,lo2,ke,p2,i2,j',rfl,c2,hn,by lia,hi2,Je,λi3 H3 A3 mo3 nu3 lo3 c3 VJ vQ el3=>?_⟩;have hj3:(kn++mo++mo3)[j2]?=aa q2:=eg Wo;refine⟨_,rfl,a,A3.dx,_,rfl,c3.ob,rfl,_,rfl,_,rfl,a,A3,z,w,n,kn++mo++mo3,ln,B+4*s+2,nu3,B0,lo3,ke,q2,j2,j',rfl,c3,hn,by lia,hj3,Je,λj4 H4 A4 Mq nu4 sh4 c4 hj4 Ql el4=>?_⟩;have hi4:(kn++mo++mo3++Mq)[i3]?=aa (tZ p2 j'):=eg VJ;refine⟨_,rfl,a,C,A4.dx,_,_,rfl,c4.ob,T.cl,T.fi,QF,_,rfl,A4.fi,_,j4,_,rfl,rfl,fG.of c4.Cg,(rdB c4 hj4).1,_,rfl,a,C,A4.dx,_,_,rfl,c4.ob,T.cl,T.la,QG,_,rfl,A4.la,_,i3,_,rfl,rfl,fG.of c4.hla,(rdB c4 hi4).2,_,rfl,_,_,rfl,rfl,?_⟩;have iva:=iK SG Je;dsimp only;rw[LY (l7 ivu).1 (l7 iva).2];rw[bC,bC]at c4 hi4 hj4;refine⟨50-(s+1),by lia,A4,mo++(mo3++Mq),nu4,sh4,lo3,i3,j4,tZ p2 j',wJ q2 j',s+1,_,rfl,?_,hi4,hj4,hsl,by lia,rfl,(Jr.trans vQ).trans Ql,el4.trans (el3.trans el2)⟩;rw[show B+4*(s+1)=B+4*s+2+2 by lia];exact c4
end
end DL.uD
namespace DL.uD
open PySem PySem.Spec PyProof.Rows L2 DL
abbrev Rh:aD:=inClass (top 20) 5
inductive Ri (C:ae) (vs:List V) (H:Hp) (Q:VK):Prop
 |mk (a:ae) (A:Ad) (z w:Int) (n:Nat) (kn:List RP) (ln:List Int) (B:Nat) (nu sh lo ke:List (List Key×V)) (p q:RP) (i j:Nat):(vs=[.ref a,.int i,.int j])->(lR C H a A (zH z w) n kn ln B nu sh lo ke)->(n<=7)->(B+400<1000000)->(kn[i]?=aa p)->(kn[j]?=aa q)->(∀(t:ae)(i' j':Nat)(H':Hp)(A':Ad)(mo:List RP)(Jq sh' lo' ke':List (List Key×V)),lR C H' a A' (zH z w) n (kn++mo) ln (B+201) Jq sh' lo' ke'->(kn++mo)[i']?=aa (fU 50 p q).1->(kn++mo)[j']?=aa (fU 50 p q).2->H' t=aa (.tup [.int i',.int j'])->lS H H' (a::A.all) (a::A'.all)->A'.li=A.li->Q (.ref t) H')->Ri C vs H Q
def YV(C:ae):Sp:=λvs H Q _=>Ri C vs H Q
section
variable{P:aR}{w:aE}{K:ak}{mg:Str->Option ah}{base:aC}
def sc5:bc ["self","one","other","pair","found"] ["self","one","other"] (au Rh):=⟨rfl,rfl,rfl,by decide +kernel,rfl,by decide +kernel,by decide +kernel⟩
def aeY{f C fS:ae}{fd YU:aL}(F:Gd K "slide_kept" "Comb.slide_kept" Rh f fd)(T:SN K mg C)(t:Tb K mg)
  (mS:Meth K C "slide" fS)(bS:Binds K YU ["self","one","other"] [])(GS:fA P w K mg base oN 5 fS YU ["self","one","other"] (YT C)):fA P w K mg base oN 6 f fd ["self","one","other"] (YV C):=by
 refine F.ok sc5 (λvs H Q E h=>?_) (λcdv A outer s H vs Q E hr h=>?_)
 ·obtain⟨a,A,z,w,n,kn,ln,B,nu,sh,lo,ke,p,q,i,j,rfl,_⟩:=h
  rfl
 ·obtain⟨a,A,z,w,n,kn,ln,B,nu,sh,lo,ke,p,q,i,j,rfl,c,hn,hB,hi,hj,k⟩:=h
  have hu:=xj hr;refine⟨_,bj (gy (i:=3) sc5.nd rfl (eB rfl) (wx (aS (pv 1) (aS (pv 2) bA))))
   (bj (gy (i:=4) sc5.nd rfl (eB rfl) (Pf hu (dw (pv 0) rfl) (pv 3) ⟨rfl,rfl,rfl,rfl⟩))
   (bj (zx (nV ZK (pv 4) OH (bH _))
    (bj (gy (i:=4) sc5.nd rfl (eB rfl) (mK (pv 0) T.cl mS GS hr.mono bS .nil sY (aS (pv 1) (aS (pv 2) bA))))
    (dJ (zx (nV zy (nj NR (by rfl) T.mle ki (aS (dw (pv 0) rfl) bA)) (Td (by rfl) t.yo (v:=.int 200000) ⟨_,rfl⟩) (bH _))
     (dJ (Am hu (dw (pv 0) rfl) (pv 3) (pv 4) rfl)) pR))) pR)
   (dJ (nE (pv 4))))),?_⟩
  refine⟨_,rfl,_,rfl,(by show 2<=aH;decide),λl hl=>?_⟩;have s1:bD H (upd H l (.tup [.int i,.int j])):=bF hl _;have c1:=c.same s1;have hkey:(upd H l (.tup [.int i,.int j])) l=aa (.tup (([.inl (i:Int),.inl (j:Int)]:List Key).map kV)):=aP;have Fo:=lS.same s1 (a::A.all);have hlF:l∉a::A.all:=λhx=>by obtain⟨o,ho⟩:=c.there hx;rw[hl]at ho;cases ho
  generalize hH1:upd H l (.tup [.int i,.int j])=H1 at s1 c1 hkey Fo;refine⟨_,rfl,a,C,A.dx,_,_,rfl,c1.ob,T.cl,T.ke,QH,A.ke,rfl,.inr ⟨_,.inl c1.hke⟩,_,rfl,_,rQ.t c1.hke hkey,?_⟩;cases hv:gP ke ([.inl (i:Int),.inl (j:Int)]:List Key)with
  |some v=>
   obtain⟨t',i',j',p',q',h1,h2,rfl,h4,h5,h6⟩:=c1.k1 i j v hv;rw[hi]at h1;rw[hj]at h2;cases h1;cases h2;refine⟨_,rfl,rfl,_,rfl,?_⟩;rw[decide_eq_false (show¬((aa (V.ref t')).getD .non=.non)from λzz=>nomatch zz)];refine yM ?_;exact⟨_,rfl,k t' i' j' H1 A [] nu sh lo ke (by rw[bq];exact c1.more (by lia)) (by rw[bq];exact h5) (by rw[bq];exact h6) h4 Fo rfl⟩
  |none=>
   refine⟨_,rfl,rfl,_,rfl,?_⟩;rw[decide_eq_true (show((none:Option V).getD .non=.non)from rfl)];refine zO ?_;refine⟨_,rfl,a,A.dx,_,rfl,c1.ob,rfl,_,rfl,_,rfl,a,A,z,w,n,kn,ln,B,nu,sh,lo,ke,p,q,i,j,rfl,c1,hn,by lia,hi,hj,λt' i' j' H2 A2 mo AS B0 lo2 c2 hi2 Wo htn ht2 Jr el2=>?_⟩;have hz:=c2.z;have aeZ:=Fo.trans Jr;refine⟨_,rfl,a,C,A2.dx,_,_,rfl,c2.ob,T.cl,T.ke,QH,A2.ke,_,rfl,c2.hke,_,_,rfl,rfl,_,rfl,?_⟩;generalize decide ((ke.length:Int)<200000)=bb;cases bb with
   |true=>
    refine zO ?_;have ae0:H2 l=aa (.tup (([.inl (i:Int),.inl (j:Int)]:List Key).map kV)):=Jr.kp l _ hlF hkey;refine⟨_,rfl,_,rfl,a,C,A2.dx,_,_,rfl,c2.ob,T.cl,T.ke,QH,_,rfl,A2.ke,_,rfl,Gg.t c2.hke ae0 (xm (show ke.length<=1000001 by lia) (by decide)),?_⟩;have c3:=c2.abx (eg hi) (eg hj) ht2 hi2 Wo;refine⟨_,rfl,k t' i' j' _ A2 mo AS B0 lo2 _ c3 hi2 Wo ?_ (aeZ.trans (lS.upd (bg _ (gb _ (by simp[Ad.hd]))) _)) el2⟩;rw[aB (dE ht2 c2.hke (by intro zz;cases zz))];exact ht2
   |false=>
    refine yM ?_;exact⟨_,rfl,k t' i' j' H2 A2 mo AS B0 lo2 ke (c2.more (by lia)) hi2 Wo ht2 aeZ el2⟩
end
end DL.uD
namespace DL.uD
open PySem PySem.Spec PyProof.Rows L2 DL
abbrev Rj:aD:=inClass (top 20) 6
inductive Rk (K:ak) (C:ae) (vs:List V) (H:Hp) (Q:VK):Prop
 |mk (a:ae) (A:Ad) (zn:Nat) (w:Int) (n:Nat) (kn:List RP) (ls:List Nat) (R:List RP) (B:Nat) (nu sh lo ke:List (List Key×V)) (p:RP) (v:V):(vs=[.ref a,v])->(lR C H a A (zH zn w) n kn (nI ls) B nu sh lo ke)->(gk kn ls R)->(kn[zn]?=aa (upTo n,upTo n))->(n<=7)->(B+402*(R.length+1)<900000)->(R.length<=1000)->(Iv n p.1 p.2)->(Is K (λx=>x∉a::A.all) H (.lst (bK p.1)) v)->(∀(H':Hp)(A':Ad)(mo:List RP)(ls':List Nat)(Jq sh' lo' ke':List (List Key×V)),lR C H' a A' (zH zn w) n (kn++mo) (nI ls') (B+402*(R.length+1)) Jq sh' lo' ke'->gk (kn++mo) ls' (i6 n R p)->lS H H' (a::A.all) (a::A'.all)->Q .non H')->Rk K C vs H Q
def YW(K:ak)(C:ae):Sp:=λvs H Q _=>Rk K C vs H Q
section
variable{P:aR}{w:aE}{K:ak}{mg:Str->Option ah}{base:aC}
def sc6:bc ["self","row","line","place","pair"] ["self","row"] (au Rj):=⟨rfl,rfl,rfl,by decide +kernel,rfl,by decide +kernel,by decide +kernel⟩
def ae2{f C fN fS:ae}{fd Q9 YU:aL}(F:Gd K "put" "Comb.put" Rj f fd)(T:SN K mg C)
  (mN:Meth K C "number_of" fN)(bN:Binds K Q9 ["self","row"] [])(GN:fA P w K mg base oN 3 fN Q9 ["self","row"] (Hs K C))
  (mS:Meth K C "slide_kept" fS)(bS:Binds K YU ["self","one","other"] [])(GS:fA P w K mg base oN 6 fS YU ["self","one","other"] (YV C)):fA P w K mg base oN 7 f fd ["self","row"] (YW K C):=by
 refine F.ok sc6 (λvs H Q E h=>?_) (λcdv A outer s H vs Q E hr h=>?_)
 ·obtain⟨a,A,zn,w,n,kn,ls,R,B,nu,sh,lo,ke,p,v,rfl,_⟩:=h
  rfl
 ·obtain⟨a,A,zn,w,n,kn,ls,R,B,nu,sh,lo,ke,p,v,rfl,c,hR,hzn,hn,hB,hRl,ivp,isr,k⟩:=h
  have hu:=xj hr;refine⟨_,bj (gy (i:=2) sc6.nd rfl (eB rfl) (dw (pv 0) rfl))
   (bj (iO (ug jt n9 og fX (pv 2) (aS (mK (pv 0) T.cl mN GN hr.mono bN .nil sY (aS (pv 1) bA)) bA)) rfl)
   (bj (gy (i:=3) sc6.nd rfl (eB rfl) (wW eQ (nj rO (by rfl) T.mle ki (aS (pv 2) bA)) jD))
   (bj (A5 jA (nV qP (pv 3) jD (bH _))
    (bj (gy (i:=4) sc6.nd rfl (eB rfl) (mK (pv 0) T.cl mS GS hr.mono bS .nil sY (aS (ja ig (pv 2) (wW eQ (pv 3) jD) (λ_ _=>rfl)) (aS (ja ig (pv 2) (pv 3) (λ_ _=>rfl)) bA))))
    (bj (zx (nV OZ (ja uf (pv 4) jD (λ_ _=>rfl)) (ja ig (pv 2) (wW eQ (pv 3) jD) (λ_ _=>rfl)) (bH _)) (dJ OO) pR)
    (bj (Ir (ja uf (pv 4) jD (λ_ _=>rfl)) (Ip (pv 2) (wW eQ (pv 3) jD) set_list (by intro _;rfl)) rfl rfl rfl)
    (bj (Ir (ja uf (pv 4) jD (λ_ _=>rfl)) (Ip (pv 2) (pv 3) set_list (by intro _;rfl)) rfl rfl rfl)
    (dJ (Iu (i:=3) sc6.nd rfl (eB rfl) jD Zy)))))))
   (dJ (zx (nV OZ (ja ig (pv 2) (J3 nG jD) (λ_ _=>rfl)) (dw (pv 0) rfl) (bH _))
    (dJ (iO (Ef jt UK UL O9 (pv 2)) rfl)) pR))))),?_⟩
  refine⟨_,rfl,a,C,A.dx,_,_,rfl,c.ob,T.cl,T.li,He,?_⟩;refine⟨_,rfl,.inl ⟨rfl,_,fG.of c.hli⟩,_,rfl,a,A.dx,_,rfl,c.ob,rfl,_,rfl,a,A,zH zn w,n,kn,nI ls,B,nu,sh,lo,ke,p,v,rfl,c,hn,by lia,ivp,isr,λi1 H1 A1 mo1 nu1 c1 hi1 Fo el1=>?_⟩;have hz:=c1.z;have hll:=hR.len;have big:∀{x:Nat},x<=1000001->x<aH:=λh=>xm h (by decide);refine⟨A.li,(nI ls).map V.int,.int i1,rfl,rfl,by rw[<-el1];exact c1.hli,by rw[aG,qG];exact big (by lia),?_⟩;have hR1:gk (kn++mo1) (ls++[i1]) (R++[p]):=hR.pre.app hi1;have c2:=c1.Hg hR1.li;rw[abz,el1]at c2;have Jr:lS H (upd H1 A.li (.lst ((nI ls).map V.int++[.int i1]))) (a::A.all) (a::A1.all):=Fo.trans (lS.upd (by rw[<-el1];exact bg _ (gb _ (by simp[Ad.hd]))) _);generalize upd H1 A.li (.lst ((nI ls).map V.int++[.int i1]))=H2 at c2 Jr;have alQ:H2 A.li=aa (.lst ((nI (ls++[i1])).map V.int)):=by rw[<-el1];exact c2.hli
  refine⟨_,rfl,A.li,_,rfl,.inl (fG.of alQ),_,_,rfl,rfl,?_⟩;have epl:((((nI (ls++[i1])).map V.int).length:Nat):Int)-1=(R.length:Nat):=by rw[aG,qG,b9,pV];lia
  dsimp only;rw[epl];refine⟨λm σ H2=>∃(A2:Ad)(mo:List RP)(AS B0 lo2 SS:List (List Key×V))(ls2:List Nat)(t:Nat)(cr:RP)(dn:List RP)(pr:Option V),σ=[aa (.ref a),aa v,aa (.ref A.li),aa (.int t),pr]/\lR C H2 a A2 (zH zn w) n (kn++mo) (nI ls2) (B+1+201*(R.length-t)) AS B0 lo2 SS/\
    gk (kn++mo) ls2 (R.take t++cr::dn)/\t<=R.length/\(zX (R.take t).reverse cr).reverse++dn=x5 R p/\m=t/\lS H H2 (a::A.all) (a::A2.all)/\A2.li=A.li,
   ⟨R.length,A1,mo1,nu1,sh,lo,ke,ls++[i1],R.length,p,[],none,rfl,by rw[Ay];exact c2,by rw[xD];exact hR1,aY _,by rw[xD,bq];rfl,rfl,Jr,el1⟩,?_⟩
  rintro m σ H3 ⟨A3,mo,nu3,sh3,lo3,ke3,Ci,t,cr,dn,pr,rfl,c3,hL,htR,hT,rfl,vQ,el3⟩;have hli:H3 A.li=aa (.lst ((nI Ci).map V.int)):=by rw[<-el3];exact c3.hli
  refine⟨_,rfl,_,_,rfl,rfl,_,rfl,?_⟩;cases m with
  |zero=>
   rw[decide_eq_false (by lia)];refine yM ?_;have YX:gk (kn++mo) Ci (x5 R p):=by rw[<-hT];exact hL
   obtain⟨m1,r1,hm1,hm2,hm3⟩:=YX.last (by rw[AJ];lia);refine⟨_,rfl,_,rfl,A.li,_,-1,_,rfl,rfl,fG.of hli,A9 (AK hm1),_,rfl,a,C,A3.dx,_,_,rfl,c3.ob,T.cl,T.no,YB,rfl,_,rfl,?_⟩;have hz2:(kn++mo)[zn]?=aa (upTo n,upTo n):=eg hzn
   by_cases hq:r1=(upTo n,upTo n)
   ·rw[decide_eq_true (show V.int (m1:Int)=V.int (zn:Int)from congrArg V.int ((c3.inj hm3 hz2).mpr hq))]
    refine zO ?_;refine⟨_,rfl,.inl ⟨rfl,_,fG.of hli⟩,A.li,_,_,rfl,rfl,hli,L5 (AK hm1),?_⟩;rw[L7,<-el3];have hdr:gk (kn++mo) Ci.dropLast (i6 n R p):=by unfold i6;rw[if_pos (by rw[hm2,hq])];exact YX.drop
    exact k _ A3 mo Ci.dropLast _ _ _ _ ((c3.Hg hdr.li).more (by lia)) hdr (vQ.trans (lS.upd (bg _ (gb _ (by simp[Ad.hd]))) _))
   ·rw[decide_eq_false (show¬V.int (m1:Int)=V.int (zn:Int)from λe=>hq ((c3.inj hm3 hz2).mp (by injection e)))]
    refine yM ?_;have hdr:gk (kn++mo) Ci (i6 n R p):=by unfold i6;rw[if_neg (by rw[hm2];exact λe=>hq (cj.inj e))];exact YX
    exact k _ A3 mo Ci _ _ _ _ (c3.more (by lia)) hdr vQ
  |succ t=>
   rw[decide_eq_true (by lia)];refine zO ?_;have hrt:R[t]?=aa (R[t]'(by lia)):=aQ (by lia);generalize R[t]'(by lia)=r at hrt;have etk:R.take (t+1)=R.take t++[r]:=by rw[AE,hrt];rfl
   have ltk:(R.take t).length=t:=by rw[jR];lia
   have g1:(R.take (t+1)++cr::dn)[t]?=aa r:=by rw[etk,bC,iS (by lia),ltk,Ay];rfl
   have g2:(R.take (t+1)++cr::dn)[t+1]?=aa cr:=by rw[iS (by rw[jR];lia),show t+1-(R.take (t+1)).length=0 by rw[jR];lia];rfl
   obtain⟨ma,la,ka⟩:=hL.at g1;obtain⟨mb,lb,kb⟩:=hL.at g2;refine⟨λσ' H'=>∃m'<t+1,∃(A2:Ad)(mo:List RP)(AS B0 lo2 SS:List (List Key×V))(ls2:List Nat)(t:Nat)(cr:RP)(dn:List RP)(pr:Option V),σ'=[aa (.ref a),aa v,aa (.ref A.li),aa (.int t),pr]/\lR C H' a A2 (zH zn w) n (kn++mo) (nI ls2) (B+1+201*(R.length-t)) AS B0 lo2 SS/\
    gk (kn++mo) ls2 (R.take t++cr::dn)/\t<=R.length/\(zX (R.take t).reverse cr).reverse++dn=x5 R p/\m'=t/\lS H H' (a::A.all) (a::A2.all)/\A2.li=A.li,λσ' H' h=>h,?_⟩
   have ix1:((t+1:Nat):Int)-1=(t:Nat):=by lia
   refine⟨_,rfl,a,A3.dx,_,rfl,c3.ob,rfl,_,rfl,_,rfl,_,_,rfl,rfl,A.li,_,((t+1:Nat):Int)-1,.int ma,rfl,rfl,fG.of hli,by rw[ix1];exact mR (yZ la),_,rfl,_,rfl,A.li,_,((t+1:Nat):Int),.int mb,rfl,rfl,fG.of hli,mR (yZ lb),
    a,A3,zn,w,n,kn++mo,nI Ci,_,nu3,sh3,lo3,ke3,r,cr,ma,mb,rfl,c3,hn,by lia,ka,kb,λtt i4 j4 H4 A4 Mq nu4 sh4 lo4 ke4 c4 hi4 hj4 ht4 Ql el4=>?_⟩
   have Ht:=el4.trans el3;have Wq:H4 A.li=aa (.lst ((nI Ci).map V.int)):=by rw[<-Ht];exact c4.hli
   refine⟨_,rfl,tt,_,0,_,rfl,rfl,Ck.of ht4,rfl,_,rfl,_,rfl,_,_,rfl,rfl,A.li,_,((t+1:Nat):Int)-1,.int ma,rfl,rfl,fG.of Wq,by rw[ix1];exact mR (yZ la),rfl,_,rfl,?_⟩;have kaX:(kn++mo++Mq)[ma]?=aa r:=eg ka;have hsl:=QN (c:=cr) hrt
   by_cases hq0:(fU 50 r cr).1=r
   ·rw[decide_eq_true (show V.int (i4:Int)=V.int (ma:Int)from congrArg V.int ((c4.inj hi4 kaX).mpr hq0))]
    refine zO ?_;have YX:gk (kn++mo++Mq) Ci (x5 R p):=by rw[<-hT,hsl,if_pos hq0,kX,lE,show R.take (t+1)++[cr]++dn=R.take (t+1)++cr::dn by rw[bC];rfl];exact hL.pre
    have hli:=Wq;obtain⟨m1,r1,hm1,hm2,hm3⟩:=YX.last (by rw[AJ];lia);rw[bC]at c4 hm3 YX;refine⟨_,rfl,_,rfl,A.li,_,-1,_,rfl,rfl,fG.of hli,A9 (AK hm1),_,rfl,a,C,A4.dx,_,_,rfl,c4.ob,T.cl,T.no,YB,rfl,_,rfl,?_⟩;have hz2:(kn++(mo++Mq))[zn]?=aa (upTo n,upTo n):=eg hzn
    by_cases hq:r1=(upTo n,upTo n)
    ·rw[decide_eq_true (show V.int (m1:Int)=V.int (zn:Int)from congrArg V.int ((c4.inj hm3 hz2).mpr hq))]
     refine zO ?_;refine⟨_,rfl,.inl ⟨rfl,_,fG.of hli⟩,A.li,_,_,rfl,rfl,hli,L5 (AK hm1),?_⟩;rw[L7,<-Ht];have hdr:gk (kn++(mo++Mq)) Ci.dropLast (i6 n R p):=by unfold i6;rw[if_pos (by rw[hm2,hq])];exact YX.drop
     exact k _ A4 (mo++Mq) Ci.dropLast _ _ _ _ ((c4.Hg hdr.li).more (by lia)) hdr ((vQ.trans Ql).trans (lS.upd (bg _ (gb _ (by simp[Ad.hd]))) _))
    ·rw[decide_eq_false (show¬V.int (m1:Int)=V.int (zn:Int)from λe=>hq ((c4.inj hm3 hz2).mp (by injection e)))]
     refine yM ?_;have hdr:gk (kn++(mo++Mq)) Ci (i6 n R p):=by unfold i6;rw[if_neg (by rw[hm2];exact λe=>hq (cj.inj e))];exact YX
     exact k _ A4 (mo++Mq) Ci _ _ _ _ (c4.more (by lia)) hdr (vQ.trans Ql)
   ·rw[decide_eq_false (show¬V.int (i4:Int)=V.int (ma:Int)from λe=>hq0 ((c4.inj hi4 kaX).mp (by injection e)))]
    refine yM ?_;have lt1:t+1<Ci.length:=(bz.mp lb).1;have ixa:wN ((nI Ci).map V.int).length (((t+1:Nat):Int)-1)=aa t:=by unfold L2.wN;rw[ix1,if_pos (by lia),if_pos (by rw[aG,qG];lia),bw]
    refine⟨_,rfl,tt,_,0,_,rfl,rfl,Ck.of ht4,rfl,_,rfl,_,rfl,_,_,rfl,rfl,A.li,_,_,t,rfl,rfl,Wq,ixa,?_⟩;have hLa:gk (kn++mo++Mq) (Ci.set t i4) ((R.take (t+1)++cr::dn).set t (fU 50 r cr).1):=hL.pre.set t hi4;have c5:=c4.Hg hLa.li;rw[Ht,<-QM]at c5;have Iz:lS H (upd H4 A.li (.lst (((nI Ci).map V.int).set t (.int i4)))) (a::A.all) (a::A4.all):=(vQ.trans Ql).trans (lS.upd (by rw[<-Ht];exact bg _ (gb _ (by simp[Ad.hd]))) _);have ht5:(upd H4 A.li (.lst (((nI Ci).map V.int).set t (.int i4)))) tt=aa (.tup [.int i4,.int j4]):=by rw[aB (dE ht4 Wq (by intro zz;cases zz))];exact ht4
    generalize upd H4 A.li (.lst (((nI Ci).map V.int).set t (.int i4)))=H5 at c5 Iz ht5;have alU:H5 A.li=aa (.lst ((nI (Ci.set t i4)).map V.int)):=by rw[<-Ht];exact c5.hli
    have ixb:wN ((nI (Ci.set t i4)).map V.int).length ((t+1:Nat):Int)=aa (t+1):=by unfold L2.wN;rw[if_pos (by lia),if_pos (by rw[aG,qG,kW];lia),bw]
    refine⟨_,rfl,tt,_,1,_,rfl,rfl,Ck.of ht5,rfl,_,rfl,_,rfl,A.li,_,_,t+1,rfl,rfl,alU,ixb,?_⟩;have hLb:=hLa.set (t+1) hj4;have c6:=c5.Hg hLb.li;rw[Ht,<-QM]at c6;have fr6:lS H (upd H5 A.li (.lst (((nI (Ci.set t i4)).map V.int).set (t+1) (.int j4)))) (a::A.all) (a::A4.all):=Iz.trans (lS.upd (by rw[<-Ht];exact bg _ (gb _ (by simp[Ad.hd]))) _);refine⟨_,rfl,_,_,rfl,rfl,?_⟩;have alV:((R.take (t+1)++cr::dn).set t (fU 50 r cr).1).set (t+1) (fU 50 r cr).2=R.take t++(fU 50 r cr).1::(fU 50 r cr).2::dn:=by rw[etk,bC,Wr _ _ (by lia),Wr _ _ (by lia),ltk,Ay,show t+1-t=1 by lia];rfl
    rw[alV]at hLb;rw[bC]at c6 hLb;dsimp only;rw[ix1];refine⟨t,by lia,A4,mo++Mq,nu4,sh4,lo4,ke4,_,t,(fU 50 r cr).1,(fU 50 r cr).2::dn,_,rfl,c6.more (by lia),hLb,by lia,?_,rfl,fr6,Ht⟩;rw[<-hT,hsl,if_neg hq0,kX,bC];rfl
end
end DL.uD
namespace DL.uD
open PySem PySem.Spec PyProof.Rows L2 DL
abbrev Mr:aD:=inClass (top 20) 7
def B1{as:List ae}{x:ae}(h:as.Nodup)(hx:x∉as):(as++[x]).Nodup:=LA.mpr ⟨h,by simp,λa ha b hb z=>hx (by rw[cL.mp hb]at z;rw[<-z];exact ha)⟩
def Ms{Hx:Hp}{as:List ae}{R:List RP}{l:ae}(hat:∀(k:Nat)(b:ae)(r:RP),as[k]?=aa b->R[k]?=aa r->Hx b=aa (.lst (r.1.map V.int)))(hl:Hx l=none)(hlen:as.length<=R.length)(hm:l∈as):False:=by obtain⟨k,hk,e⟩:=pZ hm;have:=hat k l _ (by rw[aQ hk,e]) (aQ (cY hk hlen));rw[hl]at this;cases this
def alW(K:ak):TE:=tCB (λxs H Q=>∃p ys,xs=[V.ref p]/\(fG K H p ys\/Ck K H p ys)/\∀l,H l=none->Q (.ref l) (upd H l (.lst ys))) (Ko (ZC (ZM K) (ac9 K (DJ 1) "known") (DJ 0)) O3)
inductive Rl (K:ak) (C:ae) (vs:List V) (H:Hp) (Q:VK):Prop
 |mk (a:ae) (A:Ad) (z:Int) (wn n:Nat) (kn:List RP) (ls:List Nat) (R:List RP) (B:Nat) (nu sh lo ke:List (List Key×V)):(vs=[.ref a])->(lR C H a A (zH z wn) n kn (nI ls) B nu sh lo ke)->(gk kn ls R)->(kn[wn]?=aa (gY n))->(R.length<=1000)->(∀(p:ae)(H':Hp),bD H H'->Cw K H H' p (.tf (o5 n R).1 (o5 n R).2)->Q (.ref p) H')->Rl K C vs H Q
def YY(K:ak)(C:ae):Sp:=λvs H Q _=>Rl K C vs H Q
section
variable{P:aR}{w:aE}{K:ak}{mg:Str->Option ah}{base:aC}
def sc7:bc ["self","many"] ["self"] (au Mr):=⟨rfl,rfl,rfl,by decide +kernel,rfl,by decide +kernel,by decide +kernel⟩
def ae6{f C:ae}{fd:aL}(F:Gd K "form_told" "Comb.form_told" Mr f fd)(T:SN K mg C):fA P w K mg base oN 1 f fd ["self"] (YY K C):=by
 refine F.ok sc7 (λvs H Q E h=>?_) (λcdv A outer s H vs Q E hr h=>?_)
 ·obtain⟨a,A,z,wn,n,kn,ls,R,B,nu,sh,lo,ke,rfl,_⟩:=h
  rfl
 ·obtain⟨a,A,z,wn,n,kn,ls,R,B,nu,sh,lo,ke,rfl,c,hR,hwn,hRl,k⟩:=h
  have hu:=xj hr;refine⟨_,bj (gy (i:=1) sc7.nd rfl (eB rfl) jD)
   (bj (A5 jA (pw_and (nV zy (pv 1) (nj rO (by rfl) T.mle ki (aS (dw (pv 0) rfl) bA)) (bH _)) (pw_and1 (nV OZ (ja ig (dw (pv 0) rfl) (pv 1) (λ_ _=>rfl)) (dw (pv 0) rfl) (bH _)))).pt
    (dJ (Iu (i:=1) sc7.nd rfl (eB rfl) jD OS)))
   (dJ (nE (wx (aS (pv 1) (aS (QV (te:=alW K) (Ll (N:=["number","self"]) (nt:=1) (caps:=[0]) (au Mr) ["self","many"] (by decide +kernel)) rfl (uV (F9 KG (dw (pv 0) rfl) (Kv (pv 1)) Ku)) (λ_ _ _ _ _=>uT (i:=0) (by show gh (["number","self"]:List Str);decide +kernel) rfl (eB rfl)) (λ_ _ _ _ _=>by exact vc rP (by rfl) T.mli rV (aS (ja ig (dw (pv 1) rfl) (pv 0) (λ_ _=>rfl)) bA))) bA)))))),?_⟩
  refine⟨λm σ H2=>∃i:Nat,σ=[aa (.ref a),aa (.int i)]/\H2=H/\i<=R.length/\(∀j<i,R[j]?=aa (gY n))/\m=R.length-i,⟨R.length,0,rfl,rfl,iR _,λj hj=>absurd hj (Nat.not_lt_zero _),rfl⟩,?_⟩;rintro m σ H2 ⟨i,rfl,rfl,hiR,hal,hm⟩;refine⟨_,rfl,_,rfl,a,C,A.dx,_,_,rfl,c.ob,T.cl,T.li,He,A.li,_,rfl,.inl (fG.of c.hli),_,_,rfl,rfl,_,rfl,?_⟩
  by_cases hlt:i<R.length
  ·rw[decide_eq_true (show(i:Int)<(((nI ls).map V.int).length:Nat)by rw[aG,qG,hR.len];lia)]
   refine zO ?_;obtain⟨mi,hm1,hm2⟩:=hR.at (aQ hlt);refine⟨_,rfl,a,C,A.dx,_,_,rfl,c.ob,T.cl,T.li,He,_,rfl,A.li,_,i,.int mi,rfl,rfl,fG.of c.hli,mR (yZ hm1),_,rfl,a,C,A.dx,_,_,rfl,c.ob,T.cl,T.wh,aeD,rfl,_,rfl,?_⟩
   by_cases he:R[i]=gY n
   ·rw[decide_eq_true (show V.int (mi:Int)=V.int (wn:Int)from congrArg V.int ((c.inj hm2 hwn).mpr he))]
    refine zO ?_;refine⟨λσ' H'=>∃m'<m,∃i:Nat,σ'=[aa (.ref a),aa (.int i)]/\H'=H2/\i<=R.length/\(∀j<i,R[j]?=aa (gY n))/\m'=R.length-i,λ_ _ h=>h,_,rfl,_,_,rfl,rfl,R.length-(i+1),by lia,i+1,rfl,rfl,hlt,λj hj=>?_,rfl⟩
    by_cases hji:j<i
    ·exact hal j hji
    ·have:j=i:=by lia
     subst this;rw[aQ hlt,he]
   ·rw[decide_eq_false (show¬V.int (mi:Int)=V.int (wn:Int)from λe=>he ((c.inj hm2 hwn).mp (by injection e)))]
    refine yM ?_;have hcn:fW n R=i:=Hi hal (by rw[aQ hlt];exact λe=>he (cj.inj e));have abN:Cq ((nI ls).map V.int) (aa (i:Int)) none=(nI (ls.drop i)).map V.int:=by unfold Cq nI;rw[nX _ _ _ (by lia),ue,bw,aG,aG,hR.len,EE hiR,qe,qe];refine Aw ?_;rw[nY,aG,aG,hR.len];exact aY _
    refine⟨_,rfl,_,rfl,a,C,A.dx,_,_,rfl,c.ob,T.cl,T.li,He,_,rfl,_,rfl,A.li,_,rfl,fG.of c.hli,λq hq=>?_⟩;rw[abN];have s1:=bF hq (.lst ((nI (ls.drop i)).map V.int));have hq1:(upd H2 q (.lst ((nI (ls.drop i)).map V.int))) q=aa (.lst ((nI (ls.drop i)).map V.int)):=aP;generalize upd H2 q (.lst ((nI (ls.drop i)).map V.int))=H1 at s1 hq1;have hLd:gk kn (ls.drop i) (R.drop i):=by unfold gk;rw[qe,qe,show ls.map (λm=>kn[m]?)=R.map aa from hR]
    refine⟨q,rfl,⟨_,fG.of hq1⟩,q,_,[.ref a],rfl,fG.of hq1,rfl,λj i' v e1 e2=>?_,λDd hD=>?_⟩
    ·match j with
     |0=>
      have z1:0=i':=by simpa using e1
      have z2:V.ref a=v:=by simpa using e2
      subst z1 z2;rfl
     |j+1=>simp at e1
    ·refine⟨λj acc Hx=>∃as:List ae,acc=as.map V.ref/\as.length=j/\j<=(R.drop i).length/\bD H1 Hx/\Hx Dd=aa (.lst acc)/\(as.Nodup/\∀b∈as,H1 b=none/\b≠Dd)/\∀(k:Nat)(b:ae)(r:RP),as[k]?=aa b->(R.drop i)[k]?=aa r->Hx b=aa (.lst (r.1.map V.int)),⟨[],rfl,rfl,iR _,bF hD _,aP,⟨.nil,λb hb=>nomatch hb⟩,λk b r e=>by simp at e⟩,?_,?_,?_⟩
     ·rintro j acc Hx ⟨as,rfl,_,_,sx,NY,_⟩
      exact⟨fG.of (sx _ _ hq1),NY⟩
     ·rintro j acc Hx x ⟨as,rfl,hj,Ws,sx,NY,hnew,hat⟩ hx
      have hjr:j<(ls.drop i).length:=by
       have:=(bz.mp hx).1
       rwa [aG,qG]at this
      have Wt:j<(R.drop i).length:=by rw[<-hLd.len];exact hjr
      obtain⟨m,hm1,hm2⟩:=hLd.at (aQ Wt);rw[yZ hm1]at hx;cases hx;have cx:=c.same (s1.trans sx);have PN:m<A.ks.length:=by rw[c.Hd];exact(bz.mp hm2).1
      have hb:=cx.hks m A.ks[m] _ (aQ PN) hm2;refine⟨_,rfl,a,C,A.dx,_,_,rfl,cx.ob,T.cl,T.kn,C9,_,rfl,A.kn,A.ks.map V.ref,m,.ref A.ks[m],rfl,rfl,fG.of cx.hkn,mR (by rw[bG,aQ PN];rfl),A.ks[m],_,rfl,.inl (fG.of hb),λl2 hl2=>?_⟩;have hDl:Dd≠l2:=λzz=>by rw[<-zz,NY]at hl2;cases hl2
      have hl1:H1 l2=none:=sx.free hl2;refine⟨by rw[aB hDl];exact NY,by rw[aG,hj];exact cY (show j<1000001 by rw[nY]at Wt;lia) (by decide),as++[l2],by rw[b7];rfl,by rw[b9,hj];rfl,Wt,?_,aP,⟨B1 hnew.1 λhm=>Ms hat hl2 (by rw[hj];exact Ws) hm,λb SD=>?_⟩,λk' b r e1 e2=>?_⟩
      ·intro y o hy
       have hyD:y≠Dd:=λzz=>by rw[zz,hD]at hy;cases hy
       rw[aB hyD];exact bF hl2 _ _ _ (sx _ _ hy)
      ·rcases b8.mp SD with h|h
       ·exact hnew.2 b h
       ·have:b=l2:=by simpa using h
        rw[this];exact⟨hl1,Ne.symm hDl⟩
      ·by_cases hk:k'<as.length
       ·rw[ed hk]at e1
        have hbb:=hat k' b r e1 e2;rw[aB (hnew.2 b (dm e1)).2];exact bF hl2 _ _ _ hbb
       ·obtain⟨z1,z2⟩:=uA e1 hk
        rw[hj]at z1;rw[z1,aQ Wt]at e2;cases e2;rw[<-z2,aB (Ne.symm hDl)];exact aP
     ·rintro acc Hx ⟨as,rfl,hj,Ws,sx,NY,hnew,hat⟩
      refine⟨(by show 2<=aH;decide),λpt hpt=>?_⟩;have st:=bF hpt (.tup [V.int i,V.ref Dd]);have hlen:as.length=((R.drop i).map (·.1)).length:=by rw[hj,aG,qG,aG];exact hLd.len
      have hD0:H2 Dd=none:=s1.free hD;have dg:Bc HO.lst Hx (Dd::as) Dd as ((R.drop i).map (·.1)):=⟨by simp,NY,hlen,eR.mpr ⟨λz=>(hnew.2 Dd z).2 rfl,hnew.1⟩,λk' b ns e1 e2=>⟨bg _ (dm e1),by
       rw[bG]at e2;cases hr:(R.drop i)[k']? with
       |none=>rw[hr]at e2;cases e2
       |some r=>
        rw[hr]at e2;cases e2;exact hat k' b r e1 hr⟩⟩
      refine k pt _ ((s1.trans sx).trans st) ?_;unfold o5;rw[hcn];exact Qh hpt ((s1.trans sx).free hpt) (λb hb=>(aO.mp hb).elim (λz=>by rw[z];exact hD0) λz=>s1.free (hnew.2 b z).1) dg
  ·rw[decide_eq_false (show¬(i:Int)<(((nI ls).map V.int).length:Nat)by rw[aG,qG,hR.len];lia)]
   refine yM ?_;refine yM ?_;have hcn:fW n R=i:=Hi hal (by rw[EV (by lia)];exact λe=>nomatch e);have abN:Cq ((nI ls).map V.int) (aa (i:Int)) none=(nI (ls.drop i)).map V.int:=by unfold Cq nI;rw[nX _ _ _ (by lia),ue,bw,aG,aG,hR.len,EE hiR,qe,qe];refine Aw ?_;rw[nY,aG,aG,hR.len];exact aY _
   refine⟨_,rfl,_,rfl,a,C,A.dx,_,_,rfl,c.ob,T.cl,T.li,He,_,rfl,_,rfl,A.li,_,rfl,fG.of c.hli,λq hq=>?_⟩;rw[abN];have s1:=bF hq (.lst ((nI (ls.drop i)).map V.int));have hq1:(upd H2 q (.lst ((nI (ls.drop i)).map V.int))) q=aa (.lst ((nI (ls.drop i)).map V.int)):=aP;generalize upd H2 q (.lst ((nI (ls.drop i)).map V.int))=H1 at s1 hq1;have hLd:gk kn (ls.drop i) (R.drop i):=by unfold gk;rw[qe,qe,show ls.map (λm=>kn[m]?)=R.map aa from hR]
   refine⟨q,rfl,⟨_,fG.of hq1⟩,q,_,[.ref a],rfl,fG.of hq1,rfl,λj i' v e1 e2=>?_,λDd hD=>?_⟩
   ·match j with
    |0=>
     have z1:0=i':=by simpa using e1
     have z2:V.ref a=v:=by simpa using e2
     subst z1 z2;rfl
    |j+1=>simp at e1
   ·refine⟨λj acc Hx=>∃as:List ae,acc=as.map V.ref/\as.length=j/\j<=(R.drop i).length/\bD H1 Hx/\Hx Dd=aa (.lst acc)/\(as.Nodup/\∀b∈as,H1 b=none/\b≠Dd)/\∀(k:Nat)(b:ae)(r:RP),as[k]?=aa b->(R.drop i)[k]?=aa r->Hx b=aa (.lst (r.1.map V.int)),⟨[],rfl,rfl,iR _,bF hD _,aP,⟨.nil,λb hb=>nomatch hb⟩,λk b r e=>by simp at e⟩,?_,?_,?_⟩
    ·rintro j acc Hx ⟨as,rfl,_,_,sx,NY,_⟩
     exact⟨fG.of (sx _ _ hq1),NY⟩
    ·rintro j acc Hx x ⟨as,rfl,hj,Ws,sx,NY,hnew,hat⟩ hx
     have hjr:j<(ls.drop i).length:=by
      have:=(bz.mp hx).1
      rwa [aG,qG]at this
     have Wt:j<(R.drop i).length:=by rw[<-hLd.len];exact hjr
     obtain⟨m,hm1,hm2⟩:=hLd.at (aQ Wt);rw[yZ hm1]at hx;cases hx;have cx:=c.same (s1.trans sx);have PN:m<A.ks.length:=by rw[c.Hd];exact(bz.mp hm2).1
     have hb:=cx.hks m A.ks[m] _ (aQ PN) hm2;refine⟨_,rfl,a,C,A.dx,_,_,rfl,cx.ob,T.cl,T.kn,C9,_,rfl,A.kn,A.ks.map V.ref,m,.ref A.ks[m],rfl,rfl,fG.of cx.hkn,mR (by rw[bG,aQ PN];rfl),A.ks[m],_,rfl,.inl (fG.of hb),λl2 hl2=>?_⟩;have hDl:Dd≠l2:=λzz=>by rw[<-zz,NY]at hl2;cases hl2
     have hl1:H1 l2=none:=sx.free hl2;refine⟨by rw[aB hDl];exact NY,by rw[aG,hj];exact cY (show j<1000001 by rw[nY]at Wt;lia) (by decide),as++[l2],by rw[b7];rfl,by rw[b9,hj];rfl,Wt,?_,aP,⟨B1 hnew.1 λhm=>Ms hat hl2 (by rw[hj];exact Ws) hm,λb SD=>?_⟩,λk' b r e1 e2=>?_⟩
     ·intro y o hy
      have hyD:y≠Dd:=λzz=>by rw[zz,hD]at hy;cases hy
      rw[aB hyD];exact bF hl2 _ _ _ (sx _ _ hy)
     ·rcases b8.mp SD with h|h
      ·exact hnew.2 b h
      ·have:b=l2:=by simpa using h
       rw[this];exact⟨hl1,Ne.symm hDl⟩
     ·by_cases hk:k'<as.length
      ·rw[ed hk]at e1
       have hbb:=hat k' b r e1 e2;rw[aB (hnew.2 b (dm e1)).2];exact bF hl2 _ _ _ hbb
      ·obtain⟨z1,z2⟩:=uA e1 hk
       rw[hj]at z1;rw[z1,aQ Wt]at e2;cases e2;rw[<-z2,aB (Ne.symm hDl)];exact aP
    ·rintro acc Hx ⟨as,rfl,hj,Ws,sx,NY,hnew,hat⟩
     refine⟨(by show 2<=aH;decide),λpt hpt=>?_⟩;have st:=bF hpt (.tup [V.int i,V.ref Dd]);have hlen:as.length=((R.drop i).map (·.1)).length:=by rw[hj,aG,qG,aG];exact hLd.len
     have hD0:H2 Dd=none:=s1.free hD;have dg:Bc HO.lst Hx (Dd::as) Dd as ((R.drop i).map (·.1)):=⟨by simp,NY,hlen,eR.mpr ⟨λz=>(hnew.2 Dd z).2 rfl,hnew.1⟩,λk' b ns e1 e2=>⟨bg _ (dm e1),by
      rw[bG]at e2;cases hr:(R.drop i)[k']? with
      |none=>rw[hr]at e2;cases e2
      |some r=>
       rw[hr]at e2;cases e2;exact hat k' b r e1 hr⟩⟩
     refine k pt _ ((s1.trans sx).trans st) ?_;unfold o5;rw[hcn];exact Qh hpt ((s1.trans sx).free hpt) (λb hb=>(aO.mp hb).elim (λz=>by rw[z];exact hD0) λz=>s1.free (hnew.2 b z).1) dg
end
end DL.uD
namespace DL.uD
open PySem PySem.Spec PyProof.Rows L2 DL
abbrev Js:aD:=inClass (top 20) 0
def no1(i:Int):List (Str×V):=[("none",.int i)]
inductive Rm (K:ak) (C:ae) (vs:List V) (H:Hp) (Q:VK):Prop
 |mk (a dx:ae) (n:Nat):(vs=[.ref a,.int n])->((1<=n/\n<=7))->(H a=aa (.ins C dx []))->((∃o,H dx=aa o))->(a≠dx)->(∀(H':Hp)(A':Ad)(kn:List RP)(zn wn:Nat)(nu:List (List Key×V)),lR C H' a A' (zH zn wn) n kn (nI []) 2 nu [] [] []->kn[zn]?=aa (upTo n,upTo n)->kn[wn]?=aa (gY n)->(∀x u,x≠a->H x=aa u->x≠dx->H' x=aa u)->(∀x∈A'.all,x=dx\/H x=none)->(∀x,H' x=none->H x=none)->Q .non H')->Rm K C vs H Q
def YZ(K:ak)(C:ae):Sp:=λvs H Q _=>Rm K C vs H Q
section
variable{P:aR}{w:aE}{K:ak}{mg:Str->Option ah}{base:aC}
def sc0:bc ["self","n"] ["self","n"] (au Js):=⟨rfl,rfl,rfl,by decide +kernel,rfl,by decide +kernel,by decide +kernel⟩
def ae7{f C fN:ae}{fd Q9:aL}(F:Gd K "__init__" "Comb.__init__" Js f fd)(T:SN K mg C)(t:Tb K mg)
  (mN:Meth K C "number_of" fN)(bN:Binds K Q9 ["self","row"] [])(GN:fA P w K mg base oN 3 fN Q9 ["self","row"] (Hs K C))
  (G_s:qc P w K mg base 1 t.ji t.jj ["n"] dA)(G_h:qc P w K mg base 1 t.Fe t.Ff ["n"] By)
  (es:∀n:Nat,n<=7->dA [.int n]=.ok (bK (upTo n)))(eh:∀n:Nat,1<=n/\n<=7->By [.int n]=.ok (bK (upTo n).reverse))(ivh:∀n:Nat,Iv n (upTo n).reverse (upTo n).reverse)(ivs:∀n:Nat,Iv n (upTo n) (upTo n)):fA P w K mg base oN 4 f fd ["self","n"] (YZ K C):=by
 refine F.ok sc0 (λvs H Q E h=>?_) (λcdv A outer s H vs Q E hr h=>?_)
 ·obtain⟨a,dx,n,rfl,_⟩:=h
  rfl
 ·obtain⟨a,dx,n,rfl,hn,hob,hdx,hne,k⟩:=h
  have hu:=xj hr;refine⟨_,(bj (qA (pv 0) (wy bA) rfl) (bj (qA (pv 0) xp rfl) (bj (qA (pv 0) (wy bA) rfl) (bj (qA (pv 0) (wy bA) rfl) (bj (qA (pv 0) xp rfl) (bj (qA (pv 0) xp rfl) (bj (qA (pv 0) xp rfl) (bj (qA (pv 0) (wy bA) rfl) (bj (qA (pv 0) (mK (pv 0) T.cl mN GN hr.mono bN .nil sY (aS (ie (E:=λ_ _ _=>False) G_s hr.mono (by rfl) t.gz.m t.gz.F.kp t.gz.b .nil oV (aS (pv 1) bA)) bA)) rfl) (dJ (qA (pv 0) (mK (pv 0) T.cl mN GN hr.mono bN .nil sY (aS (ie (E:=λ_ _ _=>False) G_h hr.mono (by rfl) t.BX.m t.BX.F.kp t.BX.b .nil oV (aS (pv 1) bA)) bA)) rfl))))))))))),?_⟩;refine⟨(by show 0<=aH;decide),λl1 h1=>?_⟩;obtain⟨ne1,ae8,ob1,at1,kp1,SV⟩:=nC hob h1 (.lst []) "known";refine⟨_,rfl,a,C,dx,_,rfl,ae8,T.cl,T.kn,(by show 0<1000;decide),?_⟩;generalize hH1:upd (upd H l1 (.lst [])) a _=H1 at ob1 at1 kp1 SV;intro l2 h2;obtain⟨ne2,ae9,ob2,at2,Wu,Y0⟩:=nC ob1 h2 (.dT []) "numbers";refine⟨_,rfl,a,C,dx,_,rfl,ae9,T.cl,T.nu,(by show 1<1000;decide),?_⟩;generalize hH2:upd (upd H1 l2 (.dT [])) a _=H2 at ob2 at2 Wu Y0;refine⟨(by show 0<=aH;decide),λl3 h3=>?_⟩;obtain⟨ne3,afa,ob3,at3,Mt,gr3⟩:=nC ob2 h3 (.lst []) "firsts";refine⟨_,rfl,a,C,dx,_,rfl,afa,T.cl,T.fi,(by show 2<1000;decide),?_⟩;generalize SQ:upd (upd H2 l3 (.lst [])) a _=H3 at ob3 at3 Mt gr3;refine⟨(by show 0<=aH;decide),λl4 h4=>?_⟩;obtain⟨ne4,afb,ob4,at4,Hu,gr4⟩:=nC ob3 h4 (.lst []) "lasts";refine⟨_,rfl,a,C,dx,_,rfl,afb,T.cl,T.la,(by show 3<1000;decide),?_⟩;generalize hH4:upd (upd H3 l4 (.lst [])) a _=H4 at ob4 at4 Hu gr4;intro l5 h5;obtain⟨ne5,afc,ob5,at5,FY,gr5⟩:=nC ob4 h5 (.dT []) "shorter";refine⟨_,rfl,a,C,dx,_,rfl,afc,T.cl,T.sh,(by show 4<1000;decide),?_⟩;generalize hH5:upd (upd H4 l5 (.dT [])) a _=H5 at ob5 at5 FY gr5;intro l6 h6;obtain⟨ne6,afg,ob6,at6,Hv,gr6⟩:=nC ob5 h6 (.dT []) "longer";refine⟨_,rfl,a,C,dx,_,rfl,afg,T.cl,T.lo,(by show 5<1000;decide),?_⟩;generalize SR:upd (upd H5 l6 (.dT [])) a _=H6 at ob6 at6 Hv gr6;intro l7 h7;obtain⟨ne7,afh,ob7,at7,Mu,gr7⟩:=nC ob6 h7 (.dT []) "kept";refine⟨_,rfl,a,C,dx,_,rfl,afh,T.cl,T.ke,(by show 6<1000;decide),?_⟩;generalize hH7:upd (upd H6 l7 (.dT [])) a _=H7 at ob7 at7 Mu gr7;refine⟨(by show 0<=aH;decide),λl8 h8=>?_⟩;obtain⟨ne8,afj,ob8,at8,Wv,gr8⟩:=nC ob7 h8 (.lst []) "line";refine⟨_,rfl,a,C,dx,_,rfl,afj,T.cl,T.li,(by show 7<1000;decide),?_⟩;generalize hH8:upd (upd H7 l8 (.lst [])) a _=H8 at ob8 at8 Wv gr8;have v1:H8 l1=aa (.lst []):=(Wv _ _ ne1 (Mu _ _ ne1 (Hv _ _ ne1 (FY _ _ ne1 (Hu _ _ ne1 (Mt _ _ ne1 (Wu _ _ ne1 at1)))))))
  have v2:H8 l2=aa (.dT []):=(Wv _ _ ne2 (Mu _ _ ne2 (Hv _ _ ne2 (FY _ _ ne2 (Hu _ _ ne2 (Mt _ _ ne2 at2))))))
  have v3:H8 l3=aa (.lst []):=(Wv _ _ ne3 (Mu _ _ ne3 (Hv _ _ ne3 (FY _ _ ne3 (Hu _ _ ne3 at3)))))
  have v4:H8 l4=aa (.lst []):=(Wv _ _ ne4 (Mu _ _ ne4 (Hv _ _ ne4 (FY _ _ ne4 at4))))
  have v5:H8 l5=aa (.dT []):=(Wv _ _ ne5 (Mu _ _ ne5 (Hv _ _ ne5 at5)))
  have v6:H8 l6=aa (.dT []):=(Wv _ _ ne6 (Mu _ _ ne6 at6))
  have v7:H8 l7=aa (.dT []):=(Wv _ _ ne7 at7)
  have v8:H8 l8=aa (.lst []):=at8;have kp:∀x u,x≠a->H x=aa u->H8 x=aa u:=λx u hn hx=>(Wv _ _ hn (Mu _ _ hn (Hv _ _ hn (FY _ _ hn (Hu _ _ hn (Mt _ _ hn (Wu _ _ hn (kp1 _ _ hn hx))))))))
  have gr:∀x,H8 x=none->H x=none:=λx hx=>(SV _ (Y0 _ (gr3 _ (gr4 _ (gr5 _ (gr6 _ (gr7 _ (gr8 _ hx))))))))
  have f1:H l1=none:=h1;have f2:H l2=none:=(SV _ h2)
  have f3:H l3=none:=(SV _ (Y0 _ h3))
  have f4:H l4=none:=(SV _ (Y0 _ (gr3 _ h4)))
  have f5:H l5=none:=(SV _ (Y0 _ (gr3 _ (gr4 _ h5))))
  have f6:H l6=none:=(SV _ (Y0 _ (gr3 _ (gr4 _ (gr5 _ h6)))))
  have f7:H l7=none:=(SV _ (Y0 _ (gr3 _ (gr4 _ (gr5 _ (gr6 _ h7))))))
  have f8:H l8=none:=(SV _ (Y0 _ (gr3 _ (gr4 _ (gr5 _ (gr6 _ (gr7 _ h8)))))))
  have al3:l1≠l2:=aX at1 h2;have al4:l1≠l3:=aX (Wu _ _ ne1 at1) h3;have al5:l2≠l3:=aX at2 h3;have al6:l1≠l4:=aX (Mt _ _ ne1 (Wu _ _ ne1 at1)) h4;have al7:l2≠l4:=aX (Mt _ _ ne2 at2) h4;have al8:l3≠l4:=aX at3 h4;have al9:l1≠l5:=aX (Hu _ _ ne1 (Mt _ _ ne1 (Wu _ _ ne1 at1))) h5;have ama:l2≠l5:=aX (Hu _ _ ne2 (Mt _ _ ne2 at2)) h5;have amb:l3≠l5:=aX (Hu _ _ ne3 at3) h5;have amc:l4≠l5:=aX at4 h5;have amd:l1≠l6:=aX (FY _ _ ne1 (Hu _ _ ne1 (Mt _ _ ne1 (Wu _ _ ne1 at1)))) h6;have ame:l2≠l6:=aX (FY _ _ ne2 (Hu _ _ ne2 (Mt _ _ ne2 at2))) h6;have amf:l3≠l6:=aX (FY _ _ ne3 (Hu _ _ ne3 at3)) h6;have amg:l4≠l6:=aX (FY _ _ ne4 at4) h6;have amh:l5≠l6:=aX at5 h6;have ami:l1≠l7:=aX (Hv _ _ ne1 (FY _ _ ne1 (Hu _ _ ne1 (Mt _ _ ne1 (Wu _ _ ne1 at1))))) h7;have amj:l2≠l7:=aX (Hv _ _ ne2 (FY _ _ ne2 (Hu _ _ ne2 (Mt _ _ ne2 at2)))) h7;have amk:l3≠l7:=aX (Hv _ _ ne3 (FY _ _ ne3 (Hu _ _ ne3 at3))) h7;have aml:l4≠l7:=aX (Hv _ _ ne4 (FY _ _ ne4 at4)) h7;have amm:l5≠l7:=aX (Hv _ _ ne5 at5) h7;have amn:l6≠l7:=aX at6 h7;have amo:l1≠l8:=aX (Mu _ _ ne1 (Hv _ _ ne1 (FY _ _ ne1 (Hu _ _ ne1 (Mt _ _ ne1 (Wu _ _ ne1 at1)))))) h8;have amq:l2≠l8:=aX (Mu _ _ ne2 (Hv _ _ ne2 (FY _ _ ne2 (Hu _ _ ne2 (Mt _ _ ne2 at2))))) h8;have amr:l3≠l8:=aX (Mu _ _ ne3 (Hv _ _ ne3 (FY _ _ ne3 (Hu _ _ ne3 at3)))) h8;have ams:l4≠l8:=aX (Mu _ _ ne4 (Hv _ _ ne4 (FY _ _ ne4 at4))) h8;have amt:l5≠l8:=aX (Mu _ _ ne5 (Hv _ _ ne5 at5)) h8;have amu:l6≠l8:=aX (Mu _ _ ne6 at6) h8;have amv:l7≠l8:=aX at7 h8;have vd:∃o,H8 dx=aa o:=by obtain⟨o,ho⟩:=hdx;exact⟨o,kp _ _ (Ne.symm hne) ho⟩
  have Y1:∀{l:ae},H l=none->l≠dx:=λhl z=>by obtain⟨o,ho⟩:=hdx;rw[<-z,hl]at ho;cases ho
  have c:lR C H8 a ⟨dx,l1,l2,l3,l4,l5,l6,l7,l8,[]⟩ [] n [] [] 0 [] [] [] []:=by refine⟨ob8,vd,?_,v1,rfl,(λi b p e=>by simp at e),v2,v3,v4,v5,v6,v7,v8,(λp hp=>by simp at hp),(λi p e=>by simp at e),(λr _=>rfl),(λi k v e=>by cases e),(λi k v e=>by cases e),(λi j v e=>by cases e),⟨aY _,aY _,aY _,aY _,aY _⟩,(λm hm=>by simp at hm)⟩;show(a::dx::l1::l2::l3::l4::l5::l6::l7::l8::[]).Nodup;simp only [eR,aO,jw,or_false,not_or,not_false_eq_true,Uw,and_true];exact⟨⟨hne,Ne.symm ne1,Ne.symm ne2,Ne.symm ne3,Ne.symm ne4,Ne.symm ne5,Ne.symm ne6,Ne.symm ne7,Ne.symm ne8⟩,⟨Ne.symm (Y1 f1),Ne.symm (Y1 f2),Ne.symm (Y1 f3),Ne.symm (Y1 f4),Ne.symm (Y1 f5),Ne.symm (Y1 f6),Ne.symm (Y1 f7),Ne.symm (Y1 f8)⟩,⟨al3,al4,al6,al9,amd,ami,amo⟩,⟨al5,al7,ama,ame,amj,amq⟩,⟨al8,amb,amf,amk,amr⟩,⟨amc,amg,aml,ams⟩,⟨amh,amm,amt⟩,⟨amn,amu⟩,amv⟩
  generalize ob8=ob8 at c;clear ae8 ae9 afa afb afc afg afh afj;have frF:∀x∈(⟨dx,l1,l2,l3,l4,l5,l6,l7,l8,[]⟩:Ad).all,x=dx\/H x=none:=λx hx=>by
   unfold Ad.all Ad.hd at hx;simp only [bq,aO,jw,or_false]at hx;rcases hx with rfl|rfl|rfl|rfl|rfl|rfl|rfl|rfl|rfl
   ·exact .inl rfl
   ·exact .inr f1
   ·exact .inr f2
   ·exact .inr f3
   ·exact .inr f4
   ·exact .inr f5
   ·exact .inr f6
   ·exact .inr f7
   ·exact .inr f8
  generalize (⟨dx,l1,l2,l3,l4,l5,l6,l7,l8,[]⟩:Ad)=A at c frF;refine⟨_,rfl,a,A.dx,_,rfl,c.ob,rfl,_,rfl,λ_=>True,[.int n],⟨_,_,rfl,rfl,rfl⟩,?_⟩;rw[es n hn.2];intro q ws H9 s9 hq9 hw9 iw9;have ew:=jT iw9;subst ew;have c9:=c.same s9;have nF:∀{Hx Hy:Hp}{Ax:Ad}{y:ae}{exx:List (Str×V)}{knn:List RP}{lnn:List Int}{BB:Nat}{nn ss ll kk:List (List Key×V)},lR C Hx a Ax exx n knn lnn BB nn ss ll kk->Hx y=none->y∉a::Ax.all:=λcx hy hx=>by obtain⟨o,ho⟩:=cx.there hx;rw[hy]at ho;cases ho
  refine⟨a,A,[],n,[],[],0,[],[],[],[],(upTo n,upTo n),.ref q,rfl,c9,hn.2,by decide,ivs n,⟨q,_,rfl,.inl ⟨nF (Hy:=H9) c hq9,.inl hw9⟩,dX _⟩,λi1 Gw A1 mo1 nu1 c10 hi1 Fo el1=>?_⟩;refine⟨_,rfl,a,C,A1.dx,_,rfl,c10.ob,T.cl,T.no,(by show 8<1000;decide),?_⟩;have c11:=c10.YC (no1 i1);have afk:lS H8 (upd Gw a (.ins C A1.dx (zV A1++(no1 i1)))) (a::A.all) (a::A1.all):=((lS.same s9 _).trans Fo).trans (lS.upd g8 _);rw[show oM ("none":Str) (.int (i1:Int)) (zV A1++[])=zV A1++(no1 i1)from rfl];generalize upd Gw a (.ins C A1.dx (zV A1++(no1 i1)))=H11 at c11 afk;refine⟨_,rfl,a,A1.dx,_,rfl,c11.ob,rfl,_,rfl,λ_=>True,[.int n],⟨_,_,rfl,rfl,rfl⟩,?_⟩;rw[eh n hn];intro q2 ws2 H12 UR amx amy amz;have ew2:=jT amz;subst ew2;have c12:=c11.same UR;refine⟨a,A1,(no1 i1),n,[]++mo1,[],1,nu1,[],[],[],gY n,.ref q2,rfl,c12,hn.2,by decide,ivh n,⟨q2,_,rfl,.inl ⟨nF (Hy:=H12) c11 amx,.inl amy⟩,dX _⟩,λi2 H13 A2 mo2 AS c13 hi2 Jr el2=>?_⟩;refine⟨_,rfl,a,C,A2.dx,_,rfl,c13.ob,T.cl,T.wh,(by show 9<1000;decide),?_⟩;have c14:=c13.YC (zH i1 i2);rw[show oM ("whole":Str) (.int (i2:Int)) (zV A2++(no1 i1))=zV A2++zH i1 i2 from rfl];have abT:lS H8 (upd H13 a (.ins C A2.dx (zV A2++zH i1 i2))) (a::A.all) (a::A2.all):=((afk.trans (lS.same UR _)).trans Jr).trans (lS.upd g8 _);refine k _ A2 ([]++mo1++mo2) i1 i2 AS c14 (eg hi1) hi2 (λx u hx h1 h2=>?_) (λx hx=>?_) (λx hx=>gr x (abT.gr x hx))
  ·refine abT.kp x u (λhm=>?_) (kp x u hx h1)
   rcases aO.mp hm with z|z
   ·exact hx z
   ·rcases frF x z with z|z
    ·exact h2 z
    ·rw[z]at h1;cases h1
  ·rcases abT.nw x (bg _ hx)with z|z
   ·rcases aO.mp z with z|z
    ·rw[z]at hx
     exact absurd hx (eR.mp c14.nd).1
    ·exact frF x z
   ·exact .inr (gr x z)
end
end DL.uD
namespace DL.uD
open PySem PySem.Spec PyProof.Rows L2 DL
def abU{α:Type}(r:R α)(c:Str):r.ne≠.err c:=by cases r<;>exact λz=>nomatch z
structure CbM(P:aR)(w:aE)(K:ak)(mg:Str->Option ah)(base:aC)(C:ae) where
 fI:ae
 dI:aL
 fP:ae
 dP:aL
 fT:ae
 dT:aL
 M:Mk K C fI
 bI:Binds K dI ["self","n"] []
 GI:fA P w K mg base oN 4 fI dI ["self","n"] (YZ K C)
 mP:Meth K C "put" fP
 bP:Binds K dP ["self","row"] []
 GP:fA P w K mg base oN 7 fP dP ["self","row"] (YW K C)
 mT:Meth K C "form_told" fT
 bT:Binds K dT ["self"] []
 GT:fA P w K mg base oN 1 fT dT ["self"] (YY K C)
section
variable{P:aR}{w:aE}{K:ak}{mg:Str->Option ah}{base:aC}
def abV{C:ae}(T:SN K mg C)(Z:CbM P w K mg base C)(t:Tb K mg)(G_r:OkT P w K mg base 3 t.gq t.gu ["steps"] bx):
  zT P w K mg base 9 t.fY t.fZ ["n","steps"] br:=by
 refine t.iF.F.ok iY (λvs H Q E h=>?_) (λcdv A outer s H vs Q E hr h=>?_)
 ·obtain⟨Pa,ds,i,h⟩:=h
  match ds,h with
  |[.int n,d],h=>
   obtain⟨v,r,rfl,_,v',r',rfl,_,e⟩:=i;have e':r'=[]:=e;subst e';rfl
 ·obtain⟨Pa,ds,i,h⟩:=h
  obtain⟨n,d,rfl⟩:∃n d,ds=[.int n,d]:=by
   match ds,h with
   |[.int n,d],h=>exact⟨n,d,rfl⟩
  obtain⟨v0,r0,rfl,i0,v1,r1,rfl,i1,e2⟩:=i;have e2':r1=[]:=e2;have e0':v0=.int n:=i0;subst e2' e0';cases em:br [.int n,d]with
  |bad=>rw[em]at h;exact h.elim
  |err c=>exact absurd em (abU _ c)
  |ok amA=>
  rw[em]at h;have em':R.bind (bx [d]) (λrs=> @ite _ ((1<=n/\n<=7)/\rs.length<=40/\∀r∈rs,bY n.toNat r) (dM _) (y6 [.val (.int n),.val d,.no,.no,.deep (.tf (o5 n.toNat (dQ n.toNat rs)).1 (o5 n.toNat (dQ n.toNat rs)).2)]>=>tfO) .bad)=.ok amA:=R.dE em;obtain⟨rs,hrs,em2⟩:=R.ju em'
  by_cases hg:(1<=n/\n<=7)/\rs.length<=40/\∀r∈rs,bY n.toNat r
  case neg=>
   rw[if_neg hg]at em2;cases em2
  case pos=>
  rw[if_pos hg]at em2;obtain⟨hn,ard,afm⟩:=hg;obtain⟨m,rfl⟩:∃m:Nat,n=m:=⟨n.toNat,by lia⟩
  rw[bw]at em2 afm;have hu:=xj hr;refine⟨_,bj (gy (i:=2) iY.nd rfl (eB rfl) (T7 Z.M Z.GI hr.mono (by rfl) T.mgC Z.bI .nil sY (aS (pv 0) bA)))
   (bj (DV jA rfl (uV (ie (E:=λ_ _ _=>False) G_r hr.mono (by rfl) t.dY.m t.dY.F.kp t.dY.b .nil oV (aS (pv 1) bA))) (uT (i:=3) iY.nd rfl (eB rfl))
    (dJ (iO (mK (pv 2) T.cl Z.mP Z.GP hr.mono Z.bP .nil sY (aS (pv 3) bA)) rfl)))
   (bj (gy (i:=4) iY.nd rfl (eB rfl) (O4 (pv 2) T.cl Z.mT Z.GT hr.mono Z.bT .nil sY))
   (cW (aaK (E:=EN) 4 (PE.bB (dN l9 gQ (bIx (nB 4) (PE.bB cI)) (PE.bB (aec rfl t.Q3 (PE.yQ (sZ (Ll (N:=["step"]) (nt:=1) (caps:=[]) (au mw) ["n","steps","comb","row","found"] (by decide +kernel)) rfl (zQ (iL (nD 1))) (Kp.ok (xC (nt:=1) 0)) (λ_ _ _ _ _=>(zR 0 (by show gh (["step"]:List Str);decide +kernel))) (λ_ _ _ _ _=>Pr) (λ_ _ _ _ _=>(Eo (nD 0) (PE.bB cI))))))))) (PE.bB cI))))),?_⟩
  refine⟨_,rfl,λx dx hx hdx hne=>?_⟩;refine⟨x,dx,m,rfl,by lia,aP,⟨_,by rw[aB hne];exact aP⟩,Ne.symm hne,λH1 A1 kn1 zn wn nu1 c1 hz1 hw1 kp1 nw1 SV=>⟨rfl,?_⟩⟩;have s01:bD H H1:=λy u hy=>by
   have hyx:y≠x:=λz=>by rw[z,hx]at hy;cases hy
   have hyd:y≠dx:=λz=>by rw[z,hdx]at hy;cases hy
   exact kp1 y u hyx (by rw[aB hyx,aB hyd];exact hy) hyd
  have nF1:∀y∈x::A1.all,H y=none:=λy hy=>by
   rcases aO.mp hy with rfl|hy
   ·exact hx
   ·rcases nw1 y hy with rfl|hy
    ·exact hdx
    ·by_cases z1:y=x
     ·rw[z1];exact hx
     ·by_cases z2:y=dx
      ·rw[z2];exact hdx
      ·rw[aB z1,aB z2]at hy;exact hy
  refine⟨_,rfl,λ_=>True,[d],⟨_,_,rfl,(i1.same s01).weak,rfl⟩,?_⟩;rw[hrs];intro la as H2 UR nd2;have c2:=c1.same UR;have hlen:=nd2.len;have asF:∀b∈la::as,b∉x::A1.all:=λb hb hF=>by obtain⟨o,ho⟩:=c1.there hF;rw[nd2.fr b hb]at ho;cases ho
  refine⟨la,rfl,⟨_,fG.of nd2.ha⟩,A6 (K:=K) (a:=la) (xs:=as.map V.ref) (λi σ Hx=>∃(A2:Ad)(mo:List RP)(ls:List Nat)(B2:Nat)(AS B0 lo2 SS:List (List Key×V))(rv:Option V),σ=[aa (.int (m:Int)),aa v1,aa (.ref x),rv,none]/\lR C Hx x A2 (zH zn wn) m (kn1++mo) (nI ls) B2 AS B0 lo2 SS/\
    gk (kn1++mo) ls (dQ m (rs.take i))/\B2<=2+402*41*i/\i<=rs.length/\lS H2 Hx (x::A1.all) (x::A2.all)) ⟨A1,[],[],2,nu1,[],[],[],none,rfl,by rw[bq];exact c2,rfl,by lia,iR _,lS.refl _ _⟩ ?_ ?_ ?_⟩
  ·rintro i σ Hx hi ⟨A2,mo,ls,B2,AS,B0,lo2,SS,rv,rfl,c3,hL,hB,hir,vQ⟩
   exact fG.of (vQ.kp la _ (asF la (by simp)) nd2.ha)
  ·rintro i y σ Hx hy ⟨A2,mo,ls,B2,AS,B0,lo2,SS,rv,rfl,c3,hL,hB,hir,vQ⟩
   have hia:i<as.length:=by
    have:=(bz.mp hy).1
    rwa [aG]at this
   have afo:i<rs.length:=by rw[<-hlen];exact hia
   rw[bG,aQ hia]at hy;cases hy;have hr1:rs[i]?=aa rs[i]:=aQ afo;have hb2:=nd2.it i as[i] rs[i] (aQ hia) hr1;have hbF:=asF as[i] (bg _ (xN _));have hb3:=vQ.kp _ _ hbF hb2;have amC:as[i]∉x::A2.all:=λhF=>by
    rcases vQ.nw _ hF with z|z
    ·exact hbF z
    ·rw[hb2]at z;cases z
   have hcl:=x8 m (rs.take i) [];have Ww:(dQ m (rs.take i)).length<=40:=by unfold dQ;rw[gJ,jR]at hcl;lia
   refine⟨_,rfl,x,A2.dx,_,rfl,c3.ob,rfl,_,rfl,x,A2,zn,wn,m,kn1++mo,ls,dQ m (rs.take i),B2,AS,B0,lo2,SS,(rs[i],tE rs[i]),.ref as[i],rfl,c3,hL,eg hz1,by lia,by lia,by lia,si (afm _ (xN _)),⟨as[i],_,rfl,.inl ⟨amC,.inl hb3⟩,dX _⟩,λH4 A4 Mq ls4 nu4 sh4 lo4 ke4 c4 hL4 Ql=>?_⟩;rw[bC]at c4 hL4;exact⟨A4,mo++Mq,ls4,_,nu4,sh4,lo4,ke4,_,rfl,c4,by rw[NT hr1];exact hL4,by lia,afo,vQ.trans Ql⟩
  ·rintro σ Hx ⟨A2,mo,ls,B2,AS,B0,lo2,SS,rv,rfl,c3,hL,hB,hir,vQ⟩
   rw[aG,hlen,xD]at hL;have hcl:=x8 m rs [];have Ww:(dQ m rs).length<=1000:=by unfold dQ;rw[gJ]at hcl;lia
   refine⟨_,rfl,x,A2.dx,_,rfl,c3.ob,rfl,x,A2,zn,wn,m,kn1++mo,ls,dQ m rs,B2,AS,B0,lo2,SS,rfl,c3,hL,eg hw1,Ww,λfv H5 s5 i5=>?_⟩;obtain⟨las,lfr,ldp⟩:=i5;have sHx:bD H Hx:=λy u hy=>vQ.kp y u (λhF=>by rw[nF1 y hF]at hy;cases hy) (UR _ _ (s01 _ _ hy));have sH5:=sHx.trans s5;have d0:Rel K ⟨Pa,H⟩ [.val (.int (m:Int)),.val d,.no,.no,.no] [aa (.int (m:Int)),aa v1,aa (.ref x),rv,none] Hx []:=⟨rfl,sHx,λi dd e=>?_,λi xs e=>?_,λi j xs ys b e=>?_,(λb hb=>nomatch hb),λi v e=>?_,Gj.none λi w e=>?_⟩
   ·refine⟨⟨Pa,H⟩,_,_,d0.setC (i:=4) s5 (c:=.tf (o5 m (dQ m rs)).1 (o5 m (dQ m rs)).2) lfr (ldp.to λx hx=>⟨gb _ hx,rfl⟩),?_⟩
    obtain⟨o,ho,hv⟩:=R.ju em2;refine Ar ho ?_;cases o with
    |Cu c=>
     cases c with
     |tf h0 ts=>
      cases hv;exact λa H' sH' nd=>h a H' sH' nd
     |_=>cases hv
    |_=>cases hv
   ·match i with
    |0=>cases e;exact⟨_,rfl,rfl⟩
    |1=>cases e;exact⟨_,rfl,Is.ext ⟨λa o p _=>⟨.inl p,λz=>nomatch z⟩,λa o _ q=>sHx a o q⟩ _ _ i1⟩
    |2=>cases e
    |3=>cases e
    |4=>cases e
    |i+5=>cases e
   ·match i with
    |0=>cases e
    |1=>cases e
    |2=>cases e
    |3=>cases e
    |4=>cases e
    |i+5=>cases e
   ·match i with
    |0=>cases e
    |1=>cases e
    |2=>cases e
    |3=>cases e
    |4=>cases e
    |i+5=>cases e
   ·match i with
    |0=>cases e
    |1=>cases e
    |2=>cases e
    |3=>cases e
    |4=>cases e
    |i+5=>cases e
   ·match i with
    |0=>cases e
    |1=>cases e
    |2=>cases e
    |3=>cases e
    |4=>cases e
    |i+5=>cases e
end
end DL.uD
namespace DL
open PySem PySem.Spec PyProof.Rows L2
def fV:List Int->List Int->Option (List Int)
 |[],o=>aa o
 |k::w,o=>if k<0\/ai o k.toNat<ai o (k-1).toNat then none else fV w (iX o (k-1).toNat)
def kI{n a:Nat}{o w:List Int}:fV (((a:Int)+1)::w) o=if ai o (a+1)<ai o a then none else fV w (iX o a):=by
 conv=>lhs;unfold fV
 rw[show((a:Int)+1).toNat=a+1 by lia,show((a:Int)+1-1).toNat=a by lia]
 by_cases h:ai o (a+1)<ai o a
 ·rw[if_pos (.inr h),if_pos h]
 ·rw[if_neg (by rintro(z|z);lia;exact h z),if_neg h]
def Ps(n:Nat)(w:List Int):Prop:=∀k∈w,∃a:Nat,k=(a:Int)+1/\a+1<n
def pK(w o:List Int):List Int:=w.foldl (λo k=>iX o (k-1).toNat) o
theorem Mv(f:Int->Int):∀(l:List Int)(a:Nat),iX (l.map f) a=(iX l a).map f
 |[],a=>by cases a<;>rfl
 |[x],0=>rfl
 |[x],a+1=>by cases a<;>rfl
 |x::y::l,0=>rfl
 |x::y::l,a+1=>by show iX (f x::xX f (y::l)) (a+1)=_;rw[wj,wj,Mv f (y::l) a];rfl
def Rn{n a:Nat}(h:a+1<n):iX (upTo n) a=(upTo n).map (sg a):=by
 refine cC (by rw[jV,aG]) λj hj=>?_;rw[jV,aI]at hj;have e:=cM (r:=upTo n) (a:=a) (p:=j) (by rw[aI];exact hj);unfold wH at e;rw[e,nA _ _ (by rw[aI];exact h),aU hj];unfold sg
 by_cases h1:j=a
 ·rw[if_pos h1,aU (by lia),if_pos (show(j:Int)=a by lia)]
  lia
 ·rw[if_neg h1,if_neg (show¬(j:Int)=a by lia)]
  by_cases h2:j=a+1
  ·rw[if_pos h2,aU (by lia),if_pos (show(j:Int)=a+1 by lia)]
  ·rw[if_neg h2,if_neg (show¬(j:Int)=a+1 by lia)]
theorem Fp(f:Int->Int):∀(w o:List Int),pK w (o.map f)=(pK w o).map f
 |[],o=>rfl
 |k::w,o=>by show pK w (iX (o.map f) (k-1).toNat)=(pK w (iX o (k-1).toNat)).map f;rw[Mv,Fp f w]
def tM(n:Nat):Iv n (upTo n) (upTo n):=⟨aI n,aI n,λp hp=>by rw[aU hp,bw];exact⟨by lia,by lia,aU hp⟩,λp hp=>by rw[aU hp,bw];exact⟨by lia,by lia,aU hp⟩⟩
theorem Jt{n:Nat}:∀w:List Int,Ps n w->Iv n (pK w.reverse (upTo n)) (pK w (upTo n))
 |[],_=>tM n
 |k::w,h=>by
  obtain⟨a,rfl,ha⟩:=h k (by simp);have ih:=Jt w λx hx=>h x (by simp[hx]);rw[kX];have e1:pK (((a:Int)+1)::w) (upTo n)=wH (pK w (upTo n)) a:=by show pK w (iX (upTo n) ((a:Int)+1-1).toNat)=_;rw[show((a:Int)+1-1).toNat=a by lia,Rn ha,Fp];rfl
  have e2:pK (w.reverse++[(a:Int)+1]) (upTo n)=iX (pK w.reverse (upTo n)) a:=by unfold pK;rw[qk];show iX _ ((a:Int)+1-1).toNat=_;rw[show((a:Int)+1-1).toNat=a by lia]
  rw[e1,e2];exact(ih.symm.step ha).symm
def Y2{n:Nat}{o s:List Int}(h:Iv n o s){a:Nat}(ha:a+1<n):ai o a≠ai o (a+1):=λe=>by have:=h.symm.OC (v:=a) (w:=a+1) (by lia) ha e;lia
def Mw{n:Nat}{o s:List Int}(h:Iv n o s){a:Nat}(ha:a+1<n):jX (iX o a)=jX o+1/\ai o a<ai o (a+1)\/jX (iX o a)+1=jX o/\ai o (a+1)<ai o a:=by
 have e:=AG o a [] (by rw[h.lr];exact ha);have d:=Y2 h ha;unfold jX
 by_cases c:ai o a<ai o (a+1)
 ·rw[if_neg (by lia),if_pos c]at e
  exact .inl ⟨by lia,c⟩
 ·rw[if_pos (by lia),if_neg c]at e
  exact .inr ⟨by lia,by lia⟩
theorem uL{n:Nat}:∀(w o s z:List Int),Ps n w->Iv n o s->fV w o=aa z->z=pK w o/\jX z=jX o+w.length
 |[],o,s,z,_,_,h=>by cases h;exact⟨rfl,rfl⟩
 |k::w,o,s,z,hw,hi,h=>by
  obtain⟨a,rfl,ha⟩:=hw k (by simp);rw[kI (n:=n)]at h;split at h
  ·cases h
  ·rename_i hc
   obtain⟨e1,e2⟩:=uL w (iX o a) (wH s a) z (λx hx=>hw x (by simp[hx])) (hi.symm.step ha).symm h;have:=Mw hi ha;refine⟨?_,by rw[e2,bQ];lia⟩;rw[e1];show _=pK w (iX o ((a:Int)+1-1).toNat);rw[show((a:Int)+1-1).toNat=a by lia]
theorem Hw{n:Nat}:∀(w o s:List Int),Ps n w->Iv n o s->jX (pK w o)<=jX o+w.length/\(jX (pK w o)=jX o+w.length->fV w o=aa (pK w o))
 |[],o,s,_,_=>⟨aY _,λ_=>rfl⟩
 |k::w,o,s,hw,hi=>by
  obtain⟨a,rfl,ha⟩:=hw k (by simp);have e0:pK (((a:Int)+1)::w) o=pK w (iX o a):=by show pK w (iX o ((a:Int)+1-1).toNat)=_;rw[show((a:Int)+1-1).toNat=a by lia]
  obtain⟨e1,e2⟩:=Hw w (iX o a) (wH s a) (λx hx=>hw x (by simp[hx])) (hi.symm.step ha).symm;rw[kI (n:=n),e0,bQ];rcases Mw hi ha with⟨c1,c2⟩|⟨c1,c2⟩
  ·exact⟨by lia,λh=>by rw[if_neg (by lia)];exact e2 (by lia)⟩
  ·exact⟨by lia,λh=>by lia⟩
def Wx:∀n:Nat,n<8->jX (upTo n)=0:=by decide +kernel
def Hz{n:Nat}{w z:List Int}(hw:Ps n w)(h:fV w (upTo n)=aa z):fV w.reverse (upTo n)=aa (pK w.reverse (upTo n)):=by obtain⟨e1,e2⟩:=uL w _ _ z hw (tM n) h;refine(Hw w.reverse (upTo n) (upTo n) (λk hk=>hw k (by simpa using hk)) (tM n)).2 ?_;rw[BI (Jt w hw),<-e1,e2,bE]
def My{n:Nat}{w z:List Int}(hw:Ps n w)(h:fV w (upTo n)=aa z):Iv n z (pK w.reverse (upTo n)):=by rw[(uL w _ _ z hw (tM n) h).1];exact(Jt w hw).symm
theorem zc:∀(w o:List Int)(k:Int),fV (w++[k]) o=(fV w o).bind λz=>fV [k] z
 |[],o,k=>rfl
 |x::w,o,k=>by
  rw[gI];unfold fV;split
  ·rfl
  ·exact zc w _ k
def Iv.nd {n:Nat}{r s:List Int}(h:Iv n r s):s.Nodup:=by
 unfold gh;rw[VL];intro i j hi hj hij e;rw[h.ls]at hi hj;have e2:ai s i=ai s j:=by
  unfold ai;rw[aQ,aQ]
  ·exact e
 have:=h.OC hi hj e2;lia
def jF{n:Nat}{r s:List Int}(h:Iv n r s):bY n r:=by
 refine(V8 h.symm.nd (BG n)).mpr λx=>?_;rw[mem_upTo];constructor
 ·intro hx
  obtain⟨p,hp,rfl⟩:=pZ hx;rw[h.lr]at hp;have:=h.rs p hp;rw[show ai r p=r[p]by unfold ai;rw[aQ];rfl]at this
  exact⟨this.1,this.2.1⟩
 ·rintro⟨h0,h1⟩
  have:=(h.idx (v:=x.toNat) (by lia)).1
  rwa [show((x.toNat:Nat):Int)=x by lia]at this
def fl(n:Nat)(l:List Int):List Int:=l.map λx=>(n:Int)-1-x
def sO(n:Nat)(l:List Int):(fl n l).length=l.length:=aG _
def yq{n:Nat}{l:List Int}{p:Nat}(h:p<l.length):ai (fl n l) p=(n:Int)-1-ai l p:=by
 have:=gj h;unfold fl
 conv=>lhs;unfold ai
 rw[bG,this];rfl
def jk{l:List Int}{p:Nat}(h:p<l.length):ai l.reverse p=ai l (l.length-1-p):=by unfold ai;rw[rT h]
def Y3(n:Nat):fl n (upTo n).reverse=upTo n:=by refine cC (by rw[sO,bE]) λp hp=>?_;rw[sO,bE,aI]at hp;rw[yq (by rw[bE,aI];exact hp),jk (by rw[aI];exact hp),aI,aU (by lia),aU hp];lia
def Ro{n:Nat}{r:List Int}(h:bY n r):bY n (fl n r):=by
 have e:fl n (upTo n)=(upTo n).reverse:=by rw[<-Y3 n];unfold fl;rw[oh,lE,<-oh];congr 1;have:=Y3 n;unfold fl at this;rw[this]
 exact(EU.map _ h).trans (by show(fl n (upTo n)).Perm _;rw[e];exact LB _)
def Mz{n:Nat}{r:List Int}(h:bY n r):bY n r.reverse:=(LB r).trans h
def kJ(n:Nat)(hn:n<=7):dA [.int n]=.ok (bK (upTo n)):=by unfold dA Bx;dsimp [mS,mD,mF,dZ,aT,reduceAdd,reduceSub,reduceEqDiff];rw[CY _ (by lia),bw,C7];dsimp [nS]
def Di{n:Nat}{r s:List Int}(h:Iv n r s)(hn:n<=7):xW [.lst (bK r)]=.ok (bK (fl n s)):=by
 unfold xW LN;dsimp [mS,mD,mF,dZ,aT,reduceAdd,reduceSub,reduceEqDiff];rw[vB h hn];dsimp [ik];rw[rZ (λk=>(n:Int)-1-k) s λk _=>⟨_,kB _ _ _,rfl,by unfold BE lV;dsimp [mS,mD,mF,dZ,aT,reduceAdd,reduceSub,reduceEqDiff,cZ,h.lr]⟩]
 dsimp [R.gU];rw[gM (by rw[aG,h.ls];lia)];dsimp [nS];rfl
def Ju{n:Nat}{r:List Int}(h:r.length=n)(hn:n<=7):jH [.lst (bK r)]=.ok (bK (fl n r.reverse)):=by
 unfold jH wc;dsimp [mS,mD,mF,dZ,aT,reduceAdd,reduceSub,reduceEqDiff,EF,ik];rw[rZ (λk=>(n:Int)-1-k) r.reverse λk _=>⟨_,kB _ _ _,rfl,by unfold qW lV;dsimp [mS,mD,mF,dZ,aT,reduceAdd,reduceSub,reduceEqDiff,cZ,h]⟩]
 dsimp [R.gU];rw[gM (by rw[aG,bE];lia)];dsimp [nS];rfl
def Rp{b:D->DE->R Out}{x:D}{xs:List D}{e e':DE}(h:b x e=.ok (.nx e')):lT b (x::xs) e=lT b xs e':=by rw[lT,h];rfl
def zd(gs:List (List Int))(c:List Int):GK (gs++[c]) (.int (-1))=.ok (gs.length,c):=by
 have hk:wN (gs++[c]).length (-1)=aa gs.length:=by unfold L2.wN;rw[if_neg (by decide),b9,pV,if_pos (by lia)];congr 1;lia
 have hg:(gs++[c])[gs.length]?=aa c:=by simp
 unfold GK;simp_all only [hk,hg]
def MA{ix:Nat}{env:DE}{nss:List (List Int)}{k:Nat}{l:List Int}{v:Int}(h:l.length<1000):I0 ix env nss (k,l) (.int v)=.ok (.nx (env.set ix (.deep (Ct.ls (nss.set k (l++[v])))))):=if_pos (cY h (by decide))
def MB{ix:Nat}{env:DE}{nss:List (List Int)}{ns:List Int}(h:nss.length<1000):Qf ix env nss ns=.ok (.nx (env.set ix (.deep (Ct.ls (nss++[ns]))))):=if_pos (cY h (by decide))
def pB(nss:List (List Int))(r:DE):kj 0 (.deep (Ct.ls nss)::r)=.ok nss:=rfl
def pC(i:Nat)(a:Sl)(r:DE):kj (i+1) (a::r)=kj i r:=rfl
def Rq(nss:List (List Int))(r:DE):cB 0 (.deep (Ct.ls nss)::r)=.ok (.lst (nss.map λns=>.lst (bK ns))):=rfl
def abW{n:Nat}(hn:n<=7){o:List Int}(ho:o.length=n)(s0 s1 s3:Sl){a:Nat}(ha:a+1<n)(hc:¬ai o (a+1)<ai o a):qj (.int ((a:Int)+1)) [s0,s1,.own (bK o),s3]=.ok (.nx [s0,s1,.own (bK (iX o a)),.val (.int ((a:Int)+1))]):=by
 unfold qj;have h0:¬(a:Int)+1<0:=by lia
 dsimp [mS,mD,mF,dZ,aT,reduceAdd,reduceSub,reduceEqDiff,kB,h0,decide_false];rw[jy (by lia) (by lia),jy (by lia) (by lia),show((a:Int)+1-1).toNat=a by lia,show((a:Int)+1).toNat=a+1 by lia];dsimp [hc,decide_false];rw[yX (by lia) (by lia)];dsimp
theorem HA{n:Nat}(hn:n<=7)(s0 s1:Sl):∀(w o z:List Int)(s3:Sl),Ps n w->o.length=n->fV w o=aa z->∃s3',lT qj (bK w) [s0,s1,.own (bK o),s3]=.ok (.nx [s0,s1,.own (bK z),s3'])
 |[],o,z,s3,_,_,h=>by cases h;exact⟨s3,rfl⟩
 |k::w,o,z,s3,hv,ho,h=>by
  obtain⟨a,rfl,ha⟩:=hv k (by simp);rw[kI (n:=n)]at h;split at h
  ·cases h
  ·rename_i hc
   rw[<-xF,Rp (abW hn ho s0 s1 s3 ha hc)];exact HA hn s0 s1 w (iX o a) z _ (λx hx=>hv x (by simp[hx])) (by rw[jV,ho]) h
def Dj{n:Nat}(hn:n<=7){w z:List Int}(hv:Ps n w)(h:fV w (upTo n)=aa z):qY [.int n,.lst (bK w)]=.ok (bK z):=by unfold qY G5;dsimp [mS,mD,mF,dZ,aT,reduceAdd,reduceSub,reduceEqDiff];rw[kJ n hn];dsimp;obtain⟨s3,e⟩:=HA hn (.val (.int n)) (.val (.lst (bK w))) w (upTo n) z .no hv (aI n) h;rw[e];dsimp [nS]
def jM(l:List Int)(k:Int):List Int:=if l.getLast?=aa (-k)then l.dropLast else l++[k]
def iG(s w:List Int):List Int:=w.foldl jM s
def Rt(s a b:List Int):iG s (a++b)=iG (iG s a) b:=qk
theorem uM:∀(w s:List Int),(iG s w).length<=s.length+w.length
 |[],s=>by simp[iG]
 |k::w,s=>by
  have:=uM w (jM s k);show(iG (jM s k) w).length<=_;have h2:(jM s k).length<=s.length+1:=by
   unfold jM;split
   ·rw[KN];lia
   ·simp
  rw[bQ];lia
def Jv(l:List Int):kU l (-1)=l.getLast?:=by
 rw[L6];unfold L2.kU L2.wN;rw[if_neg (by decide)];cases l with
 |nil=>rfl
 |cons x r=>
  rw[if_pos (by simp;lia)];show(x::r)[(-1+((x::r).length:Int)).toNat]?=_;congr 1;simp;lia
def Jw(w:List Int)(hw:w.length<=100000):qV [.lst (bK w)]=.ok (bK (iG [] w)):=by
 unfold qV C4;dsimp [mS,mD,mF,dZ,aT,reduceAdd,reduceSub,reduceEqDiff];obtain⟨s',e,hj⟩:=yU (S:=List Int×Sl) (b:=rY) (λi s=>s.1=iG [] (w.take i))
  (λs=>[.val (.lst (bK w)),.own (bK s.1),s.2]) (bK w) 0 ([],.no) rfl (by
   rintro j ⟨l,s2⟩ x hs hx;obtain⟨k,hk,rfl⟩:=LL hx;rw[jv]at hs⊢;have hs':l=iG [] (w.take j):=hs;have hll:=uM (w.take j) [];rw[<-hs',jR]at hll;simp -implicitDefEqProofs only [gJ]at hll;refine⟨(jM l k,.val (.int k)),?_,by show jM l k=_;rw[G0 hk,Rt,hs'];rfl⟩;unfold rY jM;dsimp [mS,mD,mF,dZ,aT,reduceAdd,reduceSub,reduceEqDiff,kB,cZ];cases l with
   |nil=>
    dsimp [gJ,MC,Int.lt_irrefl,decide_false,List.getLast?_nil];rw[Lw (by simp[bK])];rfl
   |cons y r=>
    have h0:(0:Int)<((y::r).length:Nat):=by simp
    generalize hyr:y::r=l at*;dsimp [h0,decide_true];rw[EB,Jv];cases hq:l.getLast? with
    |none=>rw[<-hyr]at hq;simp at hq
    |some z=>
     dsimp [pW]
     by_cases hz:z= -k
     ·have hz':(z== -k)=true:=by rw[beq_iff_eq];exact hz
      subst hz;dsimp [beq_self_eq_true];rw[Vf (by rw[cZ];lia)];dsimp;show _=R.ok (Out.nx [_,Sl.own (bK l.dropLast),_]);unfold bK;rw[AI]
     ·have hz':(z== -k)=false:=beq_false_of_ne hz
      have hz2:¬(aa z=aa (-k)):=λe=>hz (cj.inj e);dsimp [mS,mD,mF,dZ,aT,reduceAdd,reduceSub,reduceEqDiff,hz'];rw[Lw (by rw[cZ];lia),if_neg hz2];dsimp;unfold bK;rw[b7];rfl)
 obtain⟨l,s2⟩:=s';rw[jv,cZ,xD]at hj;have Je:l=iG [] w:=hj;dsimp only at e;rw[show([]:List D)=bK []from rfl,e,Je];dsimp [mS,mD,mF,dZ,aT,reduceAdd,reduceSub,reduceEqDiff,nS]
theorem yr:∀(w s:List Int),∀k∈iG s w,k∈s\/k∈w
 |[],s,k,h=>.inl h
 |x::w,s,k,h=>by
  rcases yr w (jM s x) k h with h|h
  ·unfold jM at h
   split at h
   ·exact .inl (AD (by rw[Er]at h;exact h))
   ·rcases b8.mp h with h|h
    ·exact .inl h
    ·exact .inr (by rw[cL.mp h];exact g8)
  ·exact .inr (bg _ h)
def Wy(s0:Sl)(b k:Int)(hk:1<=k/\k<=7)(s2:Sl):oi (.int k) [s0,.val (.int b),s2]=.ok (.nx [s0,.val (.int (EH b (1*2^(k-1).toNat))),.val (.int k)]):=by
 unfold oi;dsimp [mS,mD,mF,dZ,aT,reduceAdd,reduceSub,reduceEqDiff,kB];rw[show Vw (.int 1) (.int (k-1))=aa (.int (1*2^(k-1).toNat))from if_pos (by unfold Nm;exact⟨by lia,by lia,by decide⟩)]
 dsimp [mS,mD,mF,dZ,aT,reduceAdd,reduceSub,reduceEqDiff,NG]
theorem Dk(s0:Sl):∀(ks:List Int)(b:Int)(s2:Sl),(∀k∈ks,1<=k/\k<=7)->∃s2',lT oi (bK ks) [s0,.val (.int b),s2]=.ok (.nx [s0,.val (.int (ks.foldl (λb k=>EH b (1*2^(k-1).toNat)) b)),s2'])
 |[],b,s2,_=>⟨s2,rfl⟩
 |k::ks,b,s2,h=>by rw[<-xF,Rp (Wy s0 b k (h k (by simp)) s2)];exact Dk s0 ks _ _ λx hx=>h x (by simp[hx])
def Wz:∀ks:List Int,(∀k∈ks,1<=k/\k<=7)->qX [.lst (bK ks)]=.ok (.int (Jh ks)):=λks h=>by unfold qX C5;dsimp [mS,mD,mF,dZ,aT,reduceAdd,reduceSub,reduceEqDiff];obtain⟨s2,e⟩:=Dk (.val (.lst (bK ks))) ks 0 .no h;rw[e];dsimp;rfl
def WA(n:Nat):Iv n (upTo n).reverse (upTo n).reverse:=by
 have c:∀p,p<n->ai (upTo n).reverse p=((n-1-p:Nat):Int):=λp hp=>by rw[jk (by rw[aI];exact hp),aI,aU (by lia)]
 have h:∀p,p<n->0<=ai (upTo n).reverse p/\ai (upTo n).reverse p<n/\ai (upTo n).reverse (ai (upTo n).reverse p).toNat=p:=λp hp=>by rw[c p hp,bw,c _ (by lia)];refine⟨by lia,by lia,?_⟩;lia
 exact⟨by rw[bE,aI],by rw[bE,aI],h,h⟩
def WB(n:Nat)(hn:1<=n/\n<=7):By [.int n]=.ok (bK (upTo n).reverse):=by
 unfold By Qy;dsimp [mS,mD,mF,dZ,aT,reduceAdd,reduceSub,reduceEqDiff];have er:P9 [.int ((n:Int)-1),.int (-1),.int (-1)]=.ok (P8 ((n:Int)-1) (-1) (iQ ((n:Int)-1) (-1) (-1)).toNat):=if_pos (by unfold RC;lia);rw[er];have e2:P8 ((n:Int)-1) (-1) (iQ ((n:Int)-1) (-1) (-1)).toNat=bK (upTo n).reverse:=by
  have hc:n=1\/n=2\/n=3\/n=4\/n=5\/n=6\/n=7:=by lia
  rcases hc with rfl|rfl|rfl|rfl|rfl|rfl|rfl<;>rfl
 rw[e2];dsimp [mS,mD,mF,dZ,aT,reduceAdd,reduceSub,reduceEqDiff,nS]
def eJ(n:Nat):Iv n (upTo n) (upTo n):=⟨aI n,aI n,λp hp=>by rw[aU hp,bw];exact⟨by lia,by lia,aU hp⟩,λp hp=>by rw[aU hp,bw];exact⟨by lia,by lia,aU hp⟩⟩
inductive Rc (n:Nat):RP->RP->RP->RP->Prop
 |nil (p q:RP):Rc n p q p q
 |step {p q p' q':RP} {j:Nat}:j+1<n->ai p.1 j<ai p.1 (j+1)->ai q.2 (j+1)<ai q.2 j->Rc n (tZ p j) (wJ q j) p' q'->Rc n p q p' q'
def Rc.iv {n:Nat}{p q p' q':RP}(h:Rc n p q p' q'):Iv n p.1 p.2->Iv n q.1 q.2->Iv n p'.1 p'.2/\Iv n q'.1 q'.2:=by
 induction h with
 |nil p q=>exact λa b=>⟨a,b⟩
 |step hj h1 h2 _ ih=>exact λa b=>ih (iJ a hj) (iK b hj)
def Rc.ovr {n:Nat}{p q p' q' p0 q0:RP}(FU:Iv n p0.1 p0.2)(h:Rc n p q p' q'):∀y,Iv n p.1 p.2->Iv n q.1 q.2->zY n p0 q0 p q y->∃y',zY n p0 q0 p' q' y':=by
 induction h with
 |nil p q=>exact λy _ _ o=>⟨y,o⟩
 |step hj h1 h2 _ ih=>exact λy a b o=>ih _ (iJ a hj) (iK b hj) (o.step FU a b hj h1 h2)
theorem wK{n:Nat}:∀(f:Nat)(p q:RP),Iv n p.1 p.2->Iv n q.1 q.2->Rc n p q (fU f p q).1 (fU f p q).2
 |0,p,q,_,_=>.nil p q
 |f+1,p,q,ip,iq=>by
  cases h:(pJ p q).getLast? with
  |none=>rw[q9 _ h];exact .nil p q
  |some k=>
   obtain⟨j,rfl,hj,h1,h2⟩:=r9 ip iq (x6 h);rw[q8 f h,show((j:Int)+1-1).toNat=j by lia];exact .step hj h1 h2 (wK f _ _ (iJ ip hj) (iK iq hj))
def zY.starts {n:Nat}{p q p' c' v:RP}(o:zY n p q p' c' v)(Y4:Iv n p'.1 p'.2)(SW:Iv n c'.1 c'.2)(hf:pJ p' c'=[]){a:Nat}(ha:a+1<n)(hp:ai p.1 a<ai p.1 (a+1))(hq:ai q.2 (a+1)<ai q.2 a):ai v.2 (a+1)<ai v.2 a:=by
 refine jU λhc=>?_;have iv:=o.iy;obtain⟨x1,x2,x3⟩:=iv.sr a (by lia);obtain⟨y1,y2,y3⟩:=iv.sr (a+1) ha;have qa:=o.pq a (by lia);have qb:=o.pq (a+1) ha;generalize hx:(ai v.2 a).toNat=x at*;generalize hy:(ai v.2 (a+1)).toNat=y at*;have hxy:x<y:=by
  have:x≠y:=λe=>by rw[e,y3]at x3;lia
  lia
 obtain⟨i,i1,i2,f1,f2⟩:=switch (λi=>decide (ai c'.2 i<ai q.2 a)) (y-x) x (by rw[decide_eq_false];lia) (by rw[show x+(y-x)=y by lia,decide_eq_true];lia);have f1:=of_decide_eq_false f1;have f2:=of_decide_eq_true f2;have hin:i+1<n:=by lia
 have t1:=(gm Y4 SW).mp hf i hin (by lia);have t2:=o.aq i (i+1) (by lia) hin (by lia);obtain⟨g1,g2,g3⟩:=iv.rs i (by lia);obtain⟨h1,h2,h3⟩:=iv.rs (i+1) hin;rw[o.pl i (by lia),o.pl (i+1) hin]at t1;generalize hg:(ai v.1 i).toNat=g at*;generalize hh:(ai v.1 (i+1)).toNat=h at*;rcases Fq a g with c|c
 ·have gn:g≠a+1:=λe=>by rw[e]at g3;lia
  have:=o.aq i y (by lia) (by lia) (by lia);lia
 ·have tg:ai p.1 g<=ai p.1 a:=by
   rcases Fq g a with d|d
   ·have:x≠i:=λe=>by rw[e]at x3;lia
    exact WC (o.ap g a d (by lia) (by lia))
   ·rw[show g=a by lia];exact Ft _
  rcases Fq a h with d|d
  ·have th:ai p.1 (a+1)<=ai p.1 h:=by
    rcases Fq (a+1) h with e|e
    ·have:i+1≠y:=λz=>by rw[<-z]at y3;lia
     exact WC (o.ap (a+1) h e (by lia) (by lia))
    ·rw[show h=a+1 by lia];exact Ft _
   lia
  ·have:=o.aq x (i+1) (by lia) hin (by lia)
   lia
def WD{a i j:Nat}(h:i<j)(hne:¬(i=a/\j=a+1)):sw a i<sw a j:=by
 unfold sw
 repeat' split
 all_goals lia
def Fv{a:Nat}{x y:Int}(h:x<y)(hne:¬(x=a/\y=(a:Int)+1)):sg a x<sg a y:=by
 unfold sg
 repeat' split
 all_goals lia
def zY.pop {n:Nat}{p q p' c' v:RP}(o:zY n p q p' c' v)(ip:Iv n p.1 p.2)(iq:Iv n q.1 q.2){j:Nat}(hj:j+1<n)(hv:ai v.2 (j+1)<ai v.2 j):zY n (tZ p j) (wJ q j) p' c' (wJ v j):=by
 have iv:=o.iy;refine⟨iK iv hj,λt ht=>?_,λt ht=>?_,λi i' Xy Bt h=>?_,λi i' Xy Bt h=>?_,λt ht=>?_⟩
 ·obtain⟨h1,h2,_⟩:=ip.sr t ht
  show ai p'.2 t=ai (iX v.2 j) (ai (wH p.2 j) t).toNat;rw[cM (by rw[ip.ls];exact ht),gO (by rw[iv.ls];exact hj),QP _ h1,o.pp t ht]
 ·show ai (iX q.2 j) t=ai c'.2 (ai (iX v.2 j) t).toNat
  rw[gO (by rw[iq.ls];exact hj),gO (by rw[iv.ls];exact hj),o.pq _ (BL hj ht)]
 ·change ai (iX v.2 j) i'<ai (iX v.2 j) i at h
  show ai (iX p.1 j) i<ai (iX p.1 j) i';rw[gO (by rw[iv.ls];exact hj),gO (by rw[iv.ls];exact hj)]at h;rw[gO (by rw[ip.lr];exact hj),gO (by rw[ip.lr];exact hj)];have hne:¬(i=j/\i'=j+1):=λ⟨a,b⟩=>by subst a;subst b;unfold sw at h;rw[if_pos rfl,if_neg (by lia),if_pos rfl]at h;lia
  exact o.ap _ _ (WD Xy hne) (BL hj Bt) h
 ·show ai (wH v.1 j) i<ai (wH v.1 j) i'
  have h2:=o.aq i i' Xy Bt h;rw[cM (by rw[iv.lr];lia),cM (by rw[iv.lr];exact Bt)];refine Fv h2 λ⟨a,b⟩=>?_;obtain⟨_,_,e1⟩:=iv.rs i (by lia);obtain⟨_,_,e2⟩:=iv.rs i' Bt;rw[a,bw]at e1;rw[b,show((j:Int)+1).toNat=j+1 by lia]at e2;lia
 ·obtain⟨h1,h2,_⟩:=iv.rs t ht
  show ai p'.1 t=ai (iX p.1 j) (ai (wH v.1 j) t).toNat;rw[cM (by rw[iv.lr];exact ht),gO (by rw[ip.lr];exact hj),QP _ h1,o.pl t ht]
def Rc.to {n:Nat}{p0 q0 p q p' c':RP}(h:Rc n p0 q0 p q):Iv n p0.1 p0.2->Iv n q0.1 q0.2->∀y,zY n p0 q0 p' c' y->Iv n p'.1 p'.2->Iv n c'.1 c'.2->pJ p' c'=[]->∃v,zY n p q p' c' v:=by
 induction h with
 |nil p q=>exact λ_ _ y o _ _ _=>⟨y,o⟩
 |step hj h1 h2 _ ih=>exact λip iq y o Y4 SW hf=>ih (iJ ip hj) (iK iq hj) _ (o.pop ip iq hj (o.starts Y4 SW hf hj h1 h2)) Y4 SW hf
def zY.same {n:Nat}{p q p' c' v:RP}(o:zY n p q p' c' v)(ip:Iv n p.1 p.2)(iq:Iv n q.1 q.2)(Y4:Iv n p'.1 p'.2)(SW:Iv n c'.1 c'.2)(hf:pJ p q=[]):p'=p/\c'=q:=by
 have iv:=o.iy;have hs:¬SM n v:=λ⟨a,ha,hd⟩=>by have h1:=o.pq.nst iv SW o.aq ha hd;have h2:=o.ap a (a+1) (by lia) ha hd;have:=(gm ip iq).mp hf a ha h1;lia
 have e:=AO iv (eJ n) hs;have c:∀t,t<n->(ai (upTo n) t).toNat=t:=λt ht=>by rw[aU ht];exact bw t
 constructor
 ·refine lX Y4 ip (cC (by rw[Y4.lr,ip.lr]) λt ht=>?_)
  rw[Y4.lr]at ht;rw[o.pl t ht,e];dsimp only;rw[c t ht]
 ·have e2:c'.2=q.2:=cC (by rw[SW.ls,iq.ls]) λt ht=>by
   rw[SW.ls]at ht;rw[o.pq t ht,e];dsimp only;rw[c t ht]
  refine lX SW iq (Iv.uniq (n:=n) (s:=q.2) ?_ iq);rw[<-e2];exact SW
def Rc.one {n:Nat}{p0 q0 p q p' c':RP}(FU:Iv n p0.1 p0.2)(NV:Iv n q0.1 q0.2)(h:Rc n p0 q0 p q)(hf:pJ p q=[])(h':Rc n p0 q0 p' c')(hf':pJ p' c'=[]):p'=p/\c'=q:=by obtain⟨y,o⟩:=h'.ovr FU _ FU NV (zY.start FU (eJ n));obtain⟨v,o2⟩:=h.to FU NV y o (h'.iv FU NV).1 (h'.iv FU NV).2 hf';exact o2.same (h.iv FU NV).1 (h.iv FU NV).2 (h'.iv FU NV).1 (h'.iv FU NV).2 hf
theorem Jy(f:Int->Int):∀(l:List Int)(a:Nat),iX (l.map f) a=(iX l a).map f
 |[],a=>by cases a<;>rfl
 |[x],0=>rfl
 |[x],a+1=>by cases a<;>rfl
 |x::y::l,0=>rfl
 |x::y::l,a+1=>by show iX (f x::xX f (y::l)) (a+1)=_;rw[wj,wj,Jy f (y::l) a];rfl
inductive zL (n:Nat):List RP->List RP->Prop
 |here {p q:RP} {B:List RP} {j:Nat}:j+1<n->ai p.1 j<ai p.1 (j+1)->ai q.2 (j+1)<ai q.2 j->zL n (p::q::B) (tZ p j::wJ q j::B)
 |next {p:RP} {L L':List RP}:zL n L L'->zL n (p::L) (p::L')
inductive pD (n:Nat):List RP->List RP->Prop
 |nil (L:List RP):pD n L L
 |cons {L L' L'':List RP}:zL n L L'->pD n L' L''->pD n L L''
def pD.trans {n:Nat}{L L' L'':List RP}(h:pD n L L'):pD n L' L''->pD n L L'':=by
 induction h with
 |nil=>exact id
 |cons s _ ih=>exact λg=>.cons s (ih g)
theorem pD.next {n:Nat}(p:RP){L L':List RP}(h:pD n L L'):pD n (p::L) (p::L'):=by
 induction h with
 |nil=>exact .nil _
 |cons s _ ih=>exact .cons (.next s) ih
def pD.app {n:Nat}(A:List RP){L L':List RP}(h:pD n L L'):pD n (A++L) (A++L'):=by
 induction A with
 |nil=>exact h
 |cons p A ih=>exact ih.next p
def zL.SX {n:Nat}(B:List RP){L L':List RP}(h:zL n L L'):zL n (L++B) (L'++B):=by
 induction h with
 |here hj h1 h2=>exact .here hj h1 h2
 |next _ ih=>exact .next ih
theorem pD.SX {n:Nat}(B:List RP){L L':List RP}(h:pD n L L'):pD n (L++B) (L'++B):=by
 induction h with
 |nil=>exact .nil _
 |cons s _ ih=>exact .cons (s.SX B) ih
def Rc.sts {n:Nat}{p q p' q':RP}(h:Rc n p q p' q')(B:List RP):pD n (p::q::B) (p'::q'::B):=by
 induction h with
 |nil=>exact .nil _
 |step hj h1 h2 _ ih=>exact .cons (.here hj h1 h2) ih
def zL.iv {n:Nat}{L L':List RP}(h:zL n L L'):bO n L->bO n L':=by
 induction h with
 |here hj h1 h2=>
  intro hI x hx;rcases aO.mp hx with rfl|hx
  ·exact iJ (hI _ (by simp)) hj
  ·rcases aO.mp hx with rfl|hx
   ·exact iK (hI _ (by simp)) hj
   ·exact hI x (by simp[hx])
 |next _ ih=>
  intro hI x hx;rcases aO.mp hx with rfl|hx
  ·exact hI _ (by simp)
  ·exact ih (λy hy=>hI y (by simp[hy])) x hx
theorem pD.iv {n:Nat}{L L':List RP}(h:pD n L L'):bO n L->bO n L':=by
 induction h with
 |nil=>exact id
 |cons s _ ih=>exact λhI=>ih (s.iv hI)
def OD(L:List RP):Nat:=(L.map λp=>jX p.1).sum
def wt:List RP->Nat
 |[]=>0
 |_::L=>wt L+OD L
theorem zL.OD {n:Nat}{L L':List RP}(h:zL n L L'):bO n L->DL.OD L'=DL.OD L/\wt L'<wt L:=by
 induction h with
 | @here p q B j hj h1 h2=>
  intro hI;have ip:=hI p (by simp);have iq:=hI q (by simp);have e1:jX (tZ p j).1=jX p.1+1:=(E5 ip hj).1 h1;have e2:jX (wJ q j).1+1=jX q.1:=by rw[BI (iK iq hj),BI iq];exact(E5 iq.symm hj).2 h2
  unfold DL.OD wt wt DL.OD;simp_all only [bu,om];lia
 | @next p L L' _ ih=>
  intro hI;obtain⟨a,b⟩:=ih λy hy=>hI y (by simp[hy]);unfold wt;rw[a];refine⟨?_,by lia⟩;unfold DL.OD at a⊢;simp_all only [bu,om];lia
def WE(q:RP)(i j:Nat):tZ (wJ q j) i=wJ (tZ q i) j:=by unfold tZ wJ wH;rw[Jy,Jy]
def zL.side {n:Nat}{p q:RP}{B L:List RP}{j:Nat}(hj:j+1<n)(h1:ai p.1 j<ai p.1 (j+1))(h2:ai q.2 (j+1)<ai q.2 j)(iq:Iv n q.1 q.2)(s:zL n (q::B) L):
  ∃M,pD n (tZ p j::wJ q j::B) M/\pD n (p::L) M:=by
 cases s with
 | @here _ r B' i hi g1 g2=>
  refine⟨tZ p j::tZ (wJ q j) i::wJ r i::B',.cons (.next (.here hi ?_ g2)) (.nil _),?_⟩
  ·show ai (wH q.1 j) i<ai (wH q.1 j) (i+1)
   rw[cM (by rw[iq.lr];lia),cM (by rw[iq.lr];exact hi)];refine Fv g1 λ⟨a,b⟩=>?_;have e1:=(iq.rs i (by lia)).2.2;have e2:=(iq.rs (i+1) hi).2.2;rw[a,bw]at e1;rw[b,show((j:Int)+1).toNat=j+1 by lia]at e2;lia
  ·rw[WE]
   refine .cons (.here hj h1 ?_) (.nil _);show ai (wH q.2 i) (j+1)<ai (wH q.2 i) j;rw[cM (by rw[iq.ls];exact hj),cM (by rw[iq.ls];lia)];refine Fv h2 λ⟨a,b⟩=>?_;have e1:=(iq.sr (j+1) hj).2.2;have e2:=(iq.sr j (by lia)).2.2;rw[a,bw]at e1;rw[b,show((i:Int)+1).toNat=i+1 by lia]at e2;lia
 | @next _ _ B2 s=>exact⟨tZ p j::wJ q j::B2,.cons (.next (.next s)) (.nil _),.cons (.here hj h1 h2) (.nil _)⟩
def zL.join {n:Nat}(hn:n<=7){L L1:List RP}(h:zL n L L1):∀{L2:List RP},bO n L->zL n L L2->∃M,pD n L1 M/\pD n L2 M:=by
 induction h with
 | @here p q B j hj h1 h2=>
  intro L2 hI s;have ip:=hI p (by simp);have iq:=hI q (by simp);cases s with
  | @here _ _ _ i hi g1 g2=>
   have r1:=wK (n:=n) 50 _ _ (iJ ip hj) (iK iq hj);have r2:=wK (n:=n) 50 _ _ (iJ ip hi) (iK iq hi);obtain⟨a,b⟩:=Rc.one ip iq (.step hj h1 h2 r1) (AM hn 50 _ _ (iJ ip hj) (iK iq hj) (by lia)) (.step hi g1 g2 r2) (AM hn 50 _ _ (iJ ip hi) (iK iq hi) (by lia));have s2:=r2.sts B;rw[a,b]at s2;exact⟨_,r1.sts B,s2⟩
  |next s=>exact zL.side hj h1 h2 iq s
 | @next p L L1 s1 ih=>
  intro L2 hI s;cases s with
  | @here _ q B j hj h1 h2=>
   obtain⟨M,a,b⟩:=zL.side (p:=p) hj h1 h2 (hI q (by simp)) s1;exact⟨M,b,a⟩
  |next s=>
   obtain⟨M,a,b⟩:=ih (λy hy=>hI y (by simp[hy])) s;exact⟨p::M,a.next p,b.next p⟩
def Nf(n:Nat)(L:List RP):Prop:=∀L',¬zL n L L'
def afq{n:Nat}:∀(m:Nat)(L:List RP),wt L<=m->bO n L->∃N,pD n L N/\Nf n N:=λm=>by
 induction m with
 |zero=>exact λL h hI=>⟨L,.nil _,λL' s=>by have:=(s.OD hI).2;lia⟩
 |succ m ih=>
  intro L h hI;rcases Classical.em (∃L',zL n L L')with⟨L',s⟩|hs
  ·obtain⟨N,a,b⟩:=ih L' (by have:=(s.OD hI).2;lia) (s.iv hI)
   exact⟨N,.cons s a,b⟩
  ·exact⟨L,.nil _,λL' s=>hs ⟨L',s⟩⟩
def Ru{n:Nat}(hn:n<=7):∀(m:Nat)(L:List RP),wt L<=m->bO n L->∀{N1 N2:List RP},pD n L N1->Nf n N1->pD n L N2->Nf n N2->N1=N2:=λm=>by
 induction m with
 |zero=>
  intro L h hI N1 N2 a _ b _;have z:∀{N},pD n L N->N=L:=λ{N} s=>by
   cases s with
   |nil=>rfl
   |cons s _=>have:=(s.OD hI).2;lia
  rw[z a,z b]
 |succ m ih=>
  intro L h hI N1 N2 a n1 b n2;cases a with
  |nil=>
   cases b with
   |nil=>rfl
   |cons s _=>exact absurd s (n1 _)
  | @cons _ L1 _ s1 a=>
   cases b with
   |nil=>exact absurd s1 (n2 _)
   | @cons _ L2 _ s2 b=>
    obtain⟨M,u,v⟩:=s1.join hn hI s2;have w1:=(s1.OD hI).2;have w2:=(s2.OD hI).2;obtain⟨N,x,y⟩:=afq (wt M) M (aY _) (u.iv (s1.iv hI));rw[ih L1 (by lia) (s1.iv hI) a n1 (u.trans x) y,ih L2 (by lia) (s2.iv hI) b n2 (v.trans x) y]
theorem MD{n:Nat}:∀(ps:List RP)(c:RP),bO n ps->Iv n c.1 c.2->pD n (c::ps).reverse (zX ps c).reverse
 |[],c,_,_=>.nil _
 |p::ps,c,hI,ic=>by
  have ip:=hI p (by simp);unfold zX;split
  ·exact .nil _
  ·obtain⟨i1,_⟩:=lR.BK (n:=n) 50 ip ic
   have r:=(wK (n:=n) 50 p c ip ic).sts [];have h:=MD ps (fU 50 p c).1 (λy hy=>hI y (by simp[hy])) i1;simp -implicitDefEqProofs only [kX,bC]at h⊢;refine(pD.app ps.reverse r).trans ?_;have:=h.SX [(fU 50 p c).2];simp -implicitDefEqProofs only [bC]at this;exact this
abbrev Zr(n:Nat):RP:=(upTo n,upTo n)
def WG{n:Nat}(hn:n<=7){c:RP}(ic:Iv n c.1 c.2):fU 50 (Zr n) c=(c,Zr n):=by
 have iz:Iv n (Zr n).1 (Zr n).2:=eJ n;have s:=jY hn iz ic (eJ n);obtain⟨y,o⟩:=s.ex;have ct:∀t,t<n->(ai (upTo n) t).toNat=t:=λt ht=>by rw[aU ht];exact bw t
 have cz:∀t:Int,0<=t->t<n->ai (upTo n) t.toNat=t:=λt h0 ht=>by rw[aU (by lia)];lia
 have e2:(fU 50 (Zr n) c).2=Zr n:=AO s.ic (eJ n) λ⟨a,ha,hd⟩=>by have h1:=(gm s.ip s.ic).mp s.fr a ha hd;have h2:=o.aq a (a+1) (by lia) ha hd;have b1:=o.iy.rs a (by lia);have b2:=o.iy.rs (a+1) ha;rw[o.pl a (by lia),o.pl (a+1) ha]at h1;dsimp only at h1;rw[cz _ b1.1 b1.2.1,cz _ b2.1 b2.2.1]at h1;lia
 have e1:(fU 50 (Zr n) c).1=c:=by
  have h:(fU 50 (Zr n) c).1.2=c.2:=cC (by rw[s.ip.ls,ic.ls]) λt ht=>by rw[s.ip.ls]at ht;have b1:=o.iy.sr t ht;rw[o.pp t ht,o.pq t ht,e2];dsimp only;rw[ct t ht,cz _ b1.1 b1.2.1]
  refine lX s.ip ic (Iv.uniq (n:=n) (s:=c.2) ?_ ic);rw[<-h];exact s.ip
 exact Prod.ext e1 e2
theorem Jz{n:Nat}(hn:n<=7):∀(L:List RP),bO n L->pD n (Zr n::L) (L++[Zr n])
 |[],_=>.nil _
 |c::L,hI=>by have ic:=hI c (by simp);have r:=(wK (n:=n) 50 (Zr n) c (eJ n) ic).sts L;rw[WG hn ic]at r;exact r.trans ((Jz hn L λy hy=>hI y (by simp[hy])).next c)
def zL.at_ {n:Nat}{L L':List RP}(h:zL n L L'):∃A p q B j,L=A++p::q::B/\j+1<n/\ai p.1 j<ai p.1 (j+1)/\ai q.2 (j+1)<ai q.2 j:=by
 induction h with
 | @here p q B j hj h1 h2=>exact⟨[],p,q,B,j,rfl,hj,h1,h2⟩
 | @next p _ _ _ ih=>
  obtain⟨A,x,q,B,j,e,r⟩:=ih;exact⟨p::A,x,q,B,j,by rw[e];rfl,r⟩
def Y5{n:Nat}{L:List RP}(h:zI L.reverse)(hI:bO n L):Nf n L:=λL' s=>by
 obtain⟨A,p,q,B,j,e,hj,h1,h2⟩:=s.at_
 have hf:=h.at_ (A:=B.reverse) (B:=A.reverse) (p:=p) (q:=q) (by rw[e];simp)
 have:=(gm (hI p (by rw[e];simp)) (hI q (by rw[e];simp))).mp hf j hj h2;lia
def WH{n:Nat}{p:RP}(ip:Iv n p.1 p.2):pJ p (Zr n)=[]:=(gm ip (eJ n)).mpr λj hj h=>by dsimp only at h;rw[aU hj,aU (by lia)]at h;lia
theorem JA{n:Nat}:∀(k:Nat){R:List RP},bO n R->zI R->zI (bf k (Zr n)++R)
 |0,R,_,h=>h
 |k+1,R,hI,h=>by
  have ih:=JA k hI h;rw[gH,gI];cases e:bf k (Zr n)++R with
  |nil=>trivial
  |cons p L=>
   rw[e]at ih;refine⟨WH (n:=n) ?_,ih⟩;have:p∈bf k (Zr n)++R:=by rw[e];simp
   rcases b8.mp this with h|h
   ·rw[(AU.mp h).2];exact eJ n
   ·exact hI p h
def tW(n:Nat)(L:List RP):List RP:=L.foldl (i6 n) []
theorem HB{n:Nat}(hn:n<=7):∀(L R:List RP),bO n L->sj n R->∃k,pD n (R++L) (L.foldl (i6 n) R++bf k (Zr n))/\sj n (L.foldl (i6 n) R)
 |[],R,_,h=>⟨0,by simp_all only [bq,List.foldl_nil,xG];exact .nil _,h⟩
 |c::L,R,hI,h=>by
  have ic:=hI c (by simp);have SK:bO n L:=λy hy=>hI y (by simp[hy]);obtain⟨k,s,g⟩:=HB hn L (i6 n R c) SK (Ji hn (eJ n) h ic);have s1:=MD R.reverse c (λy hy=>h.iv y (by simpa using hy)) ic;rw[kX,lE]at s1;have s2:pD n (R++c::L) (x5 R c++L):=by have:=s1.SX L;simp -implicitDefEqProofs only [bC,WI]at this;exact this
  rw[nZ]
  by_cases hd:(x5 R c).getLast?=aa (upTo n,upTo n)
  ·have e:i6 n R c=(x5 R c).dropLast:=if_pos hd
   have e2:x5 R c=i6 n R c++[Zr n]:=by rw[e];obtain⟨l,hl⟩:=L4.mp hd;rw[hl,List.dropLast_concat]
   refine⟨k+1,?_,g⟩;rw[e2,bC,WI]at s2;refine s2.trans ((pD.app _ (Jz hn L SK)).trans ?_);have:=s.SX [Zr n];rw[bC,bC]at this;rw[WK];exact this
  ·have e:i6 n R c=x5 R c:=if_neg hd
   refine⟨k,?_,g⟩;rw[<-e]at s2;exact s2.trans s
def sP{n:Nat}(hn:n<=7){L:List RP}(hI:bO n L):∃k,pD n L (tW n L++bf k (Zr n))/\sj n (tW n L):=
 HB hn L [] hI ⟨(λx hx=>nomatch hx),trivial,(λx hx=>nomatch hx)⟩
def strip{n:Nat}{R:List RP}(h:sj n R)(k:Nat):(R++bf k (Zr n)).filter (λx=>decide (x≠Zr n))=R:=by rw[Wa,List.filter_eq_self.mpr λx hx=>decide_eq_true (QR (h.ns x hx)),WL.mpr λx hx=>by rw[(AU.mp hx).2];simp,bq]
def abX{n:Nat}(hn:n<=7){L L':List RP}(hI:bO n L)(s:pD n L L'):tW n L=tW n L':=by
 obtain⟨k,s1,g1⟩:=sP hn hI;obtain⟨k',s2,g2⟩:=sP hn (s.iv hI);have nf:∀{R:List RP}(j:Nat),sj n R->Nf n (R++bf j (Zr n)):=λ{R} j g=>Y5 (by
  rw[AL,WM];exact JA j (λy hy=>g.iv y (by simpa using hy)) g.lw) λx hx=>by
   rcases b8.mp hx with h|h
   ·exact g.iv x h
   ·rw[(AU.mp h).2];exact eJ n
 have e:=Ru hn _ L (aY _) hI s1 (nf k g1) (s.trans s2) (nf k' g2);rw[<-strip g1 k,e,strip g2 k']
theorem zI.pre:∀{A B:List RP},zI (A++B)->zI A
 |[],_,_=>trivial
 |[_],_,_=>trivial
 |_::q::A,B,h=>⟨h.1,zI.pre (A:=q::A) (B:=B) h.2⟩
def Fw{l:List Int}{p:Nat}(h:p<l.length):ai l.reverse p=ai l (l.length-1-p):=by unfold ai;rw[rT h]
def JB{n:Nat}(hn:n<=7){L R:List RP}{k:Nat}(hI:bO n L)(g:sj n R)(s:pD n L (R++bf k (Zr n))):tW n L=R:=by
 obtain⟨j,s1,g1⟩:=sP hn hI;have nf:∀{R:List RP}(j:Nat),sj n R->Nf n (R++bf j (Zr n)):=λ{R} j g=>Y5 (by
  rw[AL,WM];exact JA j (λy hy=>g.iv y (by simpa using hy)) g.lw) λx hx=>by
   rcases b8.mp hx with h|h
   ·exact g.iv x h
   ·rw[(AU.mp h).2];exact eJ n
 have e:=Ru hn _ L (aY _) hI s1 (nf j g1) s (nf k g);rw[<-strip g1 j,e,strip g k]
def bO.app {n:Nat}{A B:List RP}(a:bO n A)(b:bO n B):bO n (A++B):=λx hx=>(b8.mp hx).elim (a x) (b x)
def bO.one {n:Nat}{p:RP}(h:Iv n p.1 p.2):bO n [p]:=λx hx=>by rw[cL.mp hx];exact h
def bO.cons {n:Nat}{p:RP}{L:List RP}(h:Iv n p.1 p.2)(a:bO n L):bO n (p::L):=λx hx=>by
 rcases aO.mp hx with rfl|hx
 ·exact h
 ·exact a x hx
def bO.rep {n:Nat}{p:RP}(h:Iv n p.1 p.2)(k:Nat):bO n (bf k p):=λx hx=>by rw[(AU.mp hx).2];exact h
def ME{n:Nat}(hn:n<=7){A B:List RP}(hA:bO n A)(hB:bO n B):tW n (A++Zr n::B)=tW n (A++B):=by obtain⟨k,s,g⟩:=sP hn (hA.app hB);refine JB (k:=k+1) hn (hA.app (.cons (eJ n) hB)) g ?_;refine(pD.app A (Jz hn B hB)).trans ?_;have:=s.SX [Zr n];rw[bC,bC]at this;rw[WK];exact this
theorem HC{n:Nat}(hn:n<=7){A B:List RP}(hA:bO n A)(hB:bO n B):∀k,tW n (A++(bf k (Zr n)++B))=tW n (A++B)
 |0=>rfl
 |k+1=>by rw[gH,gI,ME hn hA (bO.app (.rep (eJ n) k) hB),HC hn hA hB k]
def sj.tail {n:Nat}{p:RP}{R:List RP}(h:sj n (p::R)):sj n R:=⟨λx hx=>h.iv x (by simp[hx]),by have:=h.lw;rw[kX]at this;exact this.pre,λx hx=>h.ns x (by simp[hx])⟩
theorem sj.drop {n:Nat}:∀(k:Nat){R:List RP},sj n R->sj n (R.drop k)
 |0,_,h=>h
 |_+1,[],h=>h
 |k+1,_::_,h=>sj.drop k h.tail
def gX{n t:Nat}(h:t<n):ai (upTo n).reverse t=(n:Int)-1-t:=by rw[Fw (by rw[aI];exact h),aI,aU (by lia)];lia
def qK(n:Nat):Iv n (gY n).1 (gY n).2:=by
 have h:∀p,p<n->0<=ai (upTo n).reverse p/\ai (upTo n).reverse p<n/\ai (upTo n).reverse (ai (upTo n).reverse p).toNat=p:=λp hp=>by rw[gX hp,gX (by lia)];lia
 have l:(upTo n).reverse.length=n:=by rw[bE,aI]
 exact⟨l,l,h,h⟩
def Rv{n:Nat}{q:RP}(iq:Iv n q.1 q.2):pJ (gY n) q=[]:=(gm (qK n) iq).mpr λj hj _=>by show ai (upTo n).reverse (j+1)<ai (upTo n).reverse j;rw[gX hj,gX (by lia)];lia
def Rw{n:Nat}(h2:2<=n):SM n (gY n):=⟨0,by lia,by show ai (upTo n).reverse 1<ai (upTo n).reverse 0;rw[gX (by lia),gX (by lia)];lia⟩
theorem MF{p:RP}:∀{L:List RP},zI L->(∀q A,L=A++[q]->pJ p q=[])->zI (L++[p])
 |[],_,_=>trivial
 |[q],_,h=>⟨h q [] rfl,trivial⟩
 |q::r::L,hl,h=>⟨hl.1,MF (L:=r::L) hl.2 λx A e=>h x (q::A) (by rw[e];rfl)⟩
def sj.half {n:Nat}(h2:2<=n){R:List RP}(h:sj n R):sj n (gY n::R):=⟨.cons (qK n) h.iv,by
 rw[kX];refine MF h.lw λq A e=>Rv (h.iv q ?_);have:q∈R.reverse:=by rw[e];simp
 simpa using this,λx hx=>by
  rcases aO.mp hx with rfl|hx
  ·exact Rw h2
  ·exact h.ns x hx⟩
def Rx{n:Nat}(hn:n<=7)(h2:2<=n){L:List RP}(hI:bO n L):tW n (gY n::L)=gY n::tW n L:=by obtain⟨k,s,g⟩:=sP hn hI;exact JB (k:=k) hn (.cons (qK n) hI) (g.half h2) (s.next _)
def Vl(n:Nat)(h:Int)(L:List RP):Int×List RP:=(h+fW n (tW n L),(tW n L).drop (fW n (tW n L)))
def NZ{n:Nat}(C:List RP):fW n (gY n::C)=fW n C+1:=by unfold fW;rw[E3 (by simp),bQ]
def Fx{n:Nat}(hn:n<=7)(h2:2<=n)(h:Int){L:List RP}(hI:bO n L):Vl n h (gY n::L)=Vl n (h+1) L:=by unfold Vl;rw[Rx hn h2 hI,NZ,Mc];exact Prod.ext (by show h+((fW n (tW n L)+1:Nat):Int)=h+1+(fW n (tW n L):Nat);lia) rfl
theorem ze{n:Nat}(hn:n<=7)(h2:2<=n){L:List RP}(hI:bO n L):∀(m:Nat)(h:Int),Vl n h (bf m (gY n)++L)=Vl n (h+m) L
 |0,h=>by rw[xG,jS,MC,oG]
 |m+1,h=>by rw[gH,gI,Fx hn h2 h (bO.app (.rep (qK n) m) hI),ze hn h2 hI m (h+1),show h+1+(m:Int)=h+((m+1:Nat):Int)by lia]
def zf{n:Nat}(hn:n<=7)(h:Int){L L':List RP}(hI:bO n L)(s:pD n L L'):Vl n h L=Vl n h L':=by unfold Vl;rw[abX hn hI s]
def Fy{n:Nat}(hn:n<=7)(h:Int){A B:List RP}(hA:bO n A)(hB:bO n B):Vl n h (A++Zr n::B)=Vl n h (A++B):=by unfold Vl;rw[ME hn hA hB]
def Fz{n:Nat}(hn:n<=7)(h:Int){A B:List RP}(hA:bO n A)(hB:bO n B)(k:Nat):Vl n h (A++(bf k (Zr n)++B))=Vl n h (A++B):=by unfold Vl;rw[HC hn hA hB]
def Ry{n:Nat}(hn:n<=7)(h:Int){L:List RP}(hI:bO n L):∃m k:Nat,(Vl n h L).1=h+m/\bO n (Vl n h L).2/\pD n L (bf m (gY n)++((Vl n h L).2++bf k (Zr n))):=by obtain⟨k,s,g⟩:=sP hn hI;refine⟨fW n (tW n L),k,rfl,(sj.drop _ g).iv,?_⟩;have e:=BN (n:=n) (tW n L);rw[<-bC];show pD n L (bf (fW n (tW n L)) (gY n)++(tW n L).drop (fW n (tW n L))++_);rw[<-e];exact s
def JC{n:Nat}(hn:n<=7)(h2:2<=n)(h:Int){L B:List RP}(hI:bO n L)(hB:bO n B):Vl n h (L++B)=Vl n (Vl n h L).1 ((Vl n h L).2++B):=by obtain⟨m,k,e,hT,s⟩:=Ry hn h hI;rw[e,zf hn h (hI.app hB) (s.SX B),bC,bC,ze hn h2 (bO.app hT (bO.app (.rep (eJ n) k) hB))];exact Fz hn _ hT hB k
def HD{n:Nat}{l:List Int}{p:Nat}(h:p<l.length):ai (fl n l) p=(n:Int)-1-ai l p:=by
 have:=gj h;unfold fl
 conv=>lhs;unfold ai
 rw[bG,this];rfl
def mC(n:Nat)(p:RP):RP:=(fl n p.1.reverse,fl n p.2.reverse)
def dS{n:Nat}{l:List Int}(hl:l.length=n){t:Nat}(h:t<n):ai (fl n l.reverse) t=(n:Int)-1-ai l (n-1-t):=by rw[HD (by rw[bE,hl];exact h),Fw (by rw[hl];exact h),hl]
def eY{n:Nat}{l:List Int}(hl:l.length=n):(fl n l.reverse).length=n:=by unfold fl;rw[aG,bE,hl]
def zg{n:Nat}{p:RP}(h:Iv n p.1 p.2):Iv n (mC n p).1 (mC n p).2:=by
 have g:∀{r s:List Int},Iv n r s->∀t,t<n->0<=ai (fl n r.reverse) t/\ai (fl n r.reverse) t<n/\ai (fl n s.reverse) (ai (fl n r.reverse) t).toNat=t:=λ{r s} h t ht=>by obtain⟨a,b,c⟩:=h.rs (n-1-t) (by lia);rw[dS h.lr ht];refine⟨by lia,by lia,?_⟩;rw[dS h.ls (by lia),show n-1-((n:Int)-1-ai r (n-1-t)).toNat=(ai r (n-1-t)).toNat by lia,c];lia
 exact⟨eY h.lr,eY h.ls,g h,g h.symm⟩
def FA{n:Nat}{p:RP}(h:Iv n p.1 p.2):mC n (mC n p)=p:=by
 have g:∀{l:List Int},l.length=n->fl n (fl n l.reverse).reverse=l:=λ{l} hl=>cC (by rw[eY (eY hl),hl]) λt ht=>by rw[eY (eY hl)]at ht;rw[dS (eY hl) ht,dS hl (by lia),show n-1-(n-1-t)=t by lia];lia
 exact Prod.ext (g h.lr) (g h.ls)
def MG{n:Nat}{l:List Int}(hl:l.length=n){j:Nat}(hj:j+1<n):fl n (iX l j).reverse=iX (fl n l.reverse) (n-2-j):=by
 have h1:(iX l j).length=n:=by rw[jV,hl]
 refine cC (by rw[eY h1,jV,eY hl]) λt ht=>?_;rw[eY h1]at ht;rw[dS h1 ht,nA _ _ (by rw[hl];exact hj),nA _ _ (by rw[eY hl];lia),dS hl (by lia),dS hl (by lia),dS hl ht]
 by_cases c:t=n-2-j
 ·rw[if_pos c,if_neg (by lia),if_pos (by lia),show n-1-(n-2-j+1)=j by lia]
 ·rw[if_neg c]
  by_cases d:t=n-2-j+1
  ·rw[if_pos d,if_pos (by lia),show n-1-(n-2-j)=j+1 by lia]
  ·rw[if_neg d,if_neg (by lia),if_neg (by lia)]
def MH{n:Nat}{l:List Int}(hl:l.length=n)(hb:∀t,t<n->0<=ai l t/\ai l t<n){j:Nat}(hj:j+1<n):fl n (wH l j).reverse=wH (fl n l.reverse) (n-2-j):=by
 have h1:(wH l j).length=n:=by rw[AF,hl]
 refine cC (by rw[eY h1,AF,eY hl]) λt ht=>?_;rw[eY h1]at ht;have:=hb (n-1-t) (by lia);rw[dS h1 ht,cM (by rw[hl];lia),cM (by rw[eY hl];exact ht),dS hl ht];unfold sg
 repeat' split
 all_goals lia
def WN{n:Nat}{p:RP}(h:Iv n p.1 p.2){j:Nat}(hj:j+1<n):mC n (tZ p j)=tZ (mC n p) (n-2-j):=
 Prod.ext (MG h.lr hj) (MH h.ls (λt ht=>⟨(h.sr t ht).1,(h.sr t ht).2.1⟩) hj)
def WO{n:Nat}{p:RP}(h:Iv n p.1 p.2){j:Nat}(hj:j+1<n):mC n (wJ p j)=wJ (mC n p) (n-2-j):=
 Prod.ext (MH h.lr (λt ht=>⟨(h.rs t ht).1,(h.rs t ht).2.1⟩) hj) (MG h.ls hj)
theorem bO.mC {n:Nat}{L:List RP}(h:bO n L):bO n (L.map (DL.mC n)):=λx hx=>by obtain⟨y,hy,rfl⟩:=dh.mp hx;exact zg (h y hy)
theorem zL.mC {n:Nat}{L L':List RP}(h:zL n L L'):bO n L->zL n (L.map (DL.mC n)) (L'.map (DL.mC n)):=by
 induction h with
 | @here p q B j hj h1 h2=>
  intro hI;have ip:=hI p (by simp);have iq:=hI q (by simp);simp_all only [bu];rw[WN ip hj,WO iq hj];refine .here (by lia) ?_ ?_
  ·show ai (fl n p.1.reverse) (n-2-j)<ai (fl n p.1.reverse) (n-2-j+1)
   rw[dS ip.lr (by lia),dS ip.lr (by lia),show n-1-(n-2-j)=j+1 by lia,show n-1-(n-2-j+1)=j by lia];lia
  ·show ai (fl n q.2.reverse) (n-2-j+1)<ai (fl n q.2.reverse) (n-2-j)
   rw[dS iq.ls (by lia),dS iq.ls (by lia),show n-1-(n-2-j)=j+1 by lia,show n-1-(n-2-j+1)=j by lia];lia
 |next _ ih=>
  intro hI;exact .next (ih λy hy=>hI y (by simp[hy]))
theorem pD.mC {n:Nat}{L L':List RP}(h:pD n L L'):bO n L->pD n (L.map (DL.mC n)) (L'.map (DL.mC n)):=by
 induction h with
 |nil=>exact λ_=>.nil _
 |cons s _ ih=>exact λhI=>.cons (s.mC hI) (ih (s.iv hI))
def Rz(n:Nat):mC n (gY n)=gY n:=by
 have:fl n (upTo n).reverse.reverse=(upTo n).reverse:=cC (by rw[eY (by rw[bE,aI]),bE,aI]) λt ht=>by rw[eY (by rw[bE,aI])]at ht;rw[dS (by rw[bE,aI]) ht,gX (by lia),gX ht];lia
 exact Prod.ext this this
def WQ(n:Nat):mC n (Zr n)=Zr n:=by
 have:fl n (upTo n).reverse=upTo n:=cC (by rw[eY (aI n),aI]) λt ht=>by rw[eY (aI n)]at ht;rw[dS (aI n) ht,aU (by lia),aU ht];lia
 exact Prod.ext this this
def JD{n:Nat}(hn:n<=7)(h2:2<=n)(h:Int){L B:List RP}(hI:bO n L)(hB:bO n B)(d:Int):Vl n (h+d) (L.map (mC n)++B)=Vl n ((Vl n h L).1+d) ((Vl n h L).2.map (mC n)++B):=by obtain⟨m,k,e,hT,s⟩:=Ry hn h hI;have s2:=s.mC hI;simp -implicitDefEqProofs only [b7,List.map_replicate,Rz,WQ]at s2;rw[e,zf hn _ (hI.mC.app hB) (s2.SX B),bC,bC,ze hn h2 (bO.app hT.mC (bO.app (.rep (eJ n) k) hB)),show h+d+(m:Int)=h+m+d by lia];exact Fz hn _ hT.mC hB k
def JE{n:Nat}{p q:RP}(h:Iv n p.1 p.2)(g:Iv n q.1 q.2)(e:∀t,t<n->ai p.2 t=ai q.2 t):p=q:=by have e2:p.2=q.2:=cC (by rw[h.ls,g.ls]) λt ht=>e t (by rw[h.ls]at ht;exact ht);refine lX h g (Iv.uniq (n:=n) (s:=q.2) ?_ g);rw[<-e2];exact h
def zY.all {n:Nat}{p q p' c' y:RP}(o:zY n p q p' c' y)(ip:Iv n p.1 p.2){t:Nat}(ht:t<n):ai c'.2 (ai p'.2 t).toNat=ai q.2 (ai p.2 t).toNat:=by have:=ip.sr t ht;rw[o.pp t ht,o.pq _ (by lia)]
def HE{n:Nat}(hn:n<=7){p q:RP}(ip:Iv n p.1 p.2)(iq:Iv n q.1 q.2)(hd:∀t,t<n->ai q.2 (ai p.2 t).toNat=(n:Int)-1-t):fU 50 p q=(gY n,Zr n):=by
 have s:=jY hn ip iq (eJ n);obtain⟨y,o⟩:=s.ex;have hp:(fU 50 p q).1=gY n:=lX s.ip (qK n) (y4 s.ip λj hj=>by
  obtain⟨a1,a2,a3⟩:=s.ip.rs j (by lia);obtain⟨b1,b2,b3⟩:=s.ip.rs (j+1) hj;have e1:=o.all ip (t:=(ai (fU 50 p q).1.1 j).toNat) (by lia);have e2:=o.all ip (t:=(ai (fU 50 p q).1.1 (j+1)).toNat) (by lia);rw[a3,bw,hd _ (by lia)]at e1;rw[b3,bw,hd _ (by lia)]at e2;refine jU λhc=>?_;have hne:ai (fU 50 p q).1.1 j≠ai (fU 50 p q).1.1 (j+1):=λz=>by rw[z,b3]at a3;lia
  have:=(gm s.ip s.ic).mp s.fr j hj (by lia);lia)
 refine Prod.ext hp (JE s.ic (eJ n) λt ht=>?_);have e:=o.all ip (t:=n-1-t) (by lia);rw[hp,hd _ (by lia)]at e;change ai (fU 50 p q).2.2 (ai (upTo n).reverse (n-1-t)).toNat=_ at e;rw[gX (by lia),show((n:Int)-1-((n-1-t:Nat):Int)).toNat=t by lia]at e;show _=ai (upTo n) t;rw[aU ht,e];lia
def RA{n:Nat}(hn:n<=7){c:RP}(ic:Iv n c.1 c.2):fU 50 c (gY n)=(gY n,mC n c):=by
 have s:=jY hn ic (qK n) (eJ n);obtain⟨y,o⟩:=s.ex;have hd:∀t,t<n->ai (fU 50 c (gY n)).2.2 (ai (fU 50 c (gY n)).1.2 t).toNat=(n:Int)-1-ai c.2 t:=λt ht=>by have:=ic.sr t ht;rw[o.all ic ht];show ai (upTo n).reverse _=_;rw[gX (by lia)];lia
 have hp:(fU 50 c (gY n)).1=gY n:=lX s.ip (qK n) (y4 s.ip λj hj=>by
  obtain⟨a1,a2,a3⟩:=s.ip.rs j (by lia);obtain⟨b1,b2,b3⟩:=s.ip.rs (j+1) hj;have e1:=hd (ai (fU 50 c (gY n)).1.1 j).toNat (by lia);have e2:=hd (ai (fU 50 c (gY n)).1.1 (j+1)).toNat (by lia);rw[a3,bw]at e1;rw[b3,bw]at e2;refine jU λhc=>?_;have hne:ai (fU 50 c (gY n)).1.1 j≠ai (fU 50 c (gY n)).1.1 (j+1):=λz=>by rw[z,b3]at a3;lia
  have h3:¬ai (fU 50 c (gY n)).2.2 (j+1)<ai (fU 50 c (gY n)).2.2 j:=λz=>by have:=(gm s.ip s.ic).mp s.fr j hj z;lia
  generalize hs1:(ai (fU 50 c (gY n)).1.1 j).toNat=s1 at*;generalize hs2:(ai (fU 50 c (gY n)).1.1 (j+1)).toNat=s2 at*;obtain⟨u1,u2,u3⟩:=ic.sr s1 (by lia);obtain⟨v1,v2,v3⟩:=ic.sr s2 (by lia);have ars:ai c.2 s1≠ai c.2 s2:=λz=>by rw[z,v3]at u3;lia
  have p1:=o.pp s1 (by lia);have p2:=o.pp s2 (by lia);rw[a3]at p1;rw[b3]at p2;have:=o.ap (ai c.2 s2).toNat (ai c.2 s1).toNat (by lia) (by lia) (by lia);rw[u3,v3]at this;lia)
 refine Prod.ext hp (JE s.ic (zg ic) λt ht=>?_);have e:=hd (n-1-t) (by lia);rw[hp]at e;change ai (fU 50 c (gY n)).2.2 (ai (upTo n).reverse (n-1-t)).toNat=_ at e;rw[gX (by lia),show((n:Int)-1-((n-1-t:Nat):Int)).toNat=t by lia]at e;rw[e];exact(dS ic.ls ht).symm
theorem FD{n:Nat}(hn:n<=7):∀(L:List RP),bO n L->pD n (L++[gY n]) (gY n::L.map (mC n))
 |[],_=>.nil _
 |c::L,hI=>by have ic:=hI c (by simp);have r:=(wK (n:=n) 50 c (gY n) ic (qK n)).sts (L.map (mC n));rw[RA hn ic]at r;exact((FD hn L λy hy=>hI y (by simp[hy])).next c).trans r
def RB(n:Nat)(r:RP):RP:=(fl n r.2,r.1.reverse)
def Y6{n:Nat}{r:RP}(h:Iv n r.1 r.2){t:Nat}(ht:t<n):ai (RB n r).1 t=(n:Int)-1-ai r.2 t:=HD (by rw[h.ls];exact ht)
def MI{n:Nat}{r:RP}(h:Iv n r.1 r.2){t:Nat}(ht:t<n):ai (RB n r).2 t=ai r.1 (n-1-t):=by show ai r.1.reverse t=_;rw[Fw (by rw[h.lr];exact ht),h.lr]
def nP{n:Nat}{r:RP}(h:Iv n r.1 r.2):Iv n (RB n r).1 (RB n r).2:=by
 refine⟨by show(fl n r.2).length=n;unfold fl;rw[aG,h.ls],by show r.1.reverse.length=n;rw[bE,h.lr],λt ht=>?_,λt ht=>?_⟩
 ·obtain⟨a,b,c⟩:=h.sr t ht
  rw[Y6 h ht];refine⟨by lia,by lia,?_⟩;rw[MI h (by lia),show n-1-((n:Int)-1-ai r.2 t).toNat=(ai r.2 t).toNat by lia,c]
 ·obtain⟨a,b,c⟩:=h.rs (n-1-t) (by lia)
  rw[MI h ht];refine⟨a,b,?_⟩;rw[Y6 h (by lia),c];lia
def RD{n:Nat}(hn:n<=7){r:RP}(h:Iv n r.1 r.2):fU 50 (RB n r) r=(gY n,Zr n):=HE hn (nP h) h λt ht=>by rw[MI h ht,(h.rs (n-1-t) (by lia)).2.2];lia
def RE{n:Nat}(hn:n<=7){r:RP}(h:Iv n r.1 r.2):fU 50 (mC n r) (RB n r)=(gY n,Zr n):=HE hn (zg h) (nP h) λt ht=>by have e:ai (mC n r).2 t=(n:Int)-1-ai r.2 (n-1-t):=dS h.ls ht;obtain⟨a,b,c⟩:=h.sr (n-1-t) (by lia);rw[e,MI h (by lia),show n-1-((n:Int)-1-ai r.2 (n-1-t)).toNat=(ai r.2 (n-1-t)).toNat by lia,c];lia
def Pa(n:Nat)(c:RP)(ω:Int×List RP):Int×List RP:=Vl n ω.1 (ω.2++[c])
def Ma(n:Nat)(r:RP)(ω:Int×List RP):Int×List RP:=Vl n (ω.1+ -1) (ω.2.map (mC n)++[RB n r])
structure Cv(n:Nat)(ω:Int×List RP):Prop where
 iv:bO n ω.2
 id:Vl n ω.1 ω.2=ω
def HF{n:Nat}(hn:n<=7)(h:Int){L:List RP}(hI:bO n L):Cv n (Vl n h L):=by
 obtain⟨k,s,g⟩:=sP hn hI;have g2:=sj.drop (fW n (tW n L)) g;have e:tW n (Vl n h L).2=(Vl n h L).2:=JB (k:=0) hn g2.iv g2 (by rw[xG,bq];exact .nil _);have c:fW n (Vl n h L).2=0:=by
  have hd:=Hj (n:=n) (tW n L);show fW n ((tW n L).drop (fW n (tW n L)))=0;cases e:(tW n L).drop (fW n (tW n L))with
  |nil=>rfl
  |cons p B=>
   unfold fW;rw[EZ (by simpa using hd p B e)];rfl
 refine⟨g2.iv,?_⟩;generalize Vl n h L=ω at e c;show(ω.1+((fW n (tW n ω.2):Nat):Int),(tW n ω.2).drop (fW n (tW n ω.2)))=ω;rw[e,c];exact Prod.ext (by show ω.1+((0:Nat):Int)=_;lia) rfl
section
variable{n:Nat}(hn:n<=7)(h2:2<=n)
include hn h2
theorem HG(h:Int){L:List RP}(hI:bO n L){c:RP}(ic:Iv n c.1 c.2):Vl n h (L++[c])=Pa n c (Vl n h L):=JC hn h2 h hI (.one ic)
theorem Y7(h:Int){L:List RP}(hI:bO n L){r:RP}(ir:Iv n r.1 r.2):Vl n (h+ -1) (L.map (mC n)++[RB n r])=Ma n r (Vl n h L):=JD hn h2 h hI (.one (nP ir)) (-1)
theorem afr{ω:Int×List RP}(hc:Cv n ω){c:RP}(ic:Iv n c.1 c.2):Cv n (Pa n c ω):=HF hn _ (hc.iv.app (.one ic))
theorem afs{ω:Int×List RP}(hc:Cv n ω){r:RP}(ir:Iv n r.1 r.2):Cv n (Ma n r ω):=HF hn _ (hc.iv.mC.app (.one (nP ir)))
theorem MJ{ω:Int×List RP}(hc:Cv n ω){p q:RP}(ip:Iv n p.1 p.2)(iq:Iv n q.1 q.2)(e:fU 50 p q=(gY n,Zr n)):Vl n (ω.1+ -1) (ω.2.map (mC n)++[p,q])=ω:=by
 have r:=(wK (n:=n) 50 p q ip iq).sts [];rw[e]at r;have s2:=(FD hn (ω.2.map (mC n)) hc.iv.mC).SX [Zr n];rw[bC]at s2;have hf:(ω.2.map (mC n)).map (mC n)=ω.2:=by
  rw[gK]
  conv=>rhs;rw[<-yt ω.2]
  exact se λx hx=>FA (hc.iv x hx)
 rw[hf]at s2;rw[zf hn _ (hc.iv.mC.app (.cons ip (.one iq))) ((pD.app _ r).trans s2),gI,Fx hn h2 _ (hc.iv.app (.one (eJ n))),show ω.1+ -1+1=ω.1 by lia];have:=Fy (A:=ω.2) (B:=[]) hn ω.1 hc.iv (λx hx=>nomatch hx);rw[this,bq];exact hc.id
theorem RG{ω:Int×List RP}(hc:Cv n ω){r:RP}(ir:Iv n r.1 r.2):Ma n r (Pa n r ω)=ω:=by have e:Pa n r ω=Vl n ω.1 (ω.2++[r]):=rfl;rw[e,<-Y7 hn h2 ω.1 (hc.iv.app (.one ir)) ir,b7,bC];exact MJ hn h2 hc (zg ir) (nP ir) (RE hn ir)
theorem aft{ω:Int×List RP}(hc:Cv n ω){r:RP}(ir:Iv n r.1 r.2):Pa n r (Ma n r ω)=ω:=by have e:Ma n r ω=Vl n (ω.1+ -1) (ω.2.map (mC n)++[RB n r]):=rfl;rw[e,<-HG hn h2 _ (hc.iv.mC.app (.one (nP ir))) ir,bC];exact MJ hn h2 hc (nP ir) ir (RD hn ir)
end
def Xr(n a:Nat):RP:=tZ (Zr n) a
def yu{n a:Nat}(h:a+1<n):Iv n (Xr n a).1 (Xr n a).2:=iJ (p:=Zr n) (eJ n) h
def abY{n a:Nat}(h:a+1<n):wJ (Xr n a) a=Zr n:=by
 have iz:Iv n (Zr n).1 (Zr n).2:=eJ n;refine JE (iK (yu h) h) iz λt ht=>?_;show ai (iX (wH (upTo n) a) a) t=ai (upTo n) t;rw[gO (by rw[AF,aI];exact h),cM (by rw[aI];exact BL h ht),aU (BL h ht),aU ht];unfold sw sg
 repeat' split
 all_goals lia
def afu{n a:Nat}(h:a+1<n):ai (Xr n a).2 (a+1)<ai (Xr n a).2 a:=by
 show ai (wH (upTo n) a) (a+1)<ai (wH (upTo n) a) a;rw[cM (by rw[aI];exact h),cM (by rw[aI];lia),aU h,aU (by lia)];unfold sg
 repeat' split
 all_goals lia
def abZ{n:Nat}(hn:n<=7)(h2:2<=n){ω:Int×List RP}(hc:Cv n ω){c:RP}(ic:Iv n c.1 c.2){a:Nat}(ha:a+1<n)(hu:ai c.1 a<ai c.1 (a+1)):Pa n (Xr n a) (Pa n c ω)=Pa n (tZ c a) ω:=by
 have e:Pa n c ω=Vl n ω.1 (ω.2++[c]):=rfl;rw[e,<-HG hn h2 ω.1 (hc.iv.app (.one ic)) (yu ha),bC];have s:pD n [c,Xr n a] [tZ c a,Zr n]:=by have:=zL.here (B:=[]) ha hu (afu ha);rw[abY ha]at this;exact .cons this (.nil _)
 rw[show[c]++[Xr n a]=[c,Xr n a]from rfl,zf hn ω.1 (hc.iv.app (.cons ic (.one (yu ha)))) (pD.app ω.2 s)];have:=Fy (A:=ω.2++[tZ c a]) (B:=[]) hn ω.1 (hc.iv.app (.one (iJ ic ha))) (λx hx=>nomatch hx);rw[bC,bq]at this;exact this
def Y8(n:Nat)(f:Nat->Nat):S n (λi=>f (n-1-i))=S n f:=by
 induction n with
 |zero=>rfl
 |succ n ih=>
  rw[LS,nJ,<-ih];rw[show n+1-1-0=n by lia,Um];congr 1;exact jW λi _=>by rw[show n+1-1-(i+1)=n-1-i by lia]
def T2(n:Nat):Nat:=S n λq=>S n λp=>if p<q then 1 else 0
def RH{n:Nat}{r s:List Int}(h:Iv n r s):jX (fl n s)+jX s=T2 n:=by
 rw[C8,C8,sO,h.ls,<-G8];unfold T2;refine jW λq hq=>?_;rw[<-G8];refine jW λp hp=>?_
 by_cases hpq:p<q
 ·rw[if_pos hpq,if_pos hpq,if_pos hpq,yq (by rw[h.ls];exact hq),yq (by rw[h.ls];exact hp)]
  have hne:ai s p≠ai s q:=λz=>by have:=h.OC hp hq z;lia
  repeat' split
  all_goals lia
 ·rw[if_neg hpq,if_neg hpq,if_neg hpq]
def MK{n:Nat}{r s:List Int}(h:Iv n r s):jX s.reverse+jX s=T2 n:=by
 have e1:jX s.reverse=S n λq=>S n λp=>if p<q then(if ai s p<ai s q then 1 else 0)else 0:=by
  rw[C8,bE,h.ls,QB n n λq p=>if p<q then(if ai s p<ai s q then 1 else 0)else 0,<-Y8 n λp=>S n λq=>if p<q then(if ai s p<ai s q then 1 else 0)else 0];refine jW λq hq=>?_;rw[<-Y8 n λq_1=>if n-1-q<q_1 then(if ai s (n-1-q)<ai s q_1 then 1 else 0)else 0];refine jW λp hp=>?_;rw[jk (by rw[h.ls];exact hq),jk (by rw[h.ls];exact hp),h.ls]
  by_cases hpq:p<q
  ·have hq2:n-1-q<n-1-p:=by lia
   rw[if_pos hpq,if_pos hq2]
  ·have hq2:¬n-1-q<n-1-p:=by lia
   rw[if_neg hpq,if_neg hq2]
 rw[e1,C8,h.ls,<-G8];unfold T2;refine jW λq hq=>?_;rw[<-G8];refine jW λp hp=>?_
 by_cases hpq:p<q
 ·rw[if_pos hpq,if_pos hpq,if_pos hpq]
  have hne:ai s p≠ai s q:=λz=>by have:=h.OC hp hq z;lia
  repeat' split
  all_goals lia
 ·rw[if_neg hpq,if_neg hpq,if_neg hpq]
def SY(k:Int):Int:=if 0<k then 1 else-1
def zh(w:List Int):Int:=(w.map SY).sum
def FE(a b:List Int):zh (a++b)=zh a+zh b:=by unfold zh;rw[b7,LR]
def pN(h:Int)(o:List Int):List Int:=if h%2=0 then o else o.reverse
def HH(h:Int)(o:List Int):(pN h o).length=o.length:=by unfold pN;split<;>simp
def jB(o r:List Int):(cmp o r).length=r.length:=by unfold cmp;exact aG _
theorem ML:∀(w o:List Int),(pK w o).length=o.length
 |[],o=>rfl
 |k::w,o=>by show(pK w (iX o _)).length=_;rw[ML w,jV]
def ab0{n:Nat}{o:List Int}(h:o.length=n):cmp o (upTo n)=o:=by refine cC (by rw[jB,aI,h]) λt ht=>?_;rw[jB,aI]at ht;rw[gV (by rw[aI];exact ht),aU ht,bw]
def MM{n:Nat}{o:List Int}(h:o.length=n)(w:List Int):pK w o=cmp o (pK w (upTo n)):=by
 conv=>lhs;rw[<-ab0 h]
 unfold cmp;exact Fp _ w _
def yv(a b o:List Int):pK (a++b) o=pK b (pK a o):=qk
def ab1{n:Nat}{o r s:List Int}(h:o.length=n)(i:Iv n r s):cmp o.reverse (fl n s)=cmp o s:=by refine cC (by rw[jB,jB,sO]) λt ht=>?_;rw[jB,sO,i.ls]at ht;obtain⟨a1,a2,_⟩:=i.sr t ht;rw[gV (by rw[sO,i.ls];exact ht),gV (by rw[i.ls];exact ht),yq (by rw[i.ls];exact ht),jk (by rw[h];lia),h];congr 1;lia
def RJ{n:Nat}{r s:List Int}(h:Iv n r s)(hr:Iv n r.reverse (tE r.reverse)):jX (fl n r.reverse)=jX r:=by have e1:=RH hr.symm;have e2:=MK h.symm;lia
def HJ{n:Nat}{o r s:List Int}(h:o.length=n)(i:Iv n r s):cmp o.reverse (fl n r.reverse)=(cmp o r).reverse:=by
 refine cC (by rw[jB,sO,bE,bE,jB]) λt ht=>?_;rw[jB,sO,bE,i.lr]at ht;obtain⟨a1,a2,_⟩:=i.rs (n-1-t) (by lia);have e1:ai r.reverse t=ai r (n-1-t):=by rw[jk (by rw[i.lr];exact ht),i.lr]
 have e2:ai (cmp o r).reverse t=ai (cmp o r) (n-1-t):=by rw[jk (by rw[jB,i.lr];exact ht),jB,i.lr]
 rw[gV (by rw[sO,bE,i.lr];exact ht),yq (by rw[bE,i.lr];exact ht),e1,e2,jk (by rw[h];lia),h,gV (by rw[i.lr];lia)];congr 1;lia
def nT(n:Nat)(h:Int)(r:List Int):List Int:=if h%2=0 then r else fl n r.reverse
def N3{n:Nat}(h:Int){r:List Int}(hr:bY n r):bY n (nT n h r):=by
 unfold nT;split
 ·exact hr
 ·exact Ro (Mz hr)
def N4{n:Nat}(h:Int){r:List Int}(hr:bY n r):jX (nT n h r)=jX r:=by
 unfold nT;split
 ·rfl
 ·exact RJ (si hr) (si (Mz hr))
def N5{n:Nat}(h g:Int){o r:List Int}(ho:o.length=n)(hr:bY n r):cmp (pN (g+h) o) (nT n h r)=pN h (cmp (pN g o) r):=by
 unfold nT pN
 by_cases c:h%2=0
 ·rw[if_pos c,if_pos c]
  by_cases d:g%2=0
  ·rw[if_pos d,if_pos (by lia)]
  ·rw[if_neg d,if_neg (by lia)]
 ·rw[if_neg c,if_neg c]
  by_cases d:g%2=0
  ·rw[if_pos d,if_neg (by lia),HJ ho (si hr)]
  ·rw[if_neg d,if_pos (by lia)]
   have:=HJ (o:=o.reverse) (by rw[bE];exact ho) (si hr);rw[lE]at this;exact this
abbrev hS(qs:List (Int×List Int)):Int:=(qs.map (·.1)).sum
def dF(n:Nat):List (Int×List Int)->List (List Int)
 |[]=>[]
 |q::qs=>nT n (hS qs) q.2::dF n qs
def RK(o:List Int)(qs:List (Int×List Int)):List Int:=qs.foldl (λo q=>cmp (pN q.1 o) q.2) o
theorem vL(n:Nat):∀qs,(dF n qs).length=qs.length
 |[]=>rfl
 |q::qs=>by show(dF n qs).length+1=_;rw[vL n qs];rfl
theorem zj{n:Nat}:∀(qs:List (Int×List Int)),(∀q∈qs,bY n q.2)->∀r∈dF n qs,bY n r
 |[],_,r,hr=>nomatch hr
 |q::qs,h,r,hr=>by
  rcases aO.mp hr with rfl|hr
  ·exact N3 _ (h q (by simp))
  ·exact zj qs (λx hx=>h x (by simp[hx])) r hr
theorem Dl{n:Nat}:∀(qs:List (Int×List Int))(o:List Int),(∀q∈qs,bY n q.2)->o.length=n->CG (pN (hS qs) o) (dF n qs)=RK o qs
 |[],o,_,_=>by show pN 0 o=o;rfl
 |q::qs,o,h,ho=>by have hq:=h q (by simp);have ih:=Dl qs (cmp (pN q.1 o) q.2) (λx hx=>h x (by simp[hx])) (by rw[jB,hq.len]);show CG (cmp (pN (hS (q::qs)) o) (nT n (hS qs) q.2)) (dF n qs)=RK (cmp (pN q.1 o) q.2) qs;rw[<-ih,show hS (q::qs)=q.1+hS qs from rfl,N5 _ _ ho hq]
theorem Dm{n:Nat}:∀(qs:List (Int×List Int)),(∀q∈qs,bY n q.2)->oH (dF n qs)=oH (qs.map (·.2))
 |[],_=>rfl
 |q::qs,h=>by
  have ih:=Dm qs λx hx=>h x (by simp[hx]);have e:∀(r:List Int)(R:List (List Int)),oH (r::R)=jX r+oH R:=λr R=>by unfold oH;rw[bu,om]
  show oH (nT n (hS qs) q.2::dF n qs)=oH (q.2::qs.map (·.2));rw[e,e,ih,N4 _ (h q (by simp))]
abbrev wo(k:Int):Int:=if k<0 then-k else k
def RL{n:Nat}{k:Int}(h:gZ n k):∃a:Nat,wo k=(a:Int)+1/\a+1<n:=by
 unfold gZ at h;unfold wo;split
 ·exact⟨(-k-1).toNat,by lia,by lia⟩
 ·exact⟨(k-1).toNat,by lia,by lia⟩
def RM{n:Nat}{p:List Int}(h:∀k∈p,gZ n k):Ps n (p.map wo):=λk hk=>by obtain⟨x,hx,rfl⟩:=dh.mp hk;exact RL (h x hx)
def RN(a b:Bool):zE (.bl a) (.bl b)=aa (.bl (!(a==b))):=rfl
def WR:Lr []=aa []:=rfl
def HK{α:Type}(l:List α)(x y:α):(l++[x]).set l.length y=l++[y]:=by simp
structure Gp(n:Nat)(p:List Int):Prop where
 ne:p≠[]
 x:∀k∈p,gZ n k
 sg:(∀k∈p,0<k)\/∀k∈p,k<0
 le:∃z,fV (p.map wo) (upTo n)=aa z
def Mx(n:Nat):List (List Int)->Prop
 |p::q::B=>(∀k q',q=k::q'->¬Gp n (p++[k]))/\Mx n (q::B)
 |_=>True
theorem Mx.snoc {n:Nat}{k:Int}:∀{A:List (List Int)}{p:List Int},Mx n (A++[p])->¬Gp n (p++[k])->Mx n (A++[p]++[[k]])
 |[],p,_,h=>⟨λx q e=>by cases e;exact h,trivial⟩
 |[a],p,g,h=>⟨g.1,λx q e=>by cases e;exact h,trivial⟩
 |a::b::A,p,g,h=>⟨g.1,Mx.snoc (A:=b::A) g.2 h⟩
theorem Mx.last {n:Nat}{k:Int}:∀{A:List (List Int)}{p:List Int},p≠[]->Mx n (A++[p])->Mx n (A++[p++[k]])
 |[],p,_,_=>trivial
 |[a],p,hp,g=>⟨λx q e=>by
  cases p with
  |nil=>exact absurd rfl hp
  |cons y p=>cases e;exact g.1 _ _ rfl,trivial⟩
 |a::b::A,p,hp,g=>⟨g.1,Mx.last (A:=b::A) hp g.2⟩
structure ab2(n i:Nat)(u:List Int)(kL:List (List Int))(o:List Int)(s:Bool):Prop where
 len:kL.length<=i
 lo:o.length=n
 good:∀p∈kL,Gp n p/\p.length<=i
 fla:kL.flatten=u
 mx:Mx n kL
 last:kL=[]\/∃ini cur,kL=ini++[cur]/\(∀k∈cur,s=decide (0<k))/\fV (cur.map wo) (upTo n)=aa o
def AV{i:Nat}{env:DE}{a v:Int}{l:List Int}(h:0<=a)(h2:a<l.length):GD i env (.int v) (bK l) (.int a)=.ok (.nx (env.set i (.own (bK (l.set a.toNat v))))):=by rw[GG h (by rw[cZ];exact h2)];unfold bK;rw[xE]
def MN{l:List Int}{a:Nat}(h:a+1<l.length):(l.set (a+1) (ai l a)).set a (ai l (a+1))=iX l a:=by
 refine cC (by rw[kW,kW,jV]) λj hj=>?_;rw[kW,kW]at hj;rw[BH (by rw[kW];exact hj),BH hj,nA _ _ h]
 repeat' split
 all_goals first|rfl|lia|(subst_vars;rfl)
def ab3{n i:Nat}(hn:n<=7)(hi:i<1000){kL:List (List Int)}{o:List Int}{s:Bool}{u:List Int}(J:ab2 n i u kL o s){k:Int}(hk:gZ n k)(s1 s5 s6 s7:Sl):
  ∃afv o' s' t5 t6 t7,uw (.int k) [.val (.int n),s1,.deep (.ls kL),.own (bK o),.val (.bl s),s5,s6,s7]=.ok (.nx [.val (.int n),s1,.deep (.ls afv),.own (bK o'),.val (.bl s'),t5,t6,t7])/\ab2 n (i+1) (u++[k]) afv o' s':=by
 obtain⟨a,ea,ha⟩:=RL hk;have lo:=J.lo;have hlen:=J.len;have at1:kU (bK o) ((a:Int)+1-1)=aa (.int (ai o a)):=by rw[jy (by lia) (by lia),show((a:Int)+1-1).toNat=a by lia]
 have at2:kU (bK o) ((a:Int)+1)=aa (.int (ai o (a+1))):=by rw[jy (by lia) (by lia),show((a:Int)+1).toNat=a+1 by lia]
 have ku:kU (bK (upTo n)) ((a:Int)+1-1)=aa (.int (ai (upTo n) a)):=by rw[jy (by lia) (by rw[aI];lia),show((a:Int)+1-1).toNat=a by lia]
 have ku2:kU (bK (upTo n)) ((a:Int)+1)=aa (.int (ai (upTo n) (a+1))):=by rw[jy (by lia) (by rw[aI];lia),show((a:Int)+1).toNat=a+1 by lia]
 have hgk:Gp n [k]:=⟨by simp,λx hx=>by rw[cL.mp hx];exact hk,by
  unfold gZ at hk
  by_cases c:0<k
  ·exact .inl λx hx=>by rw[cL.mp hx];exact c
  ·exact .inr λx hx=>by rw[cL.mp hx];lia,⟨iX (upTo n) a,by show fV [wo k] (upTo n)=_;rw[ea,kI (n:=n),if_neg (by rw[aU (by lia),aU (by lia)];lia)];rfl⟩⟩
 have hkl:fV [wo k] (upTo n)=aa (iX (upTo n) a):=by rw[ea,kI (n:=n),if_neg (by rw[aU (by lia),aU (by lia)];lia)];rfl
 by_cases hnew:kL=[]\/s≠decide (0<k)\/ai o (a+1)<ai o a
 ·have hmx:Mx n (kL++[[k]]):=by
   rcases J.last with rfl|⟨ini,cur,rfl,hs,hl⟩
   ·trivial
   ·refine Mx.snoc J.mx λgp=>?_
    obtain⟨gc,_⟩:=J.good cur (by simp);rcases hnew with h|h|h
    ·simp at h
    ·obtain⟨y,afw,ec⟩:∃y afw,cur=y::afw:=by
      cases cur with
      |nil=>exact absurd rfl gc.ne
      |cons y c=>exact⟨y,c,rfl⟩
     have hy:=hs y (by rw[ec];simp);refine h ?_;rw[hy];rcases gp.sg with z|z
     ·rw[decide_eq_true (z y (by rw[ec];simp)),decide_eq_true (z k (by simp))]
     ·have z1:=z y (by rw[ec];simp)
      have z2:=z k (by simp);rw[decide_eq_false (show¬0<y by lia),decide_eq_false (show¬0<k by lia)]
    ·obtain⟨q,hq⟩:=gp.le
     rw[b7,bu,pU,zc,hl,ea]at hq;have Oq:fV [(a:Int)+1] o=aa q:=hq;rw[kI (n:=n),if_pos h]at Oq;cases Oq
  refine⟨kL++[[k]],iX (upTo n) a,decide (0<k),.val (.int k),.val (.int ((a:Int)+1)),.val (.int (ai (upTo n) (a+1))),?_,⟨by simp;lia,by rw[jV,aI],λp hp=>?_,by rw[ER,J.fla];simp,hmx,.inr ⟨kL,[k],rfl,λx hx=>by rw[cL.mp hx],hkl⟩⟩⟩
  ·have RO:(if(((kL.length:Nat):Int)==0)=true then R.ok true else if(!(s==decide (0<k)))=true then R.ok true else R.ok (decide (ai o (a+1)<ai o a)):R Bool)=.ok true:=by
    rcases hnew with h|h|h
    ·rw[if_pos (by rw[h];rfl)]
    ·split
     ·rfl
     ·rw[if_pos (by simpa using h)]
    ·rw[decide_eq_true h]
     repeat' split
     all_goals rfl
   unfold uw;dsimp [mS,mD,mF,dZ,aT,reduceAdd,reduceSub,reduceEqDiff,kB,Rq,RN,ea,at1,at2,aG,RO,pB,pC,WR];rw[MB (by lia)];dsimp [mS,mD,mF,dZ,aT,reduceAdd,reduceSub,reduceEqDiff,pB,pC,zd];rw[kJ n hn];dsimp [mS,mD,mF,dZ,aT,reduceAdd,reduceSub,reduceEqDiff,pB,pC,zd];rw[MA (by simp)];dsimp [mS,mD,mF,dZ,aT,reduceAdd,reduceSub,reduceEqDiff,ku,ku2];rw[AV (by lia) (by rw[aI];lia)];dsimp [mS,mD,mF,dZ,aT,reduceAdd,reduceSub,reduceEqDiff];rw[AV (by lia) (by rw[kW,aI];lia)];dsimp [mS,mD,mF,dZ,aT,reduceAdd,reduceSub,reduceEqDiff];rw[show((a:Int)+1).toNat=a+1 by lia,show((a:Int)+1-1).toNat=a by lia,MN (by rw[aI];lia),HK]
  ·rcases b8.mp hp with h|h
   ·exact⟨(J.good p h).1,by have:=(J.good p h).2;lia⟩
   ·rw[cL.mp h]
    exact⟨hgk,by simp⟩
 ·have h1:kL≠[]:=λz=>hnew (.inl z)
  have h2:s=decide (0<k):=jU λz=>hnew (.inr (.inl z));have h3:¬ai o (a+1)<ai o a:=λz=>hnew (.inr (.inr z));obtain⟨ini,cur,rfl,hs,hl⟩:=J.last.resolve_left h1;obtain⟨gc,gl⟩:=J.good cur (by simp);have afx:fV ((cur++[k]).map wo) (upTo n)=aa (iX o a):=by rw[b7,bu,pU,zc,hl,ea];show fV [(a:Int)+1] o=_;rw[kI (n:=n),if_neg h3];rfl
  refine⟨ini++[cur++[k]],iX o a,s,.val (.int k),.val (.int ((a:Int)+1)),.val (.int (ai o (a+1))),?_,⟨by simp at hlen⊢;lia,by rw[jV,lo],λp hp=>?_,by have:=J.fla;rw[ER]at this⊢;rw[<-this];simp,Mx.last gc.ne J.mx,.inr ⟨ini,cur++[k],rfl,λx hx=>?_,afx⟩⟩⟩
  ·have RO:(if((((ini++[cur]).length:Nat):Int)==0)=true then R.ok true else if(!(s==decide (0<k)))=true then R.ok true else R.ok (decide (ai o (a+1)<ai o a)):R Bool)=.ok false:=by
    rw[if_neg (by simp;lia),h2,if_neg (by simp),decide_eq_false h3]
   unfold uw;dsimp [mS,mD,mF,dZ,aT,reduceAdd,reduceSub,reduceEqDiff,kB,Rq,RN,ea,at1,at2,aG,RO,pB,pC,zd];rw[MA (by lia)];dsimp [mS,mD,mF,dZ,aT,reduceAdd,reduceSub,reduceEqDiff,at1,at2];rw[AV (by lia) (by lia)];dsimp [mS,mD,mF,dZ,aT,reduceAdd,reduceSub,reduceEqDiff];rw[AV (by lia) (by rw[kW];lia)];dsimp [mS,mD,mF,dZ,aT,reduceAdd,reduceSub,reduceEqDiff];rw[show((a:Int)+1).toNat=a+1 by lia,show((a:Int)+1-1).toNat=a by lia,MN (by lia),HK]
  ·rcases b8.mp hp with h|h
   ·exact⟨(J.good p (by simp[h])).1,by have:=(J.good p (by simp[h])).2;lia⟩
   ·rw[cL.mp h]
    refine⟨⟨by simp,λx hx=>?_,?_,⟨_,afx⟩⟩,by rw[b9,pV];lia⟩
    ·rcases b8.mp hx with q|q
     ·exact gc.x x q
     ·rw[cL.mp q];exact hk
    ·have UA:=hk
     unfold gZ at UA
     by_cases c:0<k
     ·refine .inl λx hx=>?_
      rcases b8.mp hx with q|q
      ·have:=hs x q
       rw[h2,decide_eq_true c]at this;exact of_decide_eq_true this.symm
      ·rw[cL.mp q];exact c
     ·refine .inr λx hx=>?_
      rcases b8.mp hx with q|q
      ·have:=hs x q
       rw[h2,decide_eq_false c]at this;have:=of_decide_eq_false this.symm;have:=(gc.x x q).1;lia
      ·rw[cL.mp q];lia
  ·rcases b8.mp hx with q|q
   ·exact hs x q
   ·rw[cL.mp q];exact h2
def ab4{n:Nat}(hn:n<=7){w:List Int}(hw:∀k∈w,gZ n k)(hl:w.length<=1000):∃kL:List (List Int),G6 [.int n,.lst (bK w)]=.ok kL/\kL.flatten=w/\kL.length<=w.length/\(∀p∈kL,Gp n p/\p.length<=w.length)/\Mx n kL:=by
 unfold G6 Yy mT;dsimp [mS,mD,mF,dZ,aT,reduceAdd,reduceSub,reduceEqDiff];rw[kJ n hn];dsimp;obtain⟨⟨kL,o,s,t5,t6,t7⟩,e,hj⟩:=yU (S:=List (List Int)×List Int×Bool×Sl×Sl×Sl) (b:=uw) (λi q=>ab2 n i (w.take i) q.1 q.2.1 q.2.2.1)
  (λq=>[.val (.int n),.val (.lst (bK w)),.deep (.ls q.1),.own (bK q.2.1),.val (.bl q.2.2.1),q.2.2.2.1,q.2.2.2.2.1,q.2.2.2.2.2]) (bK w) 0 ([],upTo n,false,.no,.no,.no)
  ⟨aY _,aI n,(λp hp=>nomatch hp),rfl,trivial,.inl rfl⟩ (by rintro j ⟨kL,o,s,t5,t6,t7⟩ x hs hx;obtain⟨k,hk,rfl⟩:=LL hx;have Ws:j<w.length:=(bz.mp hk).1;obtain⟨p1,o1,s1,u5,u6,u7,e,hJ⟩:=ab3 hn (show 0+j<1000 by lia) hs (hw k (dm hk)) (.val (.lst (bK w))) t5 t6 t7;refine⟨(p1,o1,s1,u5,u6,u7),e,?_⟩;rw[jv]at hJ⊢;rw[G0 hk];exact hJ)
 dsimp only at e hj;rw[e];rw[jv,cZ]at hj;dsimp [pB,pC,Qd];exact⟨kL,rfl,by rw[hj.fla,xD],hj.len,hj.good,hj.mx⟩
def N6(w:List Int)(hw:w.length<=1000):uq [.lst (bK w)]=.ok (bK (w.reverse.map λk=> -k)):=by unfold uq G3;dsimp [mS,mD,mF,dZ,aT,reduceAdd,reduceSub,reduceEqDiff,EF,ik];rw[rZ (λk=> -k) w.reverse λk _=>⟨_,kB _ _ _,rfl,rfl⟩];dsimp [R.gU];rw[gM (by rw[aG,bE];lia)];dsimp [nS]
def t8(q:Int×List Int):D:=.tup [.int q.1,.lst (bK q.2)]
def SpA(n:Nat)(p:List Int)(q:Int×List Int):Prop:=(q.1=0/\(∀k∈p,0<k)/\fV p (upTo n)=aa q.2)\/(q.1= -1/\(∀k∈p,k<0)/\∃z,fV (p.reverse.map λk=> -k) (upTo n)=aa z/\Iv n z (pK (p.map wo) (upTo n))/\q.2=fl n (pK (p.map wo) (upTo n)))
structure StP(n:Nat)(p:List Int)(q:Int×List Int):Prop where
 h:q.1=0\/q.1= -1
 r:bY n q.2
 o:∀o:List Int,o.length=n->cmp (pN q.1 o) q.2=pK (p.map wo) o
 c:q.1*(T2 n:Int)+(jX q.2:Int)=zh p
 a:SpA n p q
theorem RQ:∀{p:List Int},(∀k∈p,0<k)->zh p=p.length
 |[],_=>rfl
 |k::p,h=>by have ih:=RQ (p:=p) λx hx=>h x (by simp[hx]);unfold zh at ih⊢;rw[bu,om,ih,bQ];unfold SY;rw[if_pos (h k (by simp))];lia
theorem RT:∀{p:List Int},(∀k∈p,k<0)->zh p= -(p.length:Int)
 |[],_=>rfl
 |k::p,h=>by have ih:=RT (p:=p) λx hx=>h x (by simp[hx]);have:=h k (by simp);unfold zh at ih⊢;rw[bu,om,ih,bQ];unfold SY;rw[if_neg (by lia)];lia
def WS{n:Nat}(hn:n<=7){p:List Int}(g:Gp n p)(hl:p.length<=1000):∃q,qZ [.int n,.lst (bK p)]=.ok (t8 q)/\StP n p q:=by
 obtain⟨k0,p',rfl⟩:=List.exists_cons_of_ne_nil g.ne;obtain⟨z,hz⟩:=g.le;have hp:=RM g.x;have at0:kU (bK (k0::p')) 0=aa (.int k0):=by rw[EB,Lx (by decide)];rfl
 unfold qZ C6;dsimp [mS,mD,mF,dZ,aT,reduceAdd,reduceSub,reduceEqDiff,at0];rcases g.sg with hs|hs
 ·have e:(k0::p').map wo=k0::p':=by
   conv=>rhs;rw[<-yt (k0::p')]
   refine se λx hx=>?_;have:=hs x hx;show(if x<0 then-x else x)=x;rw[if_neg (by lia)]
  rw[e]at hp hz;dsimp [mS,mD,mF,dZ,aT,reduceAdd,reduceSub,reduceEqDiff,decide_eq_true (hs k0 (by simp)),Dj hn hp hz];obtain⟨w1,w2⟩:=uL (k0::p') _ _ z hp (tM n) hz;refine⟨(0,z),rfl,⟨.inl rfl,jF (My hp hz),λo ho=>?_,?_,.inl ⟨rfl,hs,hz⟩⟩⟩
  ·rw[e,MM ho,<-w1]
   rfl
  ·rw[RQ hs]
   dsimp only;rw[w2,Wx n (by lia)];lia
 ·have e:(k0::p').map wo=(k0::p').map λk=> -k:=se λx hx=>by
   have:=hs x hx;show(if x<0 then-x else x)= -x;rw[if_pos this]
  rw[e]at hp hz;have hk0:=hs k0 (by simp);have hr:=Hz hp hz;rw[<-oh]at hr;have hp2:Ps n ((k0::p').reverse.map λk=> -k):=λx hx=>hp x (by rw[oh,qi]at hx;exact hx)
  dsimp [mS,mD,mF,dZ,aT,reduceAdd,reduceSub,reduceEqDiff,decide_eq_false (show¬0<k0 by lia),N6 _ hl,Dj hn hp2 hr];have iv:=My hp2 hr;unfold fj qF;dsimp [mS,mD,mF,dZ,aT,reduceAdd,reduceSub,reduceEqDiff,Di iv hn];have es:pK ((k0::p').reverse.map λk=> -k).reverse (upTo n)=pK ((k0::p').map wo) (upTo n):=by rw[e,oh,lE]
  rw[es]at iv⊢;obtain⟨w1,w2⟩:=uL ((k0::p').map λk=> -k) _ _ z hp (tM n) hz;rw[<-e]at w1;refine⟨(-1,fl n (pK ((k0::p').map wo) (upTo n))),rfl,⟨.inr rfl,Ro (jF iv.symm),λo ho=>?_,?_,.inr ⟨rfl,hs,_,hr,iv,rfl⟩⟩⟩
  ·show cmp o.reverse (fl n (pK ((k0::p').map wo) (upTo n)))=_
   rw[ab1 ho iv,<-MM ho]
  ·rw[RT hs]
   dsimp only;have e1:=RH iv;rw[<-w1]at e1⊢;rw[w2,Wx n (by lia),aG]at e1;lia
theorem HL:∀(a b o z:List Int),fV (a++b) o=aa z->∃z',fV a o=aa z'
 |[],b,o,z,_=>⟨o,rfl⟩
 |k::a,b,o,z,h=>by
  rw[gI]at h;unfold fV at h⊢;split at h
  ·cases h
  ·rename_i c
   rw[if_neg c];exact HL a b _ z h
def RU{n:Nat}{a b:List Int}(h:Gp n (a++b))(ha:a≠[]):Gp n a:=⟨ha,λk hk=>h.x k (by simp[hk]),h.sg.imp (λz k hk=>z k (by simp[hk])) (λz k hk=>z k (by simp[hk])),by obtain⟨z,e⟩:=h.le;rw[b7]at e;exact HL _ _ _ _ e⟩
def RV{n:Nat}{a:List Int}(h:Gp n a):Gp n a.reverse:=⟨by simpa using h.ne,λk hk=>h.x k (by simpa using hk),h.sg.imp (λz k hk=>z k (by simpa using hk)) (λz k hk=>z k (by simpa using hk)),by obtain⟨z,e⟩:=h.le;rw[oh];exact⟨_,Hz (RM h.x) e⟩⟩
def ab5{n:Nat}{a b:List Int}(h:Gp n (a++b))(hb:b≠[]):Gp n b:=by
 have h1:=RV h;rw[AL]at h1;have h2:=RV (RU h1 (by simpa using hb))
 rwa [lE]at h2
def Bl(n:Nat)(bs:List (List Int)):Prop:=∀b∈bs,Gp n b\/b=[]
theorem MO{n:Nat}:∀(bs:List (List Int))(x y:List Int),bs.flatten=x++y->Bl n bs->∃cs:List (List Int),cs.length<=bs.length/\cs.flatten=y/\Bl n cs
 |[],x,y,e,_=>⟨[],aY _,by rw[ES]at e;rw[(FG.mp e.symm).2];rfl,λb hb=>(nomatch hb)⟩
 |b::bs,x,y,e,h=>by
  rw[fM]at e;rcases WT.mp e with⟨c,e1,e2⟩|⟨c,e1,e2⟩
  ·obtain⟨cs,h1,h2,h3⟩:=MO bs c y e2 λz hz=>h z (by simp[hz])
   exact⟨cs,by rw[bQ];lia,h2,h3⟩
  ·refine⟨c::bs,by simp,by rw[fM,e2],λz hz=>?_⟩
   rcases aO.mp hz with rfl|hz
   ·by_cases hz:z=[]
    ·exact .inr hz
    ·rcases h b (by simp)with g|g
     ·rw[e1]at g
      exact .inl (ab5 g hz)
     ·rw[g]at e1
      exact .inr (FG.mp e1.symm).2
   ·exact h z (by simp[hz])
theorem JF{n:Nat}:∀(kL bs:List (List Int)),(∀p∈kL,Gp n p)->Mx n kL->Bl n bs->kL.flatten=bs.flatten->kL.length<=bs.length
 |[],bs,_,_,_,_=>iR _
 |p::ps,[],hp,_,_,e=>by rw[fM,ES]at e;exact absurd (FG.mp e).1 (hp p (by simp)).ne
 |p::ps,b::bs,hp,hm,hb,e=>by
  have hm2:Mx n ps:=by
   cases ps with
   |nil=>trivial
   |cons q B=>exact hm.2
  rw[fM,fM]at e;rw[bQ,bQ];rcases WT.mp e with⟨x,e1,e2⟩|⟨x,e1,e2⟩
  ·cases x with
   |nil=>
    have:=JF ps bs (λz hz=>hp z (by simp[hz])) hm2 (λz hz=>hb z (by simp[hz])) e2;lia
   |cons k x=>
    exfalso;cases ps with
    |nil=>cases e2
    |cons q B=>
     cases q with
     |nil=>exact(hp [] (by simp)).ne rfl
     |cons y q=>
      rw[fM,gI,gI]at e2;injection e2 with e3 e4;subst e3;refine hm.1 y q rfl ?_;have g:=hb b (by simp);rcases g with g|g
      ·rw[e1,show p++y::x=p++[y]++x by simp]at g
       exact RU g (by simp)
      ·rw[g]at e1
       have:=(FG.mp e1.symm).2;cases this
  ·obtain⟨cs,h1,h2,h3⟩:=MO bs x ps.flatten e2 λz hz=>hb z (by simp[hz])
   have:=JF ps cs (λz hz=>hp z (by simp[hz])) hm2 h3 h2.symm;lia
inductive F2 {α β:Type} (R:α->β->Prop):List α->List β->Prop
 |nil:F2 R [] []
 |cons {a:α} {b:β} {l:List α} {m:List β}:R a b->F2 R l m->F2 R (a::l) (b::m)
theorem B3{n:Nat}(hn:n<=7):∀(ps:List (List Int)),(∀p∈ps,Gp n p/\p.length<=1000)->∃qs:List (Int×List Int),dO (bN 0) km fJ (lV 1 [.int n]) (ps.map λns=>D.lst (ns.map D.int))=.ok (qs.map t8)/\qs.length=ps.length/\
  (∀q∈qs,(q.1=0\/q.1= -1)/\bY n q.2)/\(∀o:List Int,o.length=n->RK o qs=pK (ps.flatten.map wo) o)/\hS qs*(T2 n:Int)+(oH (qs.map (·.2)):Int)=zh ps.flatten/\F2 (StP n) ps qs
 |[],_=>⟨[],rfl,rfl,(λq hq=>nomatch hq),(λo _=>rfl),(by show(0:Int)*_+0=0;rw[WU];rfl),.nil⟩
 |p::ps,h=>by
  obtain⟨qs,e1,e2,e3,e8,e9,e10⟩:=B3 hn ps λx hx=>h x (by simp[hx]);obtain⟨q,e4,e5⟩:=WS hn (h p (by simp)).1 (h p (by simp)).2;refine⟨q::qs,?_,by rw[bQ,bQ,e2],λx hx=>?_,λo ho=>?_,?_,.cons e5 e10⟩
  ·rw[bu]
   unfold dO;rw[e1];have e6:fJ [.val (.lst (bK p)),.val (.int n)]=.ok (t8 q):=by unfold fJ;dsimp [mS,mD,mF,dZ,aT,reduceAdd,reduceSub,reduceEqDiff,e4]
   rw[kB,R.cD,show km _=.ok true from rfl,R.cD,if_pos rfl];have e7:fJ (List.set (lV 1 [.int n]) 0 (.val (.lst (p.map D.int))))=.ok (t8 q):=e6;rw[e7];rfl
  ·rcases aO.mp hx with rfl|hx
   ·exact⟨e5.h,e5.r⟩
   ·exact e3 x hx
  ·show RK (cmp (pN q.1 o) q.2) qs=_
   rw[e5.o o ho,e8 _ (by rw[ML,ho]),fM,b7,yv]
  ·have hc:=e5.c
   have e:oH (q.2::qs.map (·.2))=jX q.2+oH (qs.map (·.2)):=by unfold oH;rw[bu,om]
   show(q.1+hS qs)*(T2 n:Int)+(oH (q.2::qs.map (·.2)):Int)=_;rw[e,fM,FE,<-hc,<-e9,MP];lia
theorem MQ:∀(l:List Int)(a:Nat),iX (iX l a) a=l
 |[],a=>by cases a<;>rfl
 |[x],0=>rfl
 |x::y::l,0=>rfl
 |x::l,a+1=>by rw[wj,wj,MQ l a]
def WV(k:Int):wo (-k)=wo k:=by unfold wo;split<;>split<;>lia
def WW{k:Int}(h:k≠0):SY (-k)= -SY k:=by unfold SY;split<;>split<;>lia
def N7{k:Int}(h:k≠0)(s:List Int):zh (jM s k)=zh s+SY k/\∀o,pK ((jM s k).map wo) o=pK ((s++[k]).map wo) o:=by
 unfold jM;have e1:∀k,zh [k]=SY k:=λk=>by simp[zh]
 split
 ·rename_i hl
  have hne:s≠[]:=λz=>by rw[z]at hl;cases hl
  have Cp:s.dropLast++[-k]=s:=by have:=Mg hne;rw[Mh hne]at hl;rw[cj.inj hl]at this;exact this
  have h2:zh s=zh s.dropLast+SY (-k):=by
   conv=>lhs;rw[<-Cp]
   rw[FE,e1]
  refine⟨by rw[h2,WW h];lia,λo=>?_⟩
  conv=>rhs;rw[<-Cp]
  rw[b7,b7,yv,yv];show _=iX (iX _ (wo (-k)-1).toNat) (wo k-1).toNat;rw[WV,MQ]
 ·exact⟨by rw[FE,e1],λo=>rfl⟩
theorem Dn:∀(w s:List Int),(∀k∈w,k≠0)->zh (iG s w)=zh s+zh w/\∀o,pK ((iG s w).map wo) o=pK ((s++w).map wo) o
 |[],s,_=>⟨by simp[iG,zh],λo=>by rw[bq];rfl⟩
 |k::w,s,h=>by
  obtain⟨p1,p2⟩:=N7 (h k (by simp)) s;obtain⟨t1,t2⟩:=Dn w (jM s k) λx hx=>h x (by simp[hx]);have e:zh (k::w)=SY k+zh w:=by unfold zh;rw[bu,om]
  refine⟨?_,λo=>?_⟩
  ·show zh (iG (jM s k) w)=_
   rw[t1,p1,e];lia
  ·show pK ((iG (jM s k) w).map wo) o=_
   rw[t2,b7,yv,p2,<-yv,<-b7,bC];rfl
theorem F2.len {α β:Type}{R:α->β->Prop}:∀{l:List α}{m:List β},F2 R l m->l.length=m.length
 |_,_,.nil=>rfl
 |_,_,.cons _ h=>by rw[bQ,bQ,F2.len h]
def Blk(n:Nat)(w:List Int)(m:Nat):Prop:=∃bs:List (List Int),bs.flatten=w/\bs.length<=m/\Bl n bs
def Dq{n:Nat}{w:List Int}(hw:∀k∈w,gZ n k):Blk n w w.length:=⟨w.map λk=>[k],by induction w with
  |nil=>rfl
  |cons k w ih=>rw[bu,fM,ih λx hx=>hw x (by simp[hx])];rfl,by rw[aG];exact aY _,λb hb=>by
  obtain⟨k,hk,rfl⟩:=dh.mp hb;have hk:=hw k hk;obtain⟨a,ea,ha⟩:=RL hk;refine .inl ⟨by simp,λx hx=>by rw[cL.mp hx];exact hk,?_,iX (upTo n) a,?_⟩
  ·unfold gZ at hk
   by_cases c:0<k
   ·exact .inl λx hx=>by rw[cL.mp hx];exact c
   ·exact .inr λx hx=>by rw[cL.mp hx];lia
  ·show fV [wo k] (upTo n)=_
   rw[ea,kI (n:=n),if_neg (by rw[aU (by lia),aU (by lia)];lia)];rfl⟩
def RW{n:Nat}(hn:n<=7){w:List Int}(hw:∀k∈w,gZ n k)(hl:w.length<=900)(hB:Blk n (iG [] w) 40):∃qs:List (Int×List Int),eI [.int n,.lst (bK w)]=.ok (.lst (qs.map t8))/\(qs.length<=w.length/\qs.length<=40)/\
  (∀q∈qs,(q.1=0\/q.1= -1)/\bY n q.2)/\(∀o:List Int,o.length=n->RK o qs=pK (w.map wo) o)/\hS qs*(T2 n:Int)+(oH (qs.map (·.2)):Int)=zh w/\∃kL:List (List Int),kL.flatten=iG [] w/\(∀p∈kL,Gp n p)/\F2 (StP n) kL qs:=by
 have Xx:=uM w [];simp -implicitDefEqProofs only [gJ]at Xx;obtain⟨t1,t2⟩:=Dn w [] λk hk=>(hw k hk).1;obtain⟨kL,e1,ef,e2,e3,e0⟩:=ab4 hn (w:=iG [] w) (λk hk=>by
  rcases yr w [] k hk with h|h
  ·cases h
  ·exact hw k h) (by lia)
 obtain⟨qs,e4,e5,e6,e7,e8,e10⟩:=B3 hn kL λp hp=>⟨(e3 p hp).1,by have:=(e3 p hp).2;lia⟩
 rw[ef]at e7 e8;have hg:kL.length<=40:=by obtain⟨bs,b1,b2,b3⟩:=hB;have:=JF kL bs (λp hp=>(e3 p hp).1) e0 b3 (ef.trans b1.symm);lia
 have hg2:=e10.len;refine⟨qs,?_,⟨by lia,by lia⟩,e6,λo ho=>by rw[e7 o ho,t2];rfl,(by rw[e8,t1];show 0+zh w=_;lia),kL,ef,λp hp=>(e3 p hp).1,e10⟩;unfold eI tw;dsimp [mS,mD,mF,dZ,aT,reduceAdd,reduceSub,reduceEqDiff,Jw w (by lia),e1,R.gU,ik,e4];rw[lA (by rw[aG];exact big (by lia))];dsimp [mS,mD,mF,dZ,aT,reduceAdd,reduceSub,reduceEqDiff]
def WX{n:Nat}(hn:n<=7)(h:Int){r:List Int}(hr:bY n r):jI [.int h,.lst (bK r)]=.ok (bK (nT n h r)):=by
 unfold jI wg nT;dsimp [mS,mD,mF,dZ,aT,reduceAdd,reduceSub,reduceEqDiff];rw[lj _ _ (by decide)];dsimp
 by_cases c:h%2=0
 ·rw[if_pos c]
  dsimp [show(h%2==0)=true by rw[beq_iff_eq];exact c,nS]
 ·rw[if_neg c]
  dsimp [show(h%2==0)=false by rw[beq_eq_false_iff_ne];exact c,Ju hr.len hn,nS]
def MR{n:Nat}(hn:n<=7){qs:List (Int×List Int)}(hq:∀q∈qs,bY n q.2)(hl:qs.length<=100):bx [.lst (qs.map t8)]=.ok (dF n qs):=by
 unfold bx nv mT;dsimp [mS,mD,mF,dZ,aT,reduceAdd,reduceSub,reduceEqDiff];obtain⟨⟨rs,h,t3⟩,e,hj1,Wo⟩:=yU (S:=List (List Int)×Int×Sl) (b:=gS) (λi q=>q.1=(dF n (qs.drop (qs.length-i))).reverse/\q.2.1=hS (qs.drop (qs.length-i)))
  (λq=>[.val (.lst (qs.map t8)),.deep (.ls q.1),.val (.int q.2.1),q.2.2]) (qs.map t8).reverse 0 ([],0,.no) ⟨by rw[Lv,Eu];rfl,by rw[Lv,Eu];rfl⟩ (by
   rintro j ⟨rs,h,t3⟩ x ⟨hs1,hs2⟩ hx;rw[jv]at hs1 hs2⊢;dsimp only at hs1 hs2;have Ws:j<(qs.map t8).reverse.length:=(bz.mp hx).1;rw[bE,aG]at Ws;rw[rT (by rw[aG];exact Ws),aG,bG,aQ (show qs.length-1-j<qs.length by lia)]at hx;have Cn:x=t8 (qs[qs.length-1-j]'(by lia)):=(cj.inj hx).symm;have hd:qs.drop (qs.length-(j+1))=(qs[qs.length-1-j]'(by lia))::qs.drop (qs.length-j):=by rw[show qs.length-(j+1)=qs.length-1-j by lia,K6 (by lia),show qs.length-1-j+1=qs.length-j by lia]
   have hqm:(qs[qs.length-1-j]'(by lia))∈qs:=xN _;generalize (qs[qs.length-1-j]'(by lia))=q at Cn hd hqm;obtain⟨hh,r⟩:=q;subst Cn;have e1:=WX hn h (hq _ hqm);have hlen:rs.length<=100:=by rw[hs1,bE,vL,nY];lia
   refine⟨(rs++[nT n h r],h+hh,.val (t8 (hh,r))),?_,?_,?_⟩
   ·unfold gS
    have a1:kU [D.int hh,.lst (bK r)] 1=aa (.lst (bK r)):=rfl;have a0:kU [D.int hh,.lst (bK r)] 0=aa (.int hh):=rfl;dsimp [mS,mD,mF,dZ,aT,reduceAdd,reduceSub,reduceEqDiff,kB,t8,pB,pC,a1,a0,e1,wF];rw[MB (by lia)];dsimp [a0,NG]
   ·show rs++[nT n h r]=_
    rw[hd,hs1,hs2];show _=(nT n (hS (qs.drop (qs.length-j))) r::dF n (qs.drop (qs.length-j))).reverse;rw[kX]
   ·show h+hh=_
    rw[hd,hs2];show _=hh+hS (qs.drop (qs.length-j));lia)
 dsimp only at e hj1 Wo;rw[e];rw[jv,bE,aG,Ay,Et]at hj1;dsimp [pB,pC,Qd,hj1,lE]
theorem HM{n:Nat}(hn:n<=7):∀(rs:List (List Int))(R:List RP),(∀r∈rs,bY n r)->sj n R->(∀o:List Int,o.length=n->CG o ((rs.foldl (λR r=>i6 n R (r,tE r)) R).map (·.1))=CG o (R.map (·.1)++rs))/\oH ((rs.foldl (λR r=>i6 n R (r,tE r)) R).map (·.1))=oH (R.map (·.1))+oH rs
 |[],R,_,_=>⟨λo _=>by rw[bq];rfl,by simp[oH]⟩
 |r::rs,R,hr,h=>by
  have iv:=si (hr r (by simp));obtain⟨a1,a2⟩:=Wk hn (tM n) (Wx n (by lia)) (c:=(r,tE r)) h.iv iv;obtain⟨b1,b2⟩:=HM hn rs (i6 n R (r,tE r)) (λx hx=>hr x (by simp[hx])) (Ji hn (tM n) h iv);have e:oH (r::rs)=jX r+oH rs:=by unfold oH;rw[bu,om]
  refine⟨λo ho=>?_,?_⟩
  ·show CG o ((rs.foldl (λR r=>i6 n R (r,tE r)) (i6 n R (r,tE r))).map (·.1))=_
   rw[b1 o ho,sy,a1 o ho,<-sy,bC];rfl
  ·show oH ((rs.foldl (λR r=>i6 n R (r,tE r)) (i6 n R (r,tE r))).map (·.1))=_
   rw[b2,a2,e];show _+jX r+_=_;lia
def HN(qs:List (Int×List Int)):dO (bN 0) ko kq (lV 1 []) (qs.map t8)=.ok (bK (qs.map (·.1))):=by
 rw[qR (λd=>match d with
  |.tup (x::_)=>x
  |_=>.non) _ λx hx=>by obtain⟨q,hq,rfl⟩:=dh.mp hx;exact⟨_,kB _ _ _,rfl,rfl⟩]
 unfold bK;rw[gK,gK];rfl
def RX(n:Nat):Iv n (gY n).1 (gY n).2:=by
 have c:∀p,p<n->ai (upTo n).reverse p=((n-1-p:Nat):Int):=λp hp=>by rw[jk (by rw[aI];exact hp),aI,aU (by lia)]
 have h:∀p,p<n->0<=ai (upTo n).reverse p/\ai (upTo n).reverse p<n/\ai (upTo n).reverse (ai (upTo n).reverse p).toNat=p:=λp hp=>by rw[c p hp,bw,c _ (by lia)];exact⟨by lia,by lia,by lia⟩
 exact⟨by show(upTo n).reverse.length=n;rw[bE,aI],by show(upTo n).reverse.length=n;rw[bE,aI],h,h⟩
def RY{n:Nat}{o:List Int}(h:o.length=n):cmp o (upTo n).reverse=o.reverse:=by refine cC (by rw[jB,bE,bE,aI,h]) λt ht=>?_;rw[jB,bE,aI]at ht;rw[gV (by rw[bE,aI];exact ht),jk (by rw[aI];exact ht),aI,aU (by lia),bw,jk (by rw[h];exact ht),h]
def HP(a b:Int)(o:List Int):pN a (pN b o)=pN (a+b) o:=by
 unfold pN
 by_cases c:a%2=0
 ·rw[if_pos c]
  by_cases d:b%2=0
  ·rw[if_pos d,if_pos (by lia)]
  ·rw[if_neg d,if_neg (by lia)]
 ·rw[if_neg c]
  by_cases d:b%2=0
  ·rw[if_pos d,if_neg (by lia)]
  ·rw[if_neg d,if_pos (by lia),lE]
theorem Dr{n:Nat}:∀(m:Nat)(o:List Int),o.length=n->CG o ((bf m (gY n)).map (·.1))=pN m o
 |0,o,_=>rfl
 |m+1,o,h=>by rw[gH,bu];show CG (cmp o (upTo n).reverse) _=_;rw[RY h,Dr m _ (by rw[bE];exact h),show o.reverse=pN 1 o from rfl,HP];congr 1
theorem Ds{n:Nat}(hc:jX (upTo n).reverse=T2 n):∀m:Nat,(oH ((bf m (gY n)).map (·.1)):Int)=m*(T2 n:Int)
 |0=>by rw[show((0:Nat):Int)=0 from rfl,WU];rfl
 |m+1=>by
  have e:∀(r:List Int)(R:List (List Int)),oH (r::R)=jX r+oH R:=λr R=>by unfold oH;rw[bu,om]
  rw[gH,bu,e];show((jX (upTo n).reverse+oH _:Nat):Int)=_;rw[hc,MS,Ds hc m,MS,MP];lia
def RZ{n:Nat}(hn:n<8):jX (upTo n).reverse=T2 n:=by have:=MK (tM n);rw[Wx n hn]at this;lia
structure FmS(n:Nat)(w:List Int)(h:Int)(R:List RP):Prop where
 ln:sj n R
 nh:∀x∈R,x≠gY n
 or:CG (pN h (upTo n)) (R.map (·.1))=pK (w.map wo) (upTo n)
 cr:h*(T2 n:Int)+(oH (R.map (·.1)):Int)=zh w
 bd: -(w.length:Int)<=h/\h<=w.length
 le:R.length<=40
 ll:R.length<=w.length
theorem zI.app:∀{A B:List RP},zI (A++B)->zI A
 |[],B,_=>trivial
 |[p],B,_=>trivial
 |q::p::A,B,h=>⟨h.1,zI.app (A:=p::A) h.2⟩
def wL(r:List Int):RP:=(r,tE r)
def MT{n:Nat}(h1:1<=n)(hn:n<=7){w:List Int}(hw:∀k∈w,gZ n k)(hl:w.length<=900)(hB:Blk n (iG [] w) 40):∃h R,y7 [.int n,.lst (bK w)]=.ok (.tup [.int h,.lst (R.map λp=>.lst (bK p.1))])/\FmS n w h R/\∃(qs:List (Int×List Int))(kL:List (List Int)),(h,R)=Vl n (hS qs) ((dF n qs).map wL)/\(∀q∈qs,(q.1=0\/q.1= -1)/\bY n q.2)/\kL.flatten=iG [] w/\(∀p∈kL,Gp n p)/\F2 (StP n) kL qs:=by
 obtain⟨qs,e1,⟨e2,e0⟩,e3,e7,e8,kL,g1,g2,g3⟩:=RW hn hw hl hB;have hq2:∀q∈qs,bY n q.2:=λq hq=>(e3 q hq).2;have e4:=MR hn hq2 (by lia);have e5:=vL n qs;have e6:=zj qs hq2;have l0:sj n []:=⟨(λx hx=>nomatch hx),trivial,(λx hx=>nomatch hx)⟩
 have hL:sj n (dQ n (dF n qs)):=L9 hn (tM n) (dF n qs) [] e6 l0;obtain⟨p1,p2⟩:=HM hn (dF n qs) [] e6 l0;have hcl:=x8 n (dF n qs) [];rw[gJ]at hcl;have Ww:(dQ n (dF n qs)).length<=qs.length:=by show((dF n qs).foldl (λR r=>i6 n R (r,tE r)) []).length<=qs.length;lia
 have p1':∀o:List Int,o.length=n->CG o ((dQ n (dF n qs)).map (·.1))=CG o (dF n qs):=p1;have p2':oH ((dQ n (dF n qs)).map (·.1))=oH (dF n qs):=by have:oH ((dQ n (dF n qs)).map (·.1))=0+oH (dF n qs):=p2;lia
 have hsb: -(qs.length:Int)<=hS qs/\hS qs<=0:=by
  clear e0 g3 e1 e4 e5 e6 hL p1 p2 hcl Ww p1' p2' e7 e8 e2 hq2
  induction qs with
  |nil=>exact⟨Ft _,Ft _⟩
  |cons q qs ih=>
   have:=ih λx hx=>e3 x (by simp[hx]);have:=(e3 q (by simp)).1;rw[show hS (q::qs)=q.1+hS qs from rfl,bQ];lia
 have hV:tW n ((dF n qs).map wL)=dQ n (dF n qs):=by unfold tW dQ;rw[WY];rfl
 generalize hR:dQ n (dF n qs)=C at*;have hcn:fW n C<=C.length:=List.Sublist.length_le (List.takeWhile_sublist _);have Cp:=BN (n:=n) C;have hrest:=NU (RX n) hL;refine⟨fW n C+hS qs,C.drop (fW n C),?_,⟨⟨λx hx=>hL.iv x (FH hx),?_,λx hx=>hL.ns x (FH hx)⟩,hrest,?_,?_,by lia,by rw[nY];lia,by rw[nY];lia⟩,qs,kL,(by unfold Vl;rw[hV,WZ]),e3,g1,g2,g3⟩
 ·unfold y7 Jk
  dsimp [mS,mD,mF,dZ,aT,reduceAdd,reduceSub,reduceEqDiff,e1];have e9:jZ [.int n,.lst (qs.map t8)]=R.ne (Hk [.val (.int n),.val (.lst (qs.map t8)),.no,.no,.val (Hh n C)]>=>aK):=by show R.ne (R.bind (bx [.lst (qs.map t8)]) _)=_;rw[e4,R.cD];refine congrArg R.ne ((if_pos ⟨⟨by lia,by lia⟩,by lia,e6⟩).trans ?_);rw[bw,hR]
  rw[e9];unfold Hk Hh;have a0:∀(x y:D),kU [x,y] 0=aa x:=λ_ _=>rfl;have a1:∀(x y:D),kU [x,y] 1=aa y:=λ_ _=>rfl;dsimp [mS,mD,mF,dZ,aT,reduceAdd,reduceSub,reduceEqDiff,a0,a1,ik,HN,R.gU];rw[gM (by rw[aG];lia)];dsimp [mS,mD,mF,dZ,aT,reduceAdd,reduceSub,reduceEqDiff,wb,wF,pW]
 ·have:=hL.lw
  rw[Cp,AL]at this;exact this.app
 ·have h2:=p1' (pN (hS qs) (upTo n)) (by rw[HH,aI])
  rw[Dl qs (upTo n) hq2 (aI n),e7 _ (aI n)]at h2;rw[<-h2]
  conv=>rhs;rw[Cp]
  rw[b7,sy,Dr _ _ (by rw[HH,aI]),HP]
 ·rw[Dm qs hq2]at p2'
  have h3:oH (C.map (·.1))=oH ((bf (fW n C) (gY n)).map (·.1))+oH ((C.drop (fW n C)).map (·.1)):=by
   conv=>lhs;rw[Cp]
   rw[b7,x9]
  have h4:=Ds (RZ (show n<8 by lia)) (fW n C);rw[<-e8,<-p2',h3,MS,h4,MP];lia
def act(n:Nat)(k:Int)(ω:Int×List RP):Int×List RP:=if 0<k then Pa n (Xr n (k-1).toNat) ω else Ma n (Xr n (-k-1).toNat) ω
def fE(n:Nat)(w:List Int)(ω:Int×List RP):Int×List RP:=w.foldl (λω k=>act n k ω) ω
def jl(n:Nat)(u v:List Int)(ω:Int×List RP):fE n (u++v) ω=fE n v (fE n u ω):=qk
section
variable{n:Nat}(hn:n<=7)(h2:2<=n)
include hn h2
theorem AW{k:Int}(hk:gZ n k)(h:0<k)(ω:Int×List RP):∃a:Nat,k=(a:Int)+1/\a+1<n/\act n k ω=Pa n (Xr n a) ω/\act n (-k) ω=Ma n (Xr n a) ω:=by unfold gZ at hk;refine⟨(k-1).toNat,by lia,by lia,if_pos h,?_⟩;unfold act;rw[if_neg (by lia),show- -k-1=k-1 by lia]
theorem JG{k:Int}(hk:gZ n k){ω:Int×List RP}(hc:Cv n ω):Cv n (act n k ω):=by
 unfold gZ at hk;unfold act;split
 ·exact afr hn h2 hc (yu (by lia))
 ·exact afs hn h2 hc (yu (by lia))
theorem qx:∀(w:List Int){ω:Int×List RP},(∀k∈w,gZ n k)->Cv n ω->Cv n (fE n w ω)
 |[],_,_,hc=>hc
 |k::w,ω,h,hc=>qx w (ω:=act n k ω) (λx hx=>h x (by simp[hx])) (JG hn h2 (h k (by simp)) hc)
theorem MU{k:Int}(hk:gZ n k){ω:Int×List RP}(hc:Cv n ω):act n (-k) (act n k ω)=ω:=by
 have UA:=hk;unfold gZ at UA
 by_cases h:0<k
 ·obtain⟨a,e,ha,e1,_⟩:=AW hn h2 hk h ω
  obtain⟨b,e',_,_,e2⟩:=AW hn h2 hk h (act n k ω);obtain rfl:a=b:=by lia
  rw[e2,e1];exact RG hn h2 hc (yu ha)
 ·have hm:gZ n (-k):=by unfold gZ;lia
  obtain⟨a,e,ha,_,e1⟩:=AW hn h2 hm (by lia) ω;obtain⟨b,e',_,e2,_⟩:=AW hn h2 hm (by lia) (act n k ω);obtain rfl:a=b:=by lia
  rw[MV]at e1;rw[e2,e1];exact aft hn h2 hc (yu ha)
end
section
variable{n:Nat}(hn:n<=7)(h2:2<=n)
include hn h2
end
def Lk(n:Nat)(u v:List Int):Prop:=∀ω,Cv n ω->fE n u ω=fE n v ω
theorem Lk.symm {n:Nat}{u v:List Int}(h:Lk n u v):Lk n v u:=λω hc=>(h ω hc).symm
def Lk.refl (n:Nat)(u:List Int):Lk n u u:=λ_ _=>rfl
theorem Lk.trans {n:Nat}{u v w:List Int}(h:Lk n u v)(g:Lk n v w):Lk n u w:=λω hc=>(h ω hc).trans (g ω hc)
section
variable{n:Nat}(hn:n<=7)(h2:2<=n)
include hn h2
theorem Lk.mid {u v:List Int}(h:Lk n u v){a b:List Int}(ha:∀k∈a,gZ n k):Lk n (a++u++b) (a++v++b):=λω hc=>by rw[jl,jl,jl,jl,h _ (qx hn h2 a ha hc)]
theorem ab6{k:Int}(hk:gZ n k):Lk n [k,-k] []:=λω hc=>MU hn h2 hk hc
end
def gA{n:Nat}{r:List Int}(h:bY n r):Iv n (wL r).1 (wL r).2:=si h
def jC{n:Nat}:Cv n ((0:Int),[]):=⟨λx hx=>(nomatch hx),rfl⟩
section
variable{n:Nat}(hn:n<=7)(h2:2<=n)
include hn h2
theorem R0{ω:Int×List RP}(hc:Cv n ω):Pa n (Zr n) ω=ω:=by have:=Fy (A:=ω.2) (B:=[]) hn ω.1 hc.iv (λx hx=>nomatch hx);rw[bq]at this;exact this.trans hc.id
theorem B4{ω:Int×List RP}(hc:Cv n ω):∀(w:List Int)(c:RP)(z:List Int),Ps n w->Iv n c.1 c.2->fV w c.1=aa z->fE n w (Pa n c ω)=Pa n (wL z) ω/\bY n z
 |[],c,z,_,ic,h=>by obtain rfl:c.1=z:=cj.inj h;have hr:=jF ic;refine⟨?_,hr⟩;show Pa n c ω=_;rw[lX ic (gA hr) rfl];rfl
 |k::w,c,z,hw,ic,h=>by
  obtain⟨a,rfl,ha⟩:=hw k (by simp);unfold fV at h;split at h
  ·cases h
  ·rename_i hc2
   rw[show((a:Int)+1-1).toNat=a by lia,show((a:Int)+1).toNat=a+1 by lia]at hc2;rw[show((a:Int)+1-1).toNat=a by lia]at h;have hne:=Y2 ic ha;have hlt:ai c.1 a<ai c.1 (a+1):=by have:¬ai c.1 (a+1)<ai c.1 a:=λz=>hc2 (.inr z);lia
   have ih:=B4 hc w (tZ c a) z (λx hx=>hw x (by simp[hx])) (iJ ic ha) h;refine⟨?_,ih.2⟩;show fE n w (act n ((a:Int)+1) (Pa n c ω))=_;have e:act n ((a:Int)+1) (Pa n c ω)=Pa n (tZ c a) ω:=by unfold act;rw[if_pos (by lia),show((a:Int)+1-1).toNat=a by lia];exact abZ hn h2 hc ic ha hlt
   rw[e];exact ih.1
theorem yw:∀(p:List Int){ω:Int×List RP},(∀k∈p,gZ n k)->Cv n ω->fE n (p.reverse.map λk=> -k) (fE n p ω)=ω
 |[],_,_,_=>rfl
 |k::p,ω,h,hc=>by have hk:=h k (by simp);rw[kX,b7,jl];show act n (-k) (fE n (p.reverse.map λk=> -k) (fE n p (act n k ω)))=ω;rw[yw p (λx hx=>h x (by simp[hx])) (JG hn h2 hk hc)];exact MU hn h2 hk hc
end
def dG(n:Nat)(g:Int)(L:List RP):List RP:=if g%2=0 then L else L.map (mC n)
def jG(n:Nat)(q:Int×List Int)(ω:Int×List RP):Int×List RP:=Vl n (ω.1+q.1) (dG n q.1 ω.2++[wL q.2])
section
variable{n:Nat}(hn:n<=7)(h2:2<=n)
include hn h2
theorem N8{p:List Int}{q:Int×List Int}(g:Gp n p)(s:StP n p q){ω:Int×List RP}(hc:Cv n ω):jG n q ω=fE n p ω:=by
 rcases s.a with⟨e,hs,hz⟩|⟨e,hs,z,hz,iv,e2⟩
 ·have hp:Ps n p:=λk hk=>by
   have h1:=g.x k hk;have h2:=hs k hk;unfold gZ at h1;exact⟨(k-1).toNat,by lia,by lia⟩
  have h:=B4 hn h2 hc p (Zr n) q.2 hp (eJ n) hz;rw[R0 hn h2 hc]at h;rw[h.1];unfold jG dG Pa;rw[e,if_pos (by decide),oG]
 ·have hx:∀k∈p.reverse.map (λk=> -k),gZ n k:=λk hk=>by
   obtain⟨x,hx,rfl⟩:=dh.mp hk;have:=g.x x (by simpa using hx);unfold gZ at*;lia
  have hp:Ps n (p.reverse.map λk=> -k):=λk hk=>by have h1:=hx k hk;obtain⟨x,hx,rfl⟩:=dh.mp hk;have h2:=hs x (by simpa using hx);unfold gZ at h1;exact⟨(-x-1).toNat,by lia,by lia⟩
  have c1:=qx hn h2 p g.x hc;have h:=B4 hn h2 c1 (p.reverse.map λk=> -k) (Zr n) z hp (eJ n) hz;rw[R0 hn h2 c1,yw hn h2 p g.x hc]at h;have iz:=gA h.2;have e3:fE n p ω=Ma n (wL z) ω:=by have:=RG hn h2 c1 iz;rw[<-h.1]at this;exact this.symm
  rw[e3];have ez:wL z=(z,pK (p.map wo) (upTo n)):=lX iz iv rfl;have e4:wL q.2=RB n (wL z):=by rw[ez,e2];have ic:=nP (r:=(z,pK (p.map wo) (upTo n))) iv;exact lX (gA (jF ic)) ic rfl
  unfold jG dG Ma;rw[e,e4,if_neg (by decide)]
theorem B5:∀{ps:List (List Int)}{qs:List (Int×List Int)}{ω:Int×List RP},F2 (StP n) ps qs->(∀p∈ps,Gp n p)->Cv n ω->qs.foldl (λω q=>jG n q ω) ω=fE n ps.flatten ω
 |_,_,_,.nil,_,_=>rfl
 |p::ps,q::qs,ω,.cons s f,h,hc=>by have g:=h p (by simp);rw[nZ,fM,jl,N8 hn h2 g s hc];exact B5 f (λx hx=>h x (by simp[hx])) (qx hn h2 p g.x hc)
theorem ni{g:Int}{L:List RP}(h:bO n L):bO n (dG n g L):=by
 unfold dG;split
 ·exact h
 ·exact h.mC
theorem W0{q:Int×List Int}(hq:q.1=0\/q.1= -1)(hr:bY n q.2)(h:Int){L:List RP}(hI:bO n L):Vl n (h+q.1) (dG n q.1 L++[wL q.2])=jG n q (Vl n h L):=by
 unfold jG dG;rcases hq with e|e
 ·rw[e,if_pos (by decide),if_pos (by decide),oG,oG]
  exact JC hn h2 h hI (.one (gA hr))
 ·rw[e,if_neg (by decide),if_neg (by decide)]
  exact JD hn h2 h hI (.one (gA hr)) (-1)
theorem Dt{q g:Int}{r:List Int}{L:List RP}(hI:bO n L)(hr:bY n r):dG n g (dG n q L++[wL r])=dG n (q+g) L++[wL (nT n g r)]:=by
 unfold dG nT;have hf:(L.map (mC n)).map (mC n)=L:=by
  rw[gK]
  conv=>rhs;rw[<-yt L]
  exact se λx hx=>FA (hI x hx)
 have e:mC n (wL r)=wL (fl n r.reverse):=lX (zg (gA hr)) (gA (jF (zg (gA hr)))) rfl
 by_cases a:g%2=0
 ·rw[if_pos a,if_pos a]
  by_cases b:q%2=0
  ·rw[if_pos b,if_pos (by lia)]
  ·rw[if_neg b,if_neg (by lia)]
 ·rw[if_neg a,if_neg a,b7]
  by_cases b:q%2=0
  ·rw[if_pos b,if_neg (by lia),W2,e]
  ·rw[if_neg b,if_pos (by lia),hf,W2,e]
theorem HQ:∀(qs:List (Int×List Int))(h:Int)(L:List RP),bO n L->(∀q∈qs,(q.1=0\/q.1= -1)/\bY n q.2)->Vl n (h+hS qs) (dG n (hS qs) L++(dF n qs).map wL)=qs.foldl (λω q=>jG n q ω) (Vl n h L)
 |[],h,L,_,_=>by show Vl n (h+0) (dG n 0 L++[])=_;rw[oG,bq];rfl
 |q::qs,h,L,hI,hq=>by obtain⟨q1,q2⟩:=hq q (by simp);have ih:=HQ qs (h+q.1) (dG n q.1 L++[wL q.2]) ((ni hn h2 hI).app (.one (gA q2))) λx hx=>hq x (by simp[hx]);rw[nZ,<-W0 hn h2 q1 q2 h hI,<-ih,Dt hn h2 hI q2,bC,show hS (q::qs)=q.1+hS qs from rfl,AX];rfl
theorem W3{k:Int}(hk:gZ n k){s:List Int}(hs:∀x∈s,gZ n x):Lk n (jM s k) (s++[k]):=by
 unfold jM;split
 ·rename_i hl
  have hne:s≠[]:=λz=>by rw[z]at hl;cases hl
  have Cp:s.dropLast++[-k]=s:=by have:=Mg hne;rw[Mh hne]at hl;rw[cj.inj hl]at this;exact this
  have hm:gZ n (-k):=by unfold gZ at*;lia
  have h:=Lk.mid hn h2 (ab6 hn h2 hm) (a:=s.dropLast) (b:=[]) λx hx=>hs x ((W4 s).subset hx);rw[MV,bq,bq,bq]at h;have e:s++[k]=s.dropLast++[-k,k]:=by
   conv=>lhs;rw[<-Cp]
   simp
  rw[e];exact h.symm
 ·exact .refl n _
theorem MX:∀(w s:List Int),(∀k∈w,gZ n k)->(∀x∈s,gZ n x)->Lk n (iG s w) (s++w)
 |[],s,_,_=>by rw[bq];exact .refl n _
 |k::w,s,h,hs=>by
  have hk:=h k (by simp);have hp:∀x∈jM s k,gZ n x:=λx hx=>by
   unfold jM at hx;split at hx
   ·exact hs x ((W4 s).subset hx)
   ·rcases b8.mp hx with hx|hx
    ·exact hs x hx
    ·rw[cL.mp hx];exact hk
  refine(MX w (jM s k) (λx hx=>h x (by simp[hx])) hp).trans λω hc=>?_;rw[jl,W3 hn h2 hk hs ω hc,<-jl,bC];rfl
theorem N9{w:List Int}(hw:∀k∈w,gZ n k)(hl:w.length<=900)(hB:Blk n (iG [] w) 40):y7 [.int n,.lst (bK w)]=.ok (.tup [.int (fE n w (0,[])).1,.lst ((fE n w (0,[])).2.map λp=>.lst (bK p.1))])/\FmS n w (fE n w (0,[])).1 (fE n w (0,[])).2:=by
 obtain⟨h,R,e,F,qs,kL,e1,e2,e3,e4,e5⟩:=MT (n:=n) (by lia) hn hw hl hB;have r:=HQ hn h2 qs 0 [] (λx hx=>nomatch hx) e2;have ez:dG n (hS qs) []=[]:=by unfold dG;split<;>rfl
 rw[ez,jS,MY,<-e1]at r;have c0:Vl n 0 []=((0:Int),[]):=jC.id;rw[c0,B5 hn h2 e5 e4 jC,e3,MX hn h2 w [] hw (λx hx=>nomatch hx) _ jC,jS]at r;rw[<-r];exact⟨e,F⟩
theorem Oa{w:List Int}(hw:∀k∈w,gZ n k)(hl:w.length<=40):y7 [.int n,.lst (bK w)]=.ok (.tup [.int (fE n w (0,[])).1,.lst ((fE n w (0,[])).2.map λp=>.lst (bK p.1))])/\FmS n w (fE n w (0,[])).1 (fE n w (0,[])).2:=by
 have Xx:=uM w [];rw[gJ]at Xx;have hx:∀k∈iG [] w,gZ n k:=λk hk=>by
  rcases yr w [] k hk with h|h
  ·cases h
  ·exact hw k h
 obtain⟨bs,b1,b2,b3⟩:=Dq hx;exact N9 hn h2 hw (by lia) ⟨bs,b1,by lia,b3⟩
end
def mE(n:Nat)(ω τ:Int×List RP):Int×List RP:=Vl n (ω.1+τ.1) (dG n τ.1 ω.2++τ.2)
def R3{n:Nat}{L:List RP}(h:bO n L):(L.map (mC n)).map (mC n)=L:=by
 rw[gK]
 conv=>rhs;rw[<-yt L]
 exact se λp hp=>FA (h p hp)
def yx{n:Nat}{L:List RP}(h:bO n L)(a b:Int):dG n b (dG n a L)=dG n (a+b) L:=by
 unfold dG
 by_cases c:a%2=0
 ·by_cases d:b%2=0
  ·rw[if_pos c,if_pos d,if_pos (by lia)]
  ·rw[if_pos c,if_neg d,if_neg (by lia)]
 ·by_cases d:b%2=0
  ·rw[if_neg c,if_pos d,if_neg (by lia)]
  ·rw[if_neg c,if_neg d,if_pos (by lia),R3 h]
def R4{n:Nat}{L:List RP}(h:bO n L)(a:Int):(dG n a L).map (mC n)=dG n (a+ -1) L:=by
 have:=yx h a (-1);rw[<-this]
 conv=>rhs;unfold dG
 rw[if_neg (by decide)];rfl
def zm{n:Nat}(L:List RP):dG n 0 L=L:=rfl
section
variable{n:Nat}(hn:n<=7)(h2:2<=n)
include hn h2
theorem MZ:∀(m:Nat)(a:Int){L B:List RP},bO n L->bO n B->Vl n a (L++(bf m (gY n)++B))=Vl n (a+m) (dG n m L++B)
 |0,a,L,B,_,_=>by rw[xG,jS,MC,oG,zm]
 |m+1,a,L,B,hL,hB=>by
  have hr:bO n (bf m (gY n)++B):=(bO.rep (qK n) m).app hB;have s:=(FD hn L hL).SX (bf m (gY n)++B);rw[gH,show L++(gY n::bf m (gY n)++B)=(L++[gY n])++(bf m (gY n)++B)by simp,
   zf hn a ((hL.app (.one (qK n))).app hr) s,gI,Fx hn h2 a (hL.mC.app hr),MZ m (a+1) hL.mC hB]
  have e:dG n m (L.map (mC n))=dG n ((m+1:Nat):Int) L:=by have:=yx hL 1 m;rw[show dG n 1 L=L.map (mC n)from if_neg (by decide)]at this;rw[this];congr 1;lia
  rw[e];congr 1;lia
theorem JH{ω:Int×List RP}(hω:bO n ω.2)(h:Int){R:List RP}(hR:bO n R):mE n ω (Vl n h R)=Vl n (ω.1+h) (dG n h ω.2++R):=by obtain⟨m,k,e1,e2,e3⟩:=Ry hn h hR;have hp:bO n (dG n h ω.2):=ni hn h2 hω;have hz:bO n (bf k (Zr n)):=bO.rep (eJ n) k;rw[zf hn (ω.1+h) (hp.app hR) (e3.app (dG n h ω.2)),MZ hn h2 m (ω.1+h) hp (e2.app hz),yx hω];unfold mE;rw[e1,<-AX];have hq:bO n (dG n (h+m) ω.2):=ni hn h2 hω;have:=Fz hn (ω.1+h+m) (A:=dG n (h+m) ω.2++(Vl n h R).2) (B:=[]) (hq.app e2) (λx hx=>nomatch hx) k;rw[bq,bq,bC]at this;exact this.symm
theorem mul_one{ω:Int×List RP}(hc:Cv n ω):mE n ω (0,[])=ω:=by unfold mE;rw[zm,bq,oG];exact hc.id
theorem W5{ω τ:Int×List RP}(hω:Cv n ω)(hτ:Cv n τ){k:Int}(hk:gZ n k):act n k (mE n ω τ)=mE n ω (act n k τ):=by
 have UA:=hk;unfold gZ at UA;have hp:bO n (dG n τ.1 ω.2):=ni hn h2 hω.iv;unfold act;split
 ·have ic:Iv n (Xr n (k-1).toNat).1 (Xr n (k-1).toNat).2:=yu (by lia)
  conv=>lhs;unfold mE
  rw[<-HG hn h2 _ (hp.app hτ.iv) ic,bC,<-JH hn h2 hω.iv τ.1 (hτ.iv.app (.one ic))];rfl
 ·have ic:Iv n (Xr n (-k-1).toNat).1 (Xr n (-k-1).toNat).2:=yu (by lia)
  conv=>lhs;unfold mE
  rw[<-Y7 hn h2 _ (hp.app hτ.iv) ic,b7,R4 hω.iv,bC,AX,<-JH hn h2 hω.iv (τ.1+ -1) (hτ.iv.mC.app (.one (nP ic)))];rfl
theorem HR:∀(u:List Int){ω τ:Int×List RP},Cv n ω->Cv n τ->(∀k∈u,gZ n k)->fE n u (mE n ω τ)=mE n ω (fE n u τ)
 |[],_,_,_,_,_=>rfl
 |k::u,ω,τ,hω,hτ,hu=>by have hk:=hu k (by simp);show fE n u (act n k (mE n ω τ))=mE n ω (fE n u (act n k τ));rw[W5 hn h2 hω hτ hk];exact HR u hω (JG hn h2 hk hτ) λx hx=>hu x (by simp[hx])
theorem HS{u:List Int}(hu:∀k∈u,gZ n k){ω:Int×List RP}(hω:Cv n ω):fE n u ω=mE n ω (fE n u (0,[])):=by rw[<-HR hn h2 u hω jC hu,mul_one hn h2 hω]
theorem Y9{u:List Int}(hu:∀k∈u,gZ n k):∀k∈u.reverse.map (λk=> -k),gZ n k:=λk hk=>by obtain⟨x,hx,rfl⟩:=dh.mp hk;have:=hu x (by simpa using hx);unfold gZ at*;lia
theorem Du{u:List Int}(hu:∀k∈u,gZ n k){ω:Int×List RP}(hc:Cv n ω):fE n u (fE n (u.reverse.map λk=> -k) ω)=ω:=by
 have:=yw hn h2 (u.reverse.map λk=> -k) (Y9 hn h2 hu) hc;have e:(u.reverse.map λk=> -k).reverse.map (λk=> -k)=u:=by
  rw[<-oh,lE,gK]
  conv=>rhs;rw[<-yt u]
  exact se λk _=>MV k
 rw[e]at this;exact this
theorem HU{q:Int×List Int}(hr:bY n q.2)(h:Int){L:List RP}(hI:bO n L):Vl n (h+q.1) (dG n q.1 L++[wL q.2])=jG n q (Vl n h L):=by
 unfold jG
 by_cases c:q.1%2=0
 ·have e:∀L:List RP,dG n q.1 L=L:=λL=>if_pos c
  rw[e,e,JC hn h2 (h+q.1) hI (.one (gA hr))];unfold Vl;dsimp only;rw[show h+q.1+((fW n (tW n L):Nat):Int)=h+((fW n (tW n L):Nat):Int)+q.1 by lia]
 ·have e:∀L:List RP,dG n q.1 L=L.map (mC n):=λL=>if_neg c
  rw[e,e];exact JD hn h2 h hI (.one (gA hr)) q.1
end
section
variable{n:Nat}(hn:n<=7)(h2:2<=n)
include hn h2
theorem Dv:∀(qs:List (Int×List Int))(h:Int)(L:List RP),bO n L->(∀q∈qs,bY n q.2)->Vl n (h+hS qs) (dG n (hS qs) L++(dF n qs).map wL)=qs.foldl (λω q=>jG n q ω) (Vl n h L)
 |[],h,L,_,_=>by show Vl n (h+0) (dG n 0 L++[])=_;rw[oG,bq];rfl
 |q::qs,h,L,hI,hq=>by have q2:=hq q (by simp);have ih:=Dv qs (h+q.1) (dG n q.1 L++[wL q.2]) ((ni hn h2 hI).app (.one (gA q2))) λx hx=>hq x (by simp[hx]);rw[nZ,<-HU hn h2 q2 h hI,<-ih,Dt hn h2 hI q2,bC,show hS (q::qs)=q.1+hS qs from rfl,AX];rfl
theorem Ob{qs:List (Int×List Int)}(hq:∀q∈qs,bY n q.2):qs.foldl (λω q=>jG n q ω) (0,[])=Vl n (hS qs) ((dF n qs).map wL):=by have:=Dv hn h2 qs 0 [] (λx hx=>nomatch hx) hq;rw[show dG n (hS qs) []=[]by unfold dG;split<;>rfl,jS,MY]at this;exact this.symm
end
def W6(ω:Int×List RP):Fm:=(ω.1,ω.2.map (·.1))
def afy(ω:Int×List RP):pH (W6 ω)=.tup [.int ω.1,.lst (ω.2.map λp=>.lst (bK p.1))]:=by unfold pH W6;rw[gK];rfl
def R5(s0 s1 s2 s3:Sl)(h:Int)(nss:List (List Int)):cB 4 [s0,s1,s2,s3,.deep (.tf h nss)]=.ok (pH (h,nss)):=rfl
def M0(s0 s1 s2 s3:Sl)(h:Int)(nss:List (List Int)):xM 4 [s0,s1,s2,s3,.deep (.tf h nss)]=.ok (h,nss):=rfl
def B6{n:Nat}(h1:1<=n)(hn:n<=7){qs:List (Int×List Int)}(hq:∀q∈qs,bY n q.2)(hl:qs.length<=40):br [.int n,.lst (qs.map t8)]=.ok ((fW n (dQ n (dF n qs)):Int)+hS qs,((dQ n (dF n qs)).drop (fW n (dQ n (dF n qs)))).map (·.1)):=by
 have e4:=MR hn hq (by lia);have e5:=vL n qs;have e6:=zj qs hq;generalize hR:dQ n (dF n qs)=C at*;have e9:br [.int n,.lst (qs.map t8)]=R.ne (y6 [.val (.int n),.val (.lst (qs.map t8)),.no,.no,.deep (.tf (o5 n C).1 (o5 n C).2)]>=>tfO):=by show R.ne (R.bind (bx [.lst (qs.map t8)]) _)=_;rw[e4,R.cD];refine congrArg R.ne ((if_pos ⟨⟨by lia,by lia⟩,by lia,e6⟩).trans ?_);rw[bw,hR]
 rw[e9];unfold y6;have a0:∀(x y:D),kU [x,y] 0=aa x:=λ_ _=>rfl;rw[R5,M0];unfold pH;dsimp [mS,mD,mF,dZ,aT,reduceAdd,reduceSub,reduceEqDiff,a0,ik,HN,R.gU];rw[gM (by rw[aG];lia)];dsimp [wb,wF,pW,C1,xJ];rfl
def ab7{n:Nat}(hn:n<=7)(h2:2<=n){qs:List (Int×List Int)}(hq:∀q∈qs,bY n q.2)(hl:qs.length<=40):br [.int n,.lst (qs.map t8)]=.ok (W6 (qs.foldl (λω q=>jG n q ω) (0,[]))):=by
 rw[B6 (by lia) hn hq hl,Ob hn h2 hq];have hV:tW n ((dF n qs).map wL)=dQ n (dF n qs):=by unfold tW dQ;rw[WY];rfl
 unfold Vl W6;rw[hV,WZ]
def HV{C:List RP}{nss:List (List Int)}(e:(C.map λp=>D.lst (bK p.1))=nss.map λns=>D.lst (ns.map D.int)):C.map (·.1)=nss:=by
 induction C generalizing nss with
 |nil=>cases nss with
  |nil=>rfl
  |cons x y=>cases e
 |cons p C ih=>cases nss with
  |nil=>cases e
  |cons x y=>
   rw[bu,bu]at e;injection e with e1 e2;injection e1 with e1;rw[bu,ih e2,Va e1]
def W7{n:Int}{d:D}{h:Int}{nss:List (List Int)}(ek:jZ [.int n,d]=.ok (pH (h,nss))):br [.int n,d]=.ok (h,nss):=by
 have Cj:R.ne (bx [d]>=>λrs=> @ite _ ((1<=n/\n<=7)/\rs.length<=40/\∀r∈rs,bY n.toNat r) (dM _) (Hk [.val (.int n),.val d,.no,.no,.val (Hh n.toNat (dQ n.toNat rs))]>=>aK) .bad)=.ok (pH (h,nss)):=ek;show R.ne (bx [d]>=>λrs=> @ite _ ((1<=n/\n<=7)/\rs.length<=40/\∀r∈rs,bY n.toNat r) (dM _) (y6 [.val (.int n),.val d,.no,.no,.deep (.tf (o5 n.toNat (dQ n.toNat rs)).1 (o5 n.toNat (dQ n.toNat rs)).2)]>=>tfO) .bad)=_;cases er:bx [d]with
 |bad=>rw[er]at Cj;cases Cj
 |err c=>rw[er]at Cj;cases Cj
 |ok rs=>
  rw[er,R.cD]at Cj;rw[R.cD]
  by_cases hg:(1<=n/\n<=7)/\rs.length<=40/\∀r∈rs,bY n.toNat r
  ·rw[if_pos hg]at Cj⊢
   generalize dQ n.toNat rs=C at Cj⊢;have a0:∀(x y:D),kU [x,y] 0=aa x:=λ_ _=>rfl;have a1:∀(x y:D),kU [x,y] 1=aa y:=λ_ _=>rfl;unfold Hk Hh at Cj;unfold y6;rw[R5,M0];unfold pH at*;dsimp [mS,mD,mF,dZ,aT,reduceAdd,reduceSub,reduceEqDiff,a0,a1,ik]at Cj⊢;revert Cj;generalize (R.bind _ λxs=>R.of (wb xs):R D)=S;intro Cj;cases S with
   |bad=>cases Cj
   |err c=>cases Cj
   |ok s=>
    cases s with
    |int s=>
     dsimp [mS,mD,mF,dZ,aT,reduceAdd,reduceSub,reduceEqDiff,C1,xJ]at Cj⊢;injection Cj with Cj;injection Cj with Cj;injection Cj with q1 q2;injection q1 with q1;injection q2 with q2 _;injection q2 with q2;show R.ok (_,(o5 n.toNat C).2)=_;congr 1;refine Prod.ext q1 ?_;exact HV q2
    |_=>cases Cj
  ·rw[if_neg hg]at Cj
   cases Cj
def HW{n:Int}{w:List D}{h:Int}{nss:List (List Int)}(e:y7 [.int n,.lst w]=.ok (pH (h,nss))):lF [.int n,.lst w]=.ok (h,nss):=by
 unfold y7 Jk at e;unfold lF Mi Qg;dsimp [mS,mD,mF,dZ,aT,reduceAdd,reduceSub,reduceEqDiff]at e⊢;cases es:eI [.int n,.lst w]with
 |bad=>rw[es]at e;cases e
 |err c=>rw[es]at e;cases e
 |ok d=>
  rw[es]at e;dsimp at e⊢;cases em:jZ [.int n,d]with
  |bad=>rw[em]at e;cases e
  |err c=>rw[em]at e;cases e
  |ok v=>
   rw[em]at e;dsimp at e;cases e;rw[W7 em];rfl
section
variable{n:Nat}(hn:n<=7)(h2:2<=n)
include hn h2
theorem W8{r:List Int}(hr:bY n r):wL (fl n (tE r))=RB n (wL r):=by have ic:=nP (r:=wL r) (gA hr);exact lX (gA (jF ic)) ic rfl
theorem W9{r:List Int}(hr:bY n r)(ω:Int×List RP):jG n (-1,fl n (tE r)) ω=Ma n (wL r) ω:=by unfold jG dG Ma;rw[if_neg (show¬(-1:Int)%2=0 by decide),W8 hn h2 hr]
theorem R6(a:Int)(A B:List RP):dG n a (A++B)=dG n a A++dG n a B:=by
 unfold dG;split
 ·rfl
 ·rw[b7]
theorem R7{ω τ:Int×List RP}(hω:Cv n ω)(hτ:Cv n τ){q:Int×List Int}(hq:bY n q.2):jG n q (mE n ω τ)=mE n ω (jG n q τ):=by
 have hp:bO n (dG n τ.1 ω.2):=ni hn h2 hω.iv;have hb:bO n (dG n q.1 τ.2++[wL q.2]):=(ni hn h2 hτ.iv).app (.one (gA hq))
 conv=>lhs;unfold mE
 rw[<-HU hn h2 hq _ (hp.app hτ.iv),R6 hn h2,yx hω.iv,bC,AX];exact(JH hn h2 hω.iv (τ.1+q.1) hb).symm
theorem Xa{ω:Int×List RP}(hc:Cv n ω){q:Int×List Int}(hq:bY n q.2):Cv n (jG n q ω):=HF hn _ ((ni hn h2 hc.iv).app (.one (gA hq)))
theorem HX:∀(qs:List (Int×List Int)){ω τ:Int×List RP},Cv n ω->Cv n τ->(∀q∈qs,bY n q.2)->qs.foldl (λω q=>jG n q ω) (mE n ω τ)=mE n ω (qs.foldl (λω q=>jG n q ω) τ)
 |[],_,_,_,_,_=>rfl
 |q::qs,ω,τ,hω,hτ,h=>by rw[nZ,nZ,R7 hn h2 hω hτ (h q (by simp))];exact HX qs hω (Xa hn h2 hτ (h q (by simp))) λx hx=>h x (by simp[hx])
theorem zo(k:Int){ω:Int×List RP}(hc:Cv n ω):jG n (k,upTo n) ω=mE n ω (k,[]):=by have e:wL (upTo n)=Zr n:=lX (gA (jg n)) (eJ n) rfl;have:=Fy hn (ω.1+k) (A:=dG n k ω.2) (B:=[]) (ni hn h2 hc.iv) λx hx=>nomatch hx;unfold jG mE;dsimp only;rw[e,this]
theorem Oc(r:List Int)(ω:Int×List RP):jG n (0,r) ω=Pa n (wL r) ω:=by unfold jG Pa;rw[oG,zm]
theorem Dw:∀(Z:List RP)(h:Int)(A:List RP),bO n A->bO n Z->((Z.map (·.1)).map λr=>((0:Int),r)).foldl (λω q=>jG n q ω) (Vl n h A)=Vl n h (A++Z)
 |[],h,A,_,_=>by rw[bq];rfl
 |p::Z,h,A,hA,hZ=>by have ip:=hZ p (by simp);have er:wL p.1=p:=lX (gA (jF ip)) ip rfl;rw[bu,bu,nZ,Oc hn h2,er,<-HG hn h2 h hA ip,Dw Z h (A++[p]) (hA.app (.one ip)) λx hx=>hZ x (by simp[hx]),bC];rfl
theorem Dy{k:Int}{Z:List RP}(hZ:bO n Z){ω:Int×List RP}(hc:Cv n ω):((k,upTo n)::(Z.map (·.1)).map λr=>((0:Int),r)).foldl (λω q=>jG n q ω) ω=mE n ω (k,Z):=by rw[nZ,zo hn h2 k hc];unfold mE;dsimp only;rw[bq];exact Dw hn h2 Z (ω.1+k) _ (ni hn h2 hc.iv) hZ
theorem Oe:∀(Z:List RP)(h:Int),sj n Z->((Z.map (·.1)).reverse.map λr=>((-1:Int),fl n (tE r))).foldl (λω q=>jG n q ω) (Vl n h Z)=Vl n h []:=λZ h hL=>by
 have key:∀(B A:List RP),bO n A->bO n B->((B.map (·.1)).reverse.map λr=>((-1:Int),fl n (tE r))).foldl (λω q=>jG n q ω) (Vl n h (A++B))=Vl n h A:=by
  intro B
  induction B with
  |nil=>intro A _ _;rw[bq];rfl
  |cons p B ih=>
   intro A hA hB;have ip:=hB p (by simp);have er:wL p.1=p:=lX (gA (jF ip)) ip rfl;rw[bu,kX,b7,qk,show A++p::B=(A++[p])++B by simp,ih (A++[p]) (hA.app (.one ip)) λx hx=>hB x (by simp[hx])];show jG n (-1,fl n (tE p.1)) _=_;rw[W9 hn h2 (jF ip),er,HG hn h2 h hA ip,RG hn h2 (HF hn h hA) ip]
 have:=key Z [] (λx hx=>nomatch hx) hL.iv
 rwa [jS]at this
theorem afz{w:List Int}(hw:∀k∈w,gZ n k){h:Int}{Z:List RP}(ea:fE n w (0,[])=(h,Z))(hL:sj n Z):(((Z.map (·.1)).reverse.map λr=>((-1:Int),fl n (tE r)))++[(-h,upTo n)]).foldl (λω q=>jG n q ω) (0,[])=fE n (w.reverse.map λk=> -k) (0,[]):=by
 have hr:∀q∈((Z.map (·.1)).reverse.map λr=>((-1:Int),fl n (tE r)))++[(-h,upTo n)],bY n q.2:=λq hq=>by
  rcases b8.mp hq with z|z
  ·obtain⟨r,h1,rfl⟩:=dh.mp z
   obtain⟨p,hp,rfl⟩:=dh.mp (qi.mp h1);exact jF (nP (gA (jF (hL.iv p hp))))
  ·rw[cL.mp z]
   exact jg n
 have cw:=qx hn h2 w hw jC;have ct:=qx hn h2 _ (Y9 hn h2 hw) jC;have e0:mE n (fE n (w.reverse.map λk=> -k) (0,[])) (fE n w (0,[]))=(0,[]):=by rw[<-HS hn h2 hw ct];exact Du hn h2 hw jC
 have e1:(((Z.map (·.1)).reverse.map λr=>((-1:Int),fl n (tE r)))++[(-h,upTo n)]).foldl (λω q=>jG n q ω) (fE n w (0,[]))=(0,[]):=by rw[qk,ea,<-show Vl n h Z=(h,Z)by rw[ea]at cw;exact cw.id,Oe hn h2 Z h hL];show jG n (-h,upTo n) (Vl n h [])=_;have c0:Cv n (Vl n h []):=HF hn h λx hx=>nomatch hx;have e:Vl n h []=(h,[]):=Prod.ext (oG h) rfl;rw[zo hn h2 _ c0,e];unfold mE;dsimp only;rw[show h+ -h=0 by lia,bq,show dG n (-h) []=[]by unfold dG;split<;>rfl];rfl
 have:=HX hn h2 (((Z.map (·.1)).reverse.map λr=>((-1:Int),fl n (tE r)))++[(-h,upTo n)]) ct cw hr;rw[e0,e1,mul_one hn h2 ct]at this;exact this
theorem afA{u w:List Int}(hu:∀k∈u,gZ n k)(hw:∀k∈w,gZ n k){h k:Int}{Z Y:List RP}(eu:fE n u (0,[])=(h,Z))(ew:fE n w (0,[])=(k,Y)):(((h,upTo n)::(Z.map (·.1)).map λr=>((0:Int),r))++((k,upTo n)::(Y.map (·.1)).map λr=>((0:Int),r))).foldl (λω q=>jG n q ω) (0,[])=fE n (u++w) (0,[]):=by
 have cu:=qx hn h2 u hu jC;have cw:=qx hn h2 w hw jC;rw[eu]at cu;rw[ew]at cw;rw[qk,Dy hn h2 cu.iv jC];have e:mE n (0,[]) (h,Z)=(h,Z):=by unfold mE;dsimp only;rw[show dG n h []=[]by unfold dG;split<;>rfl,jS,MY];exact cu.id
 rw[e,Dy hn h2 cw.iv cu,jl,eu,HS hn h2 hw cu,ew]
end
def B7{n:Nat}(hn:n<=7){r:List Int}(hr:bY n r):fj [.lst (bK r)]=.ok (t8 (-1,fl n (tE r))):=by unfold fj qF;dsimp [mS,mD,mF,dZ,aT,reduceAdd,reduceSub,reduceEqDiff,Di (si hr) hn];rfl
def HY{b:D->DE->R Out}{x:D}{xs:List D}{e e':DE}(h:b x e=.ok (.nx e')):lT b (x::xs) e=lT b xs e':=by
 conv=>lhs;unfold lT
 rw[h];rfl
def Xb(ns:List Int)(k:Nat):gR [.lst (bK ns),.int k]=.ok (.int (ai ns k)):=by
 unfold gR ur ai;dsimp [mS,mD,mF,dZ,aT,reduceAdd,reduceSub,reduceEqDiff,cZ]
 by_cases h:(k:Int)<ns.length
 ·have hk:k<ns.length:=by lia
  dsimp [h,decide_true];rw[jy (by lia) h];dsimp [bw];unfold ai;rfl
 ·dsimp [mS,mD,mF,dZ,aT,reduceAdd,reduceSub,reduceEqDiff,h,decide_false]
  rw[EV (by lia)];rfl
def Og(r:List Int)(h:r.length<64):GH (bK r)=.ok (bK (sortI r)):=by unfold GH;rw[wF];exact if_pos h
def R8{n:Nat}(hn:n<=7):GO [.int n]=.ok (bK (upTo n).reverse):=by
 refine(if_pos ⟨by lia,by lia⟩).trans (congrArg R.ok ?_);rw[bw];have hc:n=0\/n=1\/n=2\/n=3\/n=4\/n=5\/n=6\/n=7:=by lia
 rcases hc with rfl|rfl|rfl|rfl|rfl|rfl|rfl|rfl<;>rfl
def wq:List RP->D
 |[]=>.non
 |p::_=>.lst (bK p.1)
def Xc(xs:List D):GA (.lst xs) .non=aa (.bl true):=rfl
def afB{n:Nat}(hn:n<=7)(s0 s1:Sl){A:List RP}{q:RP}(hA:∀p∈A,Iv n p.1 p.2)(iq:Iv n q.1 q.2)(hf:∀p B,A=p::B->pJ p q=[]){j:Nat}(hj:j+1<n)(s4:Sl):
  iU (.int ((j:Int)+1)) [s0,s1,.val (wq A),.val (.lst (bK q.1)),s4]=.ok (.nx [s0,s1,.val (wq A),.val (.lst (bK q.1)),.val (.int ((j:Int)+1))]):=by
 unfold iU;cases A with
 |nil=>
  unfold wq;dsimp [mS,mD,mF,dZ,aT,reduceAdd,reduceSub,reduceEqDiff,kB,Vm]
 |cons p B=>
  have ip:=hA p (by simp);have h:=(gm ip iq).mp (hf p B rfl) j hj;have e1:uj (bK q.1) (.int ((j:Int)+1-1))=.ok (.int (ai q.2 j)):=by rw[show(j:Int)+1-1=((j:Nat):Int)by lia];exact Ha iq (by lia)
  have e2:uj (bK q.1) (.int ((j:Int)+1))=.ok (.int (ai q.2 (j+1))):=by have:=Ha iq hj;rw[<-this];congr 2
  unfold wq;dsimp [mS,mD,mF,dZ,aT,reduceAdd,reduceSub,reduceEqDiff,kB,Xc,e1,e2]
  by_cases c:ai q.2 j>ai q.2 (j+1)
  ·have h2:=h c
   dsimp [mS,mD,mF,dZ,aT,reduceAdd,reduceSub,reduceEqDiff,c,decide_true];have lp:=ip.lr;rw[jy (by lia) (by lia),jy (by lia) (by lia)];dsimp [mS,mD,mF,dZ,aT,reduceAdd,reduceSub,reduceEqDiff];rw[show((j:Int)+1-1).toNat=j by lia,show((j:Int)+1).toNat=j+1 by lia,decide_eq_false (by lia)];dsimp [mS,mD,mF,dZ,aT,reduceAdd,reduceSub,reduceEqDiff]
  ·dsimp [mS,mD,mF,dZ,aT,reduceAdd,reduceSub,reduceEqDiff,c,decide_false]
theorem Za{n:Nat}(hn:n<=7)(s0 s1:Sl){A:List RP}{q:RP}(hA:∀p∈A,Iv n p.1 p.2)(iq:Iv n q.1 q.2)(hf:∀p B,A=p::B->pJ p q=[]):∀(m j:Nat)(s4:Sl),j+1+m<=n->∃s4',lT iU (vU ((j:Int)+1) m) [s0,s1,.val (wq A),.val (.lst (bK q.1)),s4]=.ok (.nx [s0,s1,.val (wq A),.val (.lst (bK q.1)),s4'])
 |0,j,s4,_=>⟨s4,by rw[show vU ((j:Int)+1) 0=[]from rfl];rfl⟩
 |m+1,j,s4,h=>by
  obtain⟨s,e⟩:=Za hn s0 s1 hA iq hf m (j+1) (.val (.int ((j:Int)+1))) (by lia);refine⟨s,?_⟩;have er:vU ((j:Int)+1) (m+1)=.int ((j:Int)+1)::vU (((j+1:Nat):Int)+1) m:=by rw[Av,Av,Lf,bu,gK,<-xF];congr 1;congr 1;apply se;intro x _;simp_all only [Function.comp];lia
  rw[er,HY (afB hn s0 s1 hA iq hf (by lia) s4)];exact e
def afD{n:Nat}(h1:1<=n)(hn:n<=7)(s0 s4:Sl){A:List RP}{q:RP}(hA:∀p∈A,Iv n p.1 p.2)(iq:Iv n q.1 q.2)(hs:SM n q)(hh:q≠gY n)(hf:∀p B,A=p::B->pJ p q=[])(s3:Sl):
  ∃s4',iW (.lst (bK q.1)) [s0,.val (.int n),.val (wq A),s3,s4]=.ok (.nx [s0,.val (.int n),.val (wq (q::A)),.val (.lst (bK q.1)),s4']):=by
 have hi:Iv n (upTo n) (upTo n):=tM n;have lq:=iq.lr;have n1:q.1≠upTo n:=λe=>by have i2:=iq;rw[e]at i2;exact QR hs (Prod.ext e (i2.symm.uniq hi.symm))
 have n2:q.1≠(upTo n).reverse:=λe=>by have i2:=iq;rw[e]at i2;exact hh (Prod.ext e (i2.symm.uniq (RX n).symm))
 unfold iW;dsimp [mS,mD,mF,dZ,aT,reduceAdd,reduceSub,reduceEqDiff,kB,ik];rw[wI (λ_=>false) q.1 λs _=>⟨_,kB _ _ _,rfl,rfl⟩];have ef:q.1.filter (λ_=>false)=[]:=WL.mpr λ_ _=>by simp
 have t1:∀xs:List D,oX (Ex (.lst xs)) "list"=true:=λ_=>rfl;rw[ef];dsimp [R.gU,t1,sQ];rw[gM (by decide),show(D.lst [])=.lst (bK [])from rfl];dsimp [XY,decide_true,sQ];rw[Og _ (by lia),QA (jF iq),CY _ (by lia),bw,C7,R8 hn];dsimp [XY,ad6,decide_true,sQ,decide_eq_false n1,decide_eq_false n2];rw[PZ _ _ (by lia)];obtain⟨s,e⟩:=Za hn s0 (.val (.int n)) hA iq hf (n-1) 0 s4 (by lia);rw[show((n:Int)-1).toNat=n-1 by lia,show(1:Int)=((0:Nat):Int)+1 from rfl];dsimp [e];exact⟨_,rfl⟩
theorem R9{n:Nat}(h1:1<=n)(hn:n<=7)(s0:Sl){R:List RP}(hL:sj n R)(hh:∀x∈R,x≠gY n):∀(B A:List RP)(s3 s4:Sl),R=A.reverse++B->∃s2' s3' s4',lT iW (B.map λp=>.lst (bK p.1)) [s0,.val (.int n),.val (wq A),s3,s4]=.ok (.nx [s0,.val (.int n),s2',s3',s4'])
 |[],A,s3,s4,_=>⟨_,s3,s4,rfl⟩
 |q::B,A,s3,s4,e=>by
  have mq:q∈R:=by rw[e];simp
  obtain⟨u4,e1⟩:=afD h1 hn s0 s4 (A:=A) (λp hp=>hL.iv p (by rw[e];simp[hp])) (hL.iv q mq) (hL.ns q mq) (hh q mq) (λp C ec=>hL.nb (A:=C.reverse) (B:=B) (by rw[e,ec];simp)) s3;obtain⟨a,b,c,e2⟩:=R9 h1 hn s0 hL hh B (q::A) (.val (.lst (bK q.1))) u4 (by rw[e];simp);exact⟨a,b,c,by rw[bu,HY e1];exact e2⟩
def B8{n:Nat}(h1:1<=n)(hn:n<=7){Z:List RP}{h:Int}(hL:sj n Z)(hh:∀x∈Z,x≠gY n)(h0:n=1->h=0):fH [.tup [.int h,.lst (Z.map λp=>.lst (bK p.1))],.int n]=.ok (.bl true):=by
 unfold fH uv;have a0:∀(x y:D),kU [x,y] 0=aa x:=λ_ _=>rfl;have a1:∀(x y:D),kU [x,y] 1=aa y:=λ_ _=>rfl;have t1:∀xs:List D,oX (Ex (.lst xs)) "list"=true:=λ_=>rfl;have t2:∀xs:List D,oX (Ex (.tup xs)) "tuple"=true:=λ_=>rfl;have t3:∀i:Int,oX (Ex (.int i)) "int"=true:=λ_=>rfl;have t4:∀i:Int,oX (Ex (.int i)) "bool"=false:=λ_=>rfl;dsimp [mS,mD,mF,dZ,aT,reduceAdd,reduceSub,reduceEqDiff,t1,t2,sQ,a0,a1,t3,t4];have b2:((2:Int)==2)=true:=rfl;have b3:(((2:Nat):Int)==2)=true:=rfl;dsimp [b2,b3,sQ,a0,a1,t3,t4];obtain⟨s2,s3,s4,e⟩:=R9 h1 hn (.val (.tup [.int h,.lst (Z.map λp=>.lst (bK p.1))])) hL hh Z [] .no .no rfl;unfold wq at e
 by_cases c:n=1
 ·obtain rfl:=h0 c
  subst c;dsimp [mS,mD,mF,dZ,aT,reduceAdd,reduceSub,reduceEqDiff,show(((1:Nat):Int)==1)=true from rfl,show((0:Int)==0)=true from rfl,sQ,a1,e]
 ·have c2:((n:Int)==1)=false:=beq_eq_false_iff_ne.mpr (by lia)
  dsimp [c2,a1,e]
def HZ(cells:List Int)(hc:cells.length<=63):∃t:List Int,t.length<=63/\dO (bT 2 (qg (bN 0) (qg (bN 1) EC))) ux o4 (lV 2 []) (je (bK cells))=.ok (bK t):=by
 refine⟨(je (bK cells)).map λd=>match d with|.tup [.int k,.int c]=>GW c k 16807|_=>0,by rw[aG];unfold je;rw[aG,LU,cZ];exact hc,?_⟩;rw[qR (λd=>.int (match d with|.tup [.int k,.int c]=>GW c k 16807|_=>0)) _ λx hx=>by
  obtain⟨i,hi,e⟩:=pZ hx;obtain⟨y,hy,rfl⟩:=yS (i:=i) (d:=x) (by rw[aQ hi,e]);have hz:(bK cells)[i]?=(cells[i]?).map D.int:=by unfold bK;rw[bG]
  have hi2:i<cells.length:=by
   have:(je (bK cells)).length=cells.length:=by unfold je;rw[aG,LU,cZ]
   lia
  rw[hz,aQ hi2]at hy;obtain rfl:=cj.inj hy;refine⟨_,rfl,rfl,?_⟩;unfold o4 lV;dsimp [mS,mD,mF,dZ,aT,reduceAdd,reduceSub,reduceEqDiff,List.append_eq];exact Jc _ _ _ (by lia) (by decide)]
 unfold bK;rw[gK];rfl
def Xd{cells:List Int}{n:Int}(hc:cells.length<=63)(hn:1<=n):∃w:List Int,gg [.lst (bK cells),.int n,.int 12]=.ok (.lst (bK w))/\(∀k∈w,gZ n k)/\w.length<=12:=by
 unfold gg uy;dsimp [mS,mD,mF,dZ,aT,reduceAdd,reduceSub,reduceEqDiff];rw[qd,Bo _ _ (by decide),GZ _ _ _ (by rw[jR];lia) (by lia) (by decide)];dsimp [cZ];generalize hw:Bw (cells.take (63:Int).toNat) n 189=w;have hx:∀k∈w,gZ n k:=hw▸GY
 by_cases h:(w.length:Int)<=12
 ·refine⟨w,?_,hx,by lia⟩
  dsimp [h,decide_true]
 ·obtain⟨t,ht,e⟩:=HZ cells hc
  dsimp [h,decide_false,ik,e,R.gU];rw[gM (by lia)];dsimp [wb,wF,pW,cZ];rw[lj _ _ (by lia)];dsimp;have m0:=xS t.sum (show(w.length:Int)-12+1≠0 by lia);have m1:=AB t.sum (show(0:Int)<(w.length:Int)-12+1 by lia);generalize t.sum%((w.length:Int)-12+1)=a at m0 m1;rw[qd];refine⟨_,rfl,λk hk=>hx k ?_,?_⟩
  ·unfold cut at hk
   exact FH (AD hk)
  ·unfold cut
   rw[nX _ _ _ m0,nX _ _ _ (by lia),jR];lia
def Sd{cells:List Int}{n:Int}(hc:cells.length<=63)(hn:1<=n):∃w:List Int,gg [.lst (bK cells),.int n,.int 6]=.ok (.lst (bK w))/\(∀k∈w,gZ n k)/\w.length<=6:=by
 unfold gg uy;dsimp [mS,mD,mF,dZ,aT,reduceAdd,reduceSub,reduceEqDiff];rw[qd,Bo _ _ (by decide),GZ _ _ _ (by rw[jR];lia) (by lia) (by decide)];dsimp [cZ];generalize hw:Bw (cells.take (63:Int).toNat) n 189=w;have hx:∀k∈w,gZ n k:=hw▸GY
 by_cases h:(w.length:Int)<=6
 ·refine⟨w,?_,hx,by lia⟩
  dsimp [h,decide_true]
 ·obtain⟨t,ht,e⟩:=HZ cells hc
  dsimp [h,decide_false,ik,e,R.gU];rw[gM (by lia)];dsimp [wb,wF,pW,cZ];rw[lj _ _ (by lia)];dsimp;have m0:=xS t.sum (show(w.length:Int)-6+1≠0 by lia);have m1:=AB t.sum (show(0:Int)<(w.length:Int)-6+1 by lia);generalize t.sum%((w.length:Int)-6+1)=a at m0 m1;rw[qd];refine⟨_,rfl,λk hk=>hx k ?_,?_⟩
  ·unfold cut at hk
   exact FH (AD hk)
  ·unfold cut
   rw[nX _ _ _ m0,nX _ _ _ (by lia),jR];lia
def iZ(rs:List (List Int)):List D:=rs.map λr=>.lst (bK r)
def OY:D->Prop
 |.int _=>True
 |.bl _=>True
 |.str _=>True
 |.non=>True
 |_=>False
def Xe:Nat->D->Prop
 |0,d=>OY d
 |n+1,d=>match d with
  |.lst xs=>∀x∈xs,Xe n x
  |.tup xs=>∀x∈xs,Xe n x
  |d=>OY d
def uN{d:D}(h:OY d):Xz d d=aa true:=by cases d<;>first|exact h.elim|simp[Xz]
theorem zp{f:D->D->Option Bool}:∀(xs:List D),(∀x∈xs,f x x=aa true)->vW f xs xs=aa true
 |[],_=>rfl
 |x::xs,h=>by unfold vW;rw[h x (by simp),zp xs λy hy=>h y (by simp[hy])];rfl
theorem yy:∀(n:Nat)(d:D),Xe n d->yD n d d=aa true
 |0,d,h=>uN h
 |n+1,d,h=>by
  cases d with
  |lst xs=>
   unfold yD;dsimp only;rw[if_pos rfl];exact zp xs λx hx=>yy n x (h x hx)
  |tup xs=>
   unfold yD;dsimp only;rw[zp xs λx hx=>yy n x (h x hx)];simp
  |non=>exact uN (d:=.non) h
  |bl b=>exact uN (d:=(.bl b)) h
  |int i=>exact uN (d:=(.int i)) h
  |str x=>exact uN (d:=(.str x)) h
  |exc _=>exact h.elim
  |fn _=>exact h.elim
def Xf(n:Nat)(ns:List Int):Xe (n+1) (.lst (bK ns)):=λx hx=>by obtain⟨i,_,rfl⟩:=dh.mp hx;cases n<;>trivial
def M4(n:Nat)(M:List (List Int)):Xe (n+2) (.lst (iZ M)):=λx hx=>by obtain⟨ns,_,rfl⟩:=dh.mp hx;exact Xf n ns
def zq(w:List Int):List Int:=w.reverse.map λk=> -k
def M5(w:List Int)(hw:w.length<=1000):kC [.lst (bK w)]=.ok (bK (zq w)):=by
 unfold kC zG;dsimp [mS,mD,mF,dZ,aT,reduceAdd,reduceSub,reduceEqDiff,ik,EF];rw[rZ (λk=> -k) w.reverse λk _=>⟨_,kB _ _ _,rfl,by unfold uu lV;dsimp [mS,mD,mF,dZ,aT,reduceAdd,reduceSub,reduceEqDiff]⟩,R.gU,R.cD,gM (by rw[aG,bE];lia)]
 dsimp [nS];rfl
def eq_self(h:Int)(rs:List (List Int)):yD 6 (.tup [.int h,.lst (iZ rs)]) (.tup [.int h,.lst (iZ rs)])=aa true:=by
 rw[yy];show∀x∈[_,_],Xe 5 x;intro x hx;rcases aO.mp hx with rfl|hx
 ·trivial
 ·rw[cL.mp hx]
  exact M4 3 rs
def Se(h:Int)(rs:List (List Int)):zE (.tup [.int h,.lst (iZ rs)]) (.tup [.int h,.lst (iZ rs)])=aa (.bl false):=by unfold zE;rw[eq_self];rfl
def Sf(h:Int)(rs:List (List Int)):CW (.tup [.int h,.lst (iZ rs)]) (.tup [.int h,.lst (iZ rs)])=aa (.bl true):=by unfold CW;rw[eq_self];rfl
def H0{rs:List (List Int)}(h:rs.length<=1000):fit (iZ rs)=.ok (iZ rs):=lA (big (by unfold iZ;rw[aG];lia))
def Dz{ct:DE->R Bool}{fe:DE->R D}(hc:∀e,ct e=.ok true)(hf:∀xs,fe [.val (.lst xs)]=.ok (.lst xs))(rs:List (List Int)):dO (bN 0) ct fe (lV 1 []) (iZ rs)=.ok (iZ rs):=by
 rw[qR id _ λx hx=>by obtain⟨r,hr,rfl⟩:=dh.mp hx;exact⟨_,kB _ _ _,hc _,hf _⟩,yt]
def Zb(h:Int)(rs:List (List Int)):pH (h,rs)=.tup [.int h,.lst (iZ rs)]:=rfl
theorem wM{b:D->DE->R DE}{ct:DE->R Bool}{fe:DE->R D}{e₀:DE}(f:List Int->D):∀(rs:List (List Int)),(∀r∈rs,∃e,b (.lst (bK r)) e₀=.ok e/\ct e=.ok true/\fe e=.ok (f r))->dO b ct fe e₀ (iZ rs)=.ok (rs.map f)
 |[],_=>rfl
 |x::xs,h=>by obtain⟨e,h1,h2,h3⟩:=h x (by simp);have ih:=wM f xs λy hy=>h y (by simp[hy]);unfold iZ;rw[bu];unfold dO;rw[h1,R.cD,h2,R.cD,if_pos rfl,h3,R.cD,show(xs.map λr=>D.lst (bK r))=iZ xs from rfl,ih];rfl
def Ia{n:Nat}(hn:n<=7){rs:List (List Int)}(hr:∀r∈rs,bY n r):dO (bN 0) rg mr (lV 1 []) (iZ rs)=.ok (rs.map λr=>t8 (-1,fl n (tE r))):=
 wM _ rs λr h=>⟨_,kB _ _ _,rfl,by unfold mr lV;dsimp [mS,mD,mF,dZ,aT,reduceAdd,reduceSub,reduceEqDiff,B7 hn (hr r h)]⟩
def DA{n:Nat}(hn:n<=7)(h:Int){rs:List (List Int)}(hl:rs.length<=100):mj [.int n,pH (h,rs)]=.ok (((h,upTo n)::rs.map λr=>((0:Int),r)).map t8):=by
 have a0:∀(x y:D),kU [x,y] 0=aa x:=λ_ _=>rfl;have a1:∀(x y:D),kU [x,y] 1=aa y:=λ_ _=>rfl;have ec:dO (bN 0) we qE (lV 1 []) (iZ rs)=.ok (rs.map λr=>t8 (0,r)):=wM _ rs λr h=>⟨_,kB _ _ _,rfl,by unfold qE lV;dsimp [mS,mD,mF,dZ,aT,reduceAdd,reduceSub,reduceEqDiff];rfl⟩
 rw[Zb];unfold mj BF;dsimp [mS,mD,mF,dZ,aT,reduceAdd,reduceSub,reduceEqDiff,a0,a1,kJ n hn,ik,ec,R.gU];rw[lA (big (by rw[aG];lia))];dsimp;rw[lA (big (by rw[bQ,aG];lia))];rw[gK];rfl
def FW(n:Nat)(w:List Int):Fm:=if 2<=n then W6 (fE n w (0,[]))else(0,[])
def vM{n:Nat}{u:List Int}(hu:∀k∈u,gZ n k):∀k∈zq u,gZ n k:=λk hk=>by unfold zq at hk;obtain⟨x,hx,rfl⟩:=dh.mp hk;have:=hu x (by simpa using hx);unfold gZ at*;lia
def AY{n:Int}{u w:List Int}(hu:∀k∈u,gZ n k)(hw:∀k∈w,gZ n k):∀k∈u++w,gZ n k:=λk hk=>(b8.mp hk).elim (hu k) (hw k)
def AZ{n:Nat}(h1:1<=n)(c:¬2<=n){w:List Int}(hw:∀k∈w,gZ n k):w=[]:=by
 cases w with
 |nil=>rfl
 |cons k w=>have:=hw k (by simp);unfold gZ at this;lia
def tN{n:Nat}(hn:1<=n/\n<=7){w:List Int}(hw:∀k∈w,gZ n k)(hl:w.length<=40):lF [.int n,.lst (bK w)]=.ok (FW n w)/\fH [pH (FW n w),.int n]=.ok (.bl true)/\(FW n w).2.length<=w.length/\∃Z:List RP,FW n w=((FW n w).1,Z.map λx=>x.1)/\sj n Z/\(2<=n->fE n w (0,[])=((FW n w).1,Z)):=by
 by_cases c:2<=n
 ·obtain⟨e,F⟩:=Oa hn.2 c hw hl
  have ef:FW n w=W6 (fE n w (0,[])):=if_pos c;rw[ef];refine⟨HW (by rw[e];exact congrArg R.ok (afy (fE n w (0,[]))).symm),?_,by unfold W6;rw[aG];exact F.ll,(fE n w (0,[])).2,rfl,F.ln,λ_=>rfl⟩;rw[afy];exact B8 hn.1 hn.2 F.ln F.nh λz=>absurd z (by lia)
 ·have w0:=AZ hn.1 c hw
  subst w0;have ef:FW n []=(0,[]):=if_neg c;rw[ef];have l0:sj n []:=⟨(λx hx=>nomatch hx),trivial,(λx hx=>nomatch hx)⟩
  refine⟨?_,B8 hn.1 hn.2 (Z:=[]) (h:=0) l0 (λx hx=>nomatch hx) λ_=>rfl,aY _,[],rfl,l0,λz=>absurd z c⟩;obtain⟨bs,b1,b2,b3⟩:=Dq (n:=n) (w:=iG [] []) λk hk=>by rcases yr [] [] k hk with z|z<;>cases z
  obtain⟨h,Z,e,F,_⟩:=MT (n:=n) hn.1 hn.2 hw (by simp) ⟨bs,b1,by have:=uM [] [];simp -implicitDefEqProofs only [gJ]at this;lia,b3⟩
  have hb:=F.bd;have hll:=F.ll;rw[gJ]at hll hb;have h0:h=0:=by lia
  have z0:Z=[]:=List.eq_nil_of_length_eq_zero (by lia);subst h0 z0;exact HW e
def M6{n:Nat}{Z:List RP}(h:sj n Z):∀r∈Z.map λx=>x.1,bY n r:=λr hr=>by obtain⟨p,hp,rfl⟩:=dh.mp hr;exact jF (h.iv p hp)
def oJ{n:Nat}(hn:1<=n/\n<=7){u w:List Int}(hu:∀k∈u,gZ n k)(hw:∀k∈w,gZ n k)(lu:u.length<=13)(lw:w.length<=13):cX [.int n,pH (FW n u),pH (FW n w)]=.ok (FW n (u++w)):=by
 obtain⟨_,_,l1,Z,e1,L1,a1⟩:=tN hn hu (by lia);obtain⟨_,_,l2,Y,e2,L2,a2⟩:=tN hn hw (by lia);have lz:Z.length<=13:=by
  have:(FW n u).2=Z.map λx=>x.1:=by rw[e1]
  rw[this,aG]at l1;lia
 have ly:Y.length<=13:=by
  have:(FW n w).2=Y.map λx=>x.1:=by rw[e2]
  rw[this,aG]at l2;lia
 have key:br [.int n,.lst ((((FW n u).1,upTo n)::(Z.map λx=>x.1).map λr=>((0:Int),r))++(((FW n w).1,upTo n)::(Y.map λx=>x.1).map λr=>((0:Int),r))|>.map t8)]=.ok (FW n (u++w)):=by
  by_cases c:2<=n
  ·rw[ab7 hn.2 c (λq hq=>?_) (by simp;lia),afA hn.2 c hu hw (a1 c) (a2 c)]
   ·exact congrArg R.ok (if_pos c).symm
   ·simp -implicitDefEqProofs only [b8,aO,dh]at hq
    rcases hq with(rfl|⟨r,⟨p,hp,rfl⟩,rfl⟩)|(rfl|⟨r,⟨p,hp,rfl⟩,rfl⟩)
    ·exact jg n
    ·exact jF (L1.iv p hp)
    ·exact jg n
    ·exact jF (L2.iv p hp)
  ·have u0:=AZ hn.1 c hu
   have w0:=AZ hn.1 c hw;subst u0 w0;have n1:n=1:=by lia
   subst n1;have f0:FW 1 []=(0,[]):=if_neg c;rw[f0]at e1 e2⊢;have z0:Z=[]:=M7.mp (congrArg ou e1).symm;have y0:Y=[]:=M7.mp (congrArg ou e2).symm;subst z0 y0;show br [.int (1:Nat),.lst ([((0:Int),upTo 1),((0:Int),upTo 1)].map t8)]=.ok (FW 1 []);rw[B6 (by lia) (by lia) (λq hq=>by simp -implicitDefEqProofs only [aO,jw,or_false]at hq;rcases hq with rfl|rfl<;>exact jg 1) (by simp)]
   rw[show dQ 1 (dF 1 [((0:Int),upTo 1),((0:Int),upTo 1)])=[]by decide +kernel,f0];rfl
 rw[e1,e2];unfold cX uB Qg;dsimp [mS,mD,mF,dZ,aT,reduceAdd,reduceSub,reduceEqDiff,DA hn.2 _ (show(Z.map λx=>x.1).length<=100 by rw[aG];lia),DA hn.2 _ (show(Y.map λx=>x.1).length<=100 by rw[aG];lia)];rw[show(t8 ((FW n u).1,upTo n)::(xX t8 ((Z.map λx=>x.1).map λr=>((0:Int),r))++t8 ((FW n w).1,upTo n)::xX t8 ((Y.map λx=>x.1).map λr=>((0:Int),r))))=((((FW n u).1,upTo n)::(Z.map λx=>x.1).map λr=>((0:Int),r))++(((FW n w).1,upTo n)::(Y.map λx=>x.1).map λr=>((0:Int),r))).map t8 by rw[b7];rfl];rw[lA (big (by simp;lia))];simp_all only [R.cD];rw[key];rfl
def uO{n:Nat}(hn:n<=7){h:Int}{rs:List (List Int)}(hr:∀r∈rs,bY n r)(hl:rs.length<=39){q:Fm}(key:br [.int n,.lst (((rs.reverse.map λr=>((-1:Int),fl n (tE r)))++[(-h,upTo n)]).map t8)]=.ok q):dB [.int n,pH (h,rs)]=.ok q:=by
 have a0:∀(x y:D),kU [x,y] 0=aa x:=λ_ _=>rfl;have a1:∀(x y:D),kU [x,y] 1=aa y:=λ_ _=>rfl;rw[Zb];unfold dB uC Qg;dsimp [mS,mD,mF,dZ,aT,reduceAdd,reduceSub,reduceEqDiff,a0,a1,ik];rw[show(iZ rs).reverse=iZ rs.reverse by unfold iZ;rw[oh],Ia hn (λr h=>hr r (by simpa using h)),R.gU];dsimp [mS,mD,mF,dZ,aT,reduceAdd,reduceSub,reduceEqDiff];rw[lA (big (by rw[aG,bE];lia))];dsimp [a0,a1,kJ n hn];rw[lA (big (by rw[b9,aG,bE,pV];lia))];have e:(rs.reverse.map λr=>t8 (-1,fl n (tE r)))++[D.tup [.int (-h),.lst (bK (upTo n))]]=((rs.reverse.map λr=>((-1:Int),fl n (tE r)))++[(-h,upTo n)]).map t8:=by rw[b7,gK];rfl
 dsimp;rw[e,key];rfl
def Ib:br [.int (1:Nat),.lst ([((0:Int),upTo 1)].map t8)]=.ok (0,[]):=by rw[B6 (by lia) (by lia) (λq hq=>by rw[cL.mp hq];exact jg 1) (by simp)];rw[show dQ 1 (dF 1 [((0:Int),upTo 1)])=[]by decide +kernel];rfl
def JI{n:Nat}(hn:1<=n/\n<=7){u:List Int}(hu:∀k∈u,gZ n k)(lu:u.length<=13):dB [.int n,pH (FW n u)]=.ok (FW n (zq u)):=by
 obtain⟨_,_,l1,Z,e1,L1,a1⟩:=tN hn hu (by lia);have lz:Z.length<=13:=by
  have:(FW n u).2=Z.map λx=>x.1:=by rw[e1]
  rw[this,aG]at l1;lia
 rw[e1];refine uO hn.2 (M6 L1) (by rw[aG];lia) ?_
 by_cases c:2<=n
 ·rw[ab7 hn.2 c (λq hq=>?_) (by simp;lia),afz hn.2 c hu (a1 c) L1]
  ·exact congrArg R.ok (if_pos c).symm
  ·rcases b8.mp hq with z|z
   ·obtain⟨r,h1,rfl⟩:=dh.mp z
    exact jF (nP (gA (M6 L1 r (qi.mp h1))))
   ·rw[cL.mp z]
    exact jg n
 ·have u0:=AZ hn.1 c hu
  subst u0;have n1:n=1:=by lia
  subst n1;have f0:FW 1 []=(0,[]):=if_neg c;rw[f0]at e1⊢;have z0:Z=[]:=M7.mp (congrArg ou e1).symm;subst z0;rw[show FW 1 (zq [])=(0,[])from if_neg c];exact Ib
def Sg{n:Nat}(hn:1<=n/\n<=7){k:Int}(h1:n=1->k=0):∃j:Int,dB [.int n,pH (k,[])]=.ok (j,[]):=by
 by_cases c:2<=n
 ·refine⟨-k,uO hn.2 (rs:=[]) (λr hr=>nomatch hr) (by simp) ((ab7 hn.2 c (qs:=[(-k,upTo n)]) (λq hq=>by rw[cL.mp hq];exact jg n) (by simp)).trans ?_)⟩
  ·refine congrArg R.ok ?_
   show W6 (jG n (-k,upTo n) (0,[]))=_;rw[zo hn.2 c _ jC];unfold mE W6;dsimp only;rw[show dG n (-k) []=[]by unfold dG;split<;>rfl];exact Prod.ext (by show(0:Int)+ -k+((0:Nat):Int)= -k;lia) rfl
 ·have n1:n=1:=by lia
  subst n1;have k0:=h1 rfl;subst k0;exact⟨0,uO hn.2 (rs:=[]) (λr hr=>nomatch hr) (by simp) Ib⟩
def Sh(n:Nat):FW n []=(0,[]):=by
 unfold FW;split
 ·rfl
 ·rfl
def Ic{n:Nat}(hn:n<=7){u:List Int}(hu:∀k∈u,gZ n k):FW n (u++zq u)=(0,[]):=by
 unfold FW;split
 ·rename_i c
  rw[jl,show fE n (zq u) (fE n u (0,[]))=(0,[])from yw hn c u hu jC];rfl
 ·rfl
def Xg{n:Nat}(hn:n<=7){u:List Int}(hu:∀k∈u,gZ n k):FW n (zq u++u)=(0,[]):=by
 unfold FW;split
 ·rename_i c
  rw[jl,show fE n u (fE n (zq u) (0,[]))=(0,[])from Du hn c hu jC];rfl
 ·rfl
def Si(q:Fm):zE (pH q) (pH q)=aa (.bl false):=Se q.1 q.2
def Sn(q:Fm):CW (pH q) (pH q)=aa (.bl true):=Sf q.1 q.2
def M8(p q:Fm):zE (.tup [pH p,pH q]) (.tup [pH p,pH q])=aa (.bl false):=by
 have:yD 6 (.tup [pH p,pH q]) (.tup [pH p,pH q])=aa true:=by
  rw[yy];have fl:∀r:Fm,Xe 5 (pH r):=λr=>by
   show∀x∈[_,_],Xe 4 x;intro x hx;rcases aO.mp hx with rfl|hx
   ·trivial
   ·rw[cL.mp hx]
    exact M4 2 r.2
  show∀x∈[_,_],Xe 5 x;intro x hx;rcases aO.mp hx with rfl|hx
  ·exact fl p
  ·rw[cL.mp hx]
   exact fl q
 unfold zE;rw[this];rfl
def Ie{n:Nat}(hn:1<=n/\n<=7){w:List Int}(hw:∀k∈w,gZ n k)(hl:w.length<=40):(FW n w).2.length<1000/\∀ns∈(FW n w).2,ns.length<1000:=by obtain⟨_,_,l,Z,e,L,_⟩:=tN hn hw hl;refine⟨by lia,λns hns=>?_⟩;rw[e]at hns;obtain⟨p,hp,rfl⟩:=dh.mp hns;have:=(L.iv p hp).lr;lia
def afE(ns:List Int)(hl:ns.length<=63):BO [.lst (bK ns)]=.ok (.bl true):=by
 have a0:∀(x y:D),kU [x,y] 0=aa x:=λ_ _=>rfl;have a1:∀(x y:D),kU [x,y] 1=aa y:=λ_ _=>rfl;unfold BO YG;dsimp [mS,mD,mF,dZ,aT,reduceAdd,reduceSub,reduceEqDiff,PU];rw[show gR [.lst (bK ns),.int 0]=.ok (.int (ai ns 0))from Xb ns 0];dsimp;rw[lj _ _ (by decide)];dsimp [Jd];generalize ai ns 0%1000000000=sd;obtain⟨n1,n7⟩:=GX sd;generalize qU sd=n0 at n1 n7;obtain⟨n,rfl⟩:∃n:Nat,n0=n:=⟨n0.toNat,by lia⟩
 have hn:1<=n/\n<=7:=by lia
 rw[Jc _ _ _ (by decide) (by decide)];dsimp [cZ];rw[lj _ _ (by lia)];dsimp;obtain⟨ct,hct,hc0⟩:∃ct:Int,GW sd 5 16807%((ns.length:Int)+1)=ct/\0<=ct:=⟨_,rfl,xS _ (by lia)⟩
 rw[hct];obtain⟨mo,em,part⟩:∃mo:Int,(if decide ((n:Int)<5)=true then R.ok (D.int 12)else R.ok (D.int 6))=.ok (.int mo)/\∀cells:List Int,cells.length<=63->∃w,gg [.lst (bK cells),.int n,.int mo]=.ok (.lst (bK w))/\(∀k∈w,gZ n k)/\w.length<=12:=by
  by_cases c:(n:Int)<5
  ·exact⟨12,if_pos (decide_eq_true c),λcells h=>Xd (n:=n) h (by lia)⟩
  ·refine⟨6,if_neg (by rw[decide_eq_true_eq];exact c),λcells h=>?_⟩
   obtain⟨w,e,h1,h2⟩:=Sd (cells:=cells) (n:=n) h (by lia);exact⟨w,e,h1,by lia⟩
 have pO:∀(i j:Nat)(e:DE)(p q:D),P5 i j e [p,q]=.ok (.nx ((e.set i (.val p)).set j (.val q))):=λ_ _ _ _ _=>rfl;rw[em];dsimp;rw[qd,qd];obtain⟨u,eu,hu,lu⟩:=part (cut ns none (aa ct)) (by rw[Bo _ _ hc0,jR];lia);obtain⟨w,ew,hw,lw⟩:=part (cut ns (aa ct) none) (by rw[GF _ _ hc0,nY];lia);obtain⟨fu,iu,_⟩:=tN hn hu (by lia);obtain⟨fw,iw,_⟩:=tN hn hw (by lia);have tl:(zq u).length=u.length:=by unfold zq;rw[aG,bE]
 obtain⟨fuw,iuw,luw,_⟩:=tN hn (AY hu hw) (by rw[b9];lia);obtain⟨fwu,_⟩:=tN hn (AY hw hu) (by rw[b9];lia);obtain⟨ftu,itu,ltu,_⟩:=tN hn (vM hu) (by lia);obtain⟨fut,_⟩:=tN hn (AY hu (vM hu)) (by rw[b9];lia);rw[Ic hn.2 hu]at fut;have hz:∀k∈([]:List Int),gZ n k:=λk hk=>nomatch hk;have j1:=oJ hn hu hw (by lia) (by lia);have j2:=oJ hn hw hu (by lia) (by lia);have j3:=oJ hn hu (vM hu) (by lia) (by lia);have j4:=oJ hn (vM hu) hu (by lia) (by lia);have j5:=oJ hn hz hw (by simp) (by lia);have j6:=oJ hn hu hz (by lia) (by simp);rw[Ic hn.2 hu]at j3;rw[Xg hn.2 hu]at j4;rw[Sh,jS]at j5;rw[Sh,bq]at j6;have tu:=JI hn hu (by lia);have x0:∀q:Fm,wO (pH q) (.int 0)=.ok (.int q.1):=λ_=>rfl;have x1:∀q:Fm,wO (pH q) (.int 1)=.ok (.lst (iZ q.2)):=λ_=>rfl;have bk:∀q:Fm,D.tup [.int q.1,.lst (iZ q.2)]=pH q:=λ_=>rfl;have z0:D.tup [.int 0,.lst []]=pH (0,[]):=rfl;have l1:(FW n u).2.length<=1000:=by have:=(tN hn hu (by lia)).2.2.1;lia
 have l2:(FW n w).2.length<=1000:=by have:=(tN hn hw (by lia)).2.2.1;lia
 have sF:∀(h:Int)(nss:List (List Int))(e:DE),cB 0 (.deep (.tf h nss)::e)=.ok (pH (h,nss)):=λ_ _ _=>rfl;have et:∀q:Fm,(q.1,q.2)=q:=λ_=>rfl;have aap:∀x y:D,fit [x,y]=.ok [x,y]:=λx y=>lA (by show 2<=aH;decide);dsimp [mS,mD,mF,dZ,aT,reduceAdd,reduceSub,reduceEqDiff,eu,ew,pO,fu,fw,R.gU,x0,x1,ik,Dz (ct:=Hl) (fe:=Hm) (λ_=>rfl) (λ_=>rfl),Dz (ct:=Hn) (fe:=Ho) (λ_=>rfl) (λ_=>rfl),H0 l1,H0 l2,bk];dsimp [j1,R.gU,sF,et,iuw,sQ];rw[vx,gM (by rw[b9];lia)];dsimp [fuw,R.gU,Si,tu,sF,et,itu,sQ,M5 u (by lia),ftu,M8,j3,j4,z0,Si];have g10:∀(s0 s1 s2 s3 s4 s5 s6 s7 s8 s9:Sl)(h:Int)(nss:List (List Int))(e:DE),xM 10 (s0::s1::s2::s3::s4::s5::s6::s7::s8::s9::.deep (.tf h nss)::e)=.ok (h,nss):=λ_ _ _ _ _ _ _ _ _ _ _ _ _=>rfl;have g11:∀(s0 s1 s2 s3 s4 s5 s6 s7 s8 s9 sA:Sl)(h:Int)(nss:List (List Int))(e:DE),xM 11 (s0::s1::s2::s3::s4::s5::s6::s7::s8::s9::sA::.deep (.tf h nss)::e)=.ok (h,nss):=λ_ _ _ _ _ _ _ _ _ _ _ _ _ _=>rfl;have g12:∀(s0 s1 s2 s3 s4 s5 s6 s7 s8 s9 sA sB:Sl)(h:Int)(nss:List (List Int))(e:DE),xM 12 (s0::s1::s2::s3::s4::s5::s6::s7::s8::s9::sA::sB::.deep (.tf h nss)::e)=.ok (h,nss):=λ_ _ _ _ _ _ _ _ _ _ _ _ _ _ _=>rfl;have mO:∀(d0 d1 d3 d4 d5 d6 d7 d8 d9:D)(t1 t2:Ct),GQ 12 13 10 11 2 [.val d0,.val d1,.val (.int n),.val d3,.val d4,.val d5,.val d6,.val d7,.val d8,.val d9,.deep t1,.deep t2,.no,.no,.no] [FW n (u++w),FW n (zq u),FW n (zq u),FW n w,FW n u]=.ok (.nx [.val d0,.val d1,.val (.int n),.val d3,.val d4,.val d5,.val d6,.val d7,.val d8,.val d9,.no,.no,.no,.no,.no]):=λd0 d1 d3 d4 d5 d6 d7 d8 d9 t1 t2=>if_pos ⟨⟨by decide,by decide,by decide,by decide,by show 12<15;decide,by show 13<15;decide⟩,rfl,λq hq=>by
  simp -implicitDefEqProofs only [aO,jw,or_false]at hq;rcases hq with rfl|rfl|rfl|rfl|rfl
  ·exact Ie hn (AY hu hw) (by rw[b9];lia)
  ·exact Ie hn (vM hu) (by lia)
  ·exact Ie hn (vM hu) (by lia)
  ·exact Ie hn hw (by lia)
  ·exact Ie hn hu (by lia)⟩
 simp_all only [g10,g11,R.cD,et,j5,j6,R.gU,mO];dsimp [M8];obtain⟨k,ek,hk⟩:∃k:Int,(if decide (1<(n:Int))=true then(R.of (uh (.int ct) (.int 5))>=>λabF=>R.of (n8 abF (.int 2)))else R.ok (D.int 0))=.ok (.int k)/\(n=1->k=0):=by
  by_cases c:1<n
  ·rw[if_pos (decide_eq_true (by lia)),lj _ _ (by decide)]
   exact⟨_,rfl,λz=>absurd z (by lia)⟩
  ·rw[if_neg (by rw[decide_eq_true_eq];lia)]
   exact⟨0,rfl,λ_=>rfl⟩
 obtain⟨j,ej⟩:=Sg hn hk;have zk:D.tup [.int k,.lst []]=pH (k,[]):=rfl;have aF:∀e:DE,LH 12 e (j,[])=.ok (.nx (e.set 12 .no)):=λe=>if_pos (by simp);have o1:xJ (.int 1)=.ok ():=rfl;have nz:zE (.lst (iZ [])) (.lst [])=aa (.bl false):=rfl;rw[ek];dsimp [zk,ej,R.gU,g12,o1,aF,x1,nz,M5 u (by lia)];rw[vx,gM (by rw[b9];lia)];dsimp [fut,R.gU,z0,Sn,j2];rw[vx,gM (by rw[b9];lia)];dsimp [fwu,R.gU,Sn]
def ab8{K:ak}{H:Hp}{a:ae}(ns:List Int)(hl:ns.length<=63)(hS:fG K H a (ns.map V.int)):K5 K Oz BO [.ref a] H (λv _=>v=.bl true) λ_ _ _=>False:=aeB (afE ns hl) hS
end DL
namespace DL.uD
open PySem PySem.Spec PyProof.Rows L2 DL
section
variable{P:aR}{w:aE}{K:ak}{mg:Str->Option ah}{base:aC}(t:Tb K mg)
def Oh:qc P w K mg base 1 t.yd t.ye ["word"] uq:=by
 have h:=wG (P:=P) (w:=w) (base:=base) (k:=0) Jm t.BW λcdv A outer s H E hr=>
  (cW (p9 (sZ (Ll (N:=["k"]) (nt:=1) (caps:=[]) (au y8) ["word"] (by decide +kernel)) rfl (zQ (iV t.kr (nD 0))) (Kp.ok (xC (nt:=1) 0)) (λ_ _ _ _ _=>(zR 0 (by show gh (["k"]:List Str);decide +kernel))) (λ_ _ _ _ _=>Pr) (λ_ _ _ _ _=>(Pk nG kZ (nB 0))))))
 exact h
def JJ:qc P w K mg base 1 t.vC t.vD ["word"] qV:=by
 have h:=wG (P:=P) (w:=w) (base:=base) (k:=0) uE t.za λcdv A outer s H E hr=>
  (bJ (CU 1 (pM cH) uE.nd)
  (bJ (Es jA rfl (iL (nD 0)) (zR 2 uE.nd) (cW (Cf (CT (dz qP oU (PE.bB (p8 i9 k9 t.rz ki (aN (nB 1) cF))) (PE.bB cI) (bH _)) (Gq (dz (oY (cG.u6 hr)) lh (PE.bB (K2 (nL 1) (PE.bB (Pk nG kZ (PE.bB cI))))) (PE.bB (Pk nG kZ (nB 2))) (bH _)))).pt (cW (ad8 1)) (cW (ad7 1 (nD 2))))))
  (cW (Pq 1))))
 exact h
def Ig:qc P w K mg base 1 t.ji t.jj ["n"] dA:=by
 have h:=wG (P:=P) (w:=w) (base:=base) (k:=0) E9 t.gz λcdv A outer s H E hr=>
  (cW (p9 (IV rfl t.lP t.qw (aN (nB 0) cF))))
 exact h
def Xh:qc P w K mg base 1 t.Fe t.Ff ["n"] By:=by
 have h:=wG (P:=P) (w:=w) (base:=base) (k:=0) QW t.BX λcdv A outer s H E hr=>
  (cW (p9 (Vt rfl t.lP t.qw (aN (PE.bB (dN eQ ee (nB 0) (PE.bB cI))) (aN (PE.bB (Pk nG kZ (PE.bB cI))) (aN (PE.bB (Pk nG kZ (PE.bB cI))) cF))))))
 exact h
def FI:qc P w K mg base 1 t.kE t.kF ["row"] fg:=by
 have h:=wG (P:=P) (w:=w) (base:=base) (k:=0) mU t.kG λcdv A outer s H E hr=>
  (bJ (CU 1 (ahN (pM (aZ cI cH)) (PE.bB (p8 i9 k9 t.rz ki (aN (nB 0) cF)))) mU.nd)
  (bJ (Es jA rfl (iE t.qv (nD 0)) (gT2 2 rfl (vv (zR 2 mU.nd) (vv (zR 3 mU.nd) IX))) (cW (ED 1 (nB 3) (nD 2))))
  (cW (Pq 1))))
 exact h
def So:qc P w K mg base 1 t.yf t.yg ["row"] vA:=by
 have h:=wG (P:=P) (w:=w) (base:=base) (k:=0) NW t.vE λcdv A outer s H E hr=>
  (cW (p9 (sZ (Ll (N:=["k","row"]) (nt:=1) (caps:=[0]) (au BQ) ["row"] (by decide +kernel)) rfl (zQ (iR2 t.qw (aN (PE.bB cI) (aN (PE.bB (p8 i9 k9 t.rz ki (aN (nB 0) cF))) cF)))) (Kp.ok (xC (nt:=1) 0)) (λ_ _ _ _ _=>(zR 0 (by show gh (["k","row"]:List Str);decide +kernel))) (λ_ _ _ _ _=>(ts1 (dz qP oU (PE.bB (K2 (nL 1) (PE.bB (dN eQ ee (nB 0) (PE.bB cI))))) (PE.bB (K2 (nL 1) (nB 0))) (bH _)))) (λ_ _ _ _ _=>(nD 0)))))
 exact h
def rA:qc P w K mg base 1 t.cS t.cT ["row","k"] cg:=by
 have h:=wG (P:=P) (w:=w) (base:=base) (k:=0) qH t.cy λcdv A outer s H E hr=>
  (cW (p9 (En (PE.yQ (En (PE.yQ (wA (nL 0) oNo (Gr (PE.bB (dN eQ ee (nB 1) (PE.bB cI)))))) (PE.yQ (pM (aZ (K2 (nL 0) (nB 1)) (aZ (K2 (nL 0) (PE.bB (dN eQ ee (nB 1) (PE.bB cI)))) cH)))))) (PE.yQ (wA (nL 0) (Gr (PE.bB (dN l9 gQ (nB 1) (PE.bB cI)))) oNo)))))
 exact h
def B9:qc P w K mg base 1 t.mW t.mX ["row"] jH:=by
 have h:=wG (P:=P) (w:=w) (base:=base) (k:=0) zZ t.qI λcdv A outer s H E hr=>
  (cW (p9 (sZ (Ll (N:=["string","row"]) (nt:=1) (caps:=[0]) (au o7) ["row"] (by decide +kernel)) rfl (zQ (iV t.kr (nD 0))) (Kp.ok (xC (nt:=1) 0)) (λ_ _ _ _ _=>(zR 0 (by show gh (["string","row"]:List Str);decide +kernel))) (λ_ _ _ _ _=>Pr) (λ_ _ _ _ _=>(dN eQ ee (PE.bB (dN eQ ee (PE.bB (p8 i9 k9 t.rz ki (aN (nB 1) cF))) (PE.bB cI))) (nB 0))))))
 exact h
def JK:Ok P w K mg base 1 t.vG t.vH ["crossings"] qX:=by
 have h:=okS (P:=P) (w:=w) (base:=base) (k:=0) ql t.kH λcdv A outer s H E hr=>
  (bJ (oW 1 cI ql.nd)
  (bJ (Es jA rfl (iL (nD 0)) (zR 2 ql.nd) (cW (X0 1 aek (PE.bB (dN ZI Vx (PE.bB cI) (PE.bB (dN eQ ee (nB 2) (PE.bB cI))))) ql.nd)))
  (cW (lU (nD 1)))))
 exact h
def Ih:Ok P w K mg base 1 t.mz t.mB ["_law_cell","_law_k","_law_factor"] iA:=by
 have h:=okS (P:=P) (w:=w) (base:=base) (k:=0) Fc t.pe λcdv A outer s H E hr=>
  (cW (lU (dN wX xw (PE.bB (dN mf jr (PE.bB (dN IA Ek (PE.bB (dN l9 gQ (PE.bB (dN l9 gQ (PE.bB (dN IA Ek (PE.bB (dN mf jr (nB 0) (PE.bB cI))) (PE.bB cI))) (PE.bB (dN IA Ek (nB 1) (nB 1))))) (PE.bB cI))) (nB 2))) (PE.bB cI))) (PE.bB cI))))
 exact h
def z8:Ok P w K mg base 1 t.lH t.lI ["_law_script","_law_k"] gR:=by
 have h:=okS (P:=P) (w:=w) (base:=base) (k:=0) y9 t.ph λcdv A outer s H E hr=>
  (bJ (Cf (dz zy yR (nB 1) (PE.bB (p8 i9 k9 t.rz ki (aN (nB 0) cF))) (bH _)) (cW (lU (K2 (nL 0) (nB 1)))) qB)
  (cW (lU cI)))
 exact h
def z9:Ok P w K mg base 1 t.lJ t.lK ["_law_seed","_law_least","_law_most"] jf:=by
 have h:=okS (P:=P) (w:=w) (base:=base) (k:=0) rn t.pA λcdv A outer s H E hr=>
  (bJ (Cf (CT (dz (oY (cG.u6 hr)) lh (nB 1) (PE.bB cI) (bH _)) (Gq (dz (oY (cG.u6 hr)) lh (PE.bB (dN mf jr (nB 0) (PE.bB cI))) (PE.bB cI) (bH _)))).pt (cW (lU cI)) qB)
  (bJ (oW 1 (p8 (Nn rfl) Pp t.YJ aag (aN (PE.bB cI) (aN (nB 1) cF))) rn.nd)
  (cW (lU (dN l9 gQ (nB 1) (PE.bB (dN mf jr (PE.bB (dN wX xw (nB 0) (PE.bB cI))) (PE.bB (dN l9 gQ (PE.bB (dN eQ ee (nB 2) (nB 1))) (PE.bB cI))))))))))
 exact h
def zr:Ok P w K mg base 1 t.j8 t.j9 ["_law_number","_law_n"] iD:=by
 have h:=okS (P:=P) (w:=w) (base:=base) (k:=0) qm t.nN λcdv A outer s H E hr=>
  (bJ (oW 2 (dN l9 gQ (PE.bB cI) (PE.bB (dN mf jr (nB 0) (PE.bB (dN eQ ee (nB 1) (PE.bB cI)))))) qm.nd)
  (bJ (Cf (dz (oY (cG.u6 hr)) lh (PE.bB (dN mf jr (PE.bB (dN wX xw (nB 0) (PE.bB cI))) (PE.bB cI))) (PE.bB cI) (bH _)) (cW (lU (Pk nG kZ (nB 2)))) qB)
  (cW (lU (nD 2)))))
 exact h
def FJ:qc P w K mg base 1 t.qr t.qt ["_law_word"] kC:=by
 have h:=wG (P:=P) (w:=w) (base:=base) (k:=0) CH t.qu λcdv A outer s H E hr=>
  (cW (p9 (sZ (Ll (N:=["_law_k"]) (nt:=1) (caps:=[]) (au sG) ["_law_word"] (by decide +kernel)) rfl (zQ (iV t.kr (nD 0))) (Kp.ok (xC (nt:=1) 0)) (λ_ _ _ _ _=>(zR 0 (by show gh (["_law_k"]:List Str);decide +kernel))) (λ_ _ _ _ _=>Pr) (λ_ _ _ _ _=>(Pk nG kZ (nB 0))))))
 exact h
def Aa:Ok P w K mg base 1 t.lL t.lM ["_law_found","_law_n"] fH:=by
 have h:=okS (P:=P) (w:=w) (base:=base) (k:=0) gW t.lN λcdv A outer s H E hr=>
  (bJ (Cf (wz (Bd (Em (PE.bB (IU PD Gy t.gw t.Fl (nB 0))))) (wz (dz (mh (cG.u6 hr)) jx (PE.bB (p8 i9 k9 t.rz ki (aN (nB 0) cF))) (PE.bB cI) (bH _)) (Cy (Bd (Em (PE.bB (IU Ld rV t.gw t.lP (PE.bB (Eo (nD 0) (PE.bB cI)))))))))).pt (cW (lU Ow)) qB)
  (bJ (Cf (wz (Bd (Em (PE.bB (IU PB PF t.gw t.Q2 (PE.bB (Eo (nD 0) (PE.bB cI))))))) (wz (Em (PE.bB (IU Lc Le t.gw t.Jp (PE.bB (Eo (nD 0) (PE.bB cI)))))) (Cy (CT (dz (oY (cG.u6 hr)) lh (nB 1) (PE.bB cI) (bH _)) (Gq (dz (mh (cG.u6 hr)) jx (PE.bB (Eo (nD 0) (PE.bB cI))) (PE.bB cI) (bH _)))).pt))).pt (cW (lU Ow)) qB)
  (bJ (oW 2 cN gW.nd)
  (bJ (Es jA rfl (iL (Eo (nD 0) (PE.bB cI))) (zR 3 gW.nd) (bJ (Cf (wz (Bd (Em (PE.bB (IU Ld rV t.gw t.lP (nB 3))))) (Cy (dz (mh (cG.u6 hr)) jx (PE.bB (PE.eM (sZ (Ll (N:=["_law_s"]) (nt:=1) (caps:=[]) (au nK) ["_law_found","_law_n","_law_last","_law_row","_law_k"] (by decide +kernel)) rfl (zQ (iL (nD 3))) (Kp.ok (xC (nt:=1) 0)) (λ_ _ _ _ _=>(zR 0 (by show gh (["_law_s"]:List Str);decide +kernel))) (λ_ _ _ _ _=>(ts1 (wz (Bd (Em (PE.bB (IU PB PF t.gw t.Q2 (nB 0))))) (Cy (Em (PE.bB (IU Lc Le t.gw t.Jp (nB 0)))))).pt)) (λ_ _ _ _ _=>(nD 0))))) (PE.bB (PE.eM (pM cH))) (bH _)))).pt (cW (lU Ow)) qB)
  (bJ (Cf (wz (dz (mh (cG.u6 hr)) jx (PE.bB (PE.eM (Vo t.Hr (nL 3)))) (PE.bB (PE.eM (IV rfl t.lP t.qw (aN (nB 1) cF)))) (bH _)) (wz (dz (oY (cG.u6 hr)) lh (nB 3) (PE.bB (PE.eM (IV rfl t.lP t.qw (aN (nB 1) cF)))) (bH _)) (Cy (dz (oY (cG.u6 hr)) lh (nB 3) (PE.bB (PE.eM (aaH rfl t.lP t.kr t.qw (aN (nB 1) cF)))) (bH _))))).pt (cW (lU Ow)) qB)
  (bJ (Es jA rfl (iR2 t.qw (aN (PE.bB cI) (aN (nB 1) cF))) (zR 4 gW.nd) (cW (Cf (CT (dz TR PL (nB 2) (PE.bB cN) (bH _)) (CT (dz qP oU (PE.bB (P7 (nL 3) (PE.bB (dN eQ ee (nB 4) (PE.bB cI))))) (PE.bB (P7 (nL 3) (nB 4))) (bH _)) (Gq (dz zy yR (PE.bB (Eo (nD 2) (PE.bB (dN eQ ee (nB 4) (PE.bB cI))))) (PE.bB (Eo (nD 2) (nB 4))) (bH _))))).pt (cW (lU Ow)) qB)))
  (cW (oW 2 (nD 3) gW.nd))))))
  (cW (lU Ow))))))
 exact h
def Oi(fx:qc P w K mg base 1 t.kE t.kF ["row"] fg)(vK:qc P w K mg base 1 t.yf t.yg ["row"] vA):qc P w K mg base 2 t.yh t.yi ["row"] xV:=by
 have h:=wG (P:=P) (w:=w) (base:=base) (k:=1) Jo t.uJ λcdv A outer s H E hr=>
  (cW (p9 (Bh t.vE vK hr.mono (aZ (PE.eM (Bh t.kG fx hr.mono (aZ (nD 0) cH))) cH))))
 exact h
def sS(fx:qc P w K mg base 1 t.kE t.kF ["row"] fg)(cA:qc P w K mg base 1 t.cS t.cT ["row","k"] cg):qc P w K mg base 2 t.fQ t.fR ["row","k"] fO:=by
 have h:=wG (P:=P) (w:=w) (base:=base) (k:=1) rh t.dR λcdv A outer s H E hr=>
  (cW (p9 (Bh t.kG fx hr.mono (aZ (PE.eM (Bh t.cy cA hr.mono (aZ (PE.eM (Bh t.kG fx hr.mono (aZ (nD 0) cH))) (aZ (nD 1) cH)))) cH))))
 exact h
def Oj(dD:qc P w K mg base 1 t.ji t.jj ["n"] dA)(cA:qc P w K mg base 1 t.cS t.cT ["row","k"] cg):qc P w K mg base 2 t.yj t.yk ["n","word"] qY:=by
 have h:=wG (P:=P) (w:=w) (base:=base) (k:=1) sC t.ym λcdv A outer s H E hr=>
  (bJ (CU 2 (Bh t.gz dD hr.mono (aZ (nD 0) cH)) sC.nd)
  (bJ (Es jA rfl (iL (nD 1)) (zR 3 sC.nd) (bJ (Cf (dz zy yR (nB 3) (PE.bB cI) (bH _)) (cW aea) qB)
  (bJ (Cf (dz qP oU (PE.bB (K2 (nL 2) (PE.bB (dN eQ ee (nB 3) (PE.bB cI))))) (PE.bB (K2 (nL 2) (nB 3))) (bH _)) (cW aea) qB)
  (cW (CU 2 (ahM scl t.cy cA hr.mono (aN (nB 2) (aN (nB 3) cF))) sC.nd)))))
  (cW (Pq 2))))
 exact h
def Sq(fx:qc P w K mg base 1 t.kE t.kF ["row"] fg):qc P w K mg base 2 t.AQ t.AR ["row"] xW:=by
 have h:=wG (P:=P) (w:=w) (base:=base) (k:=1) NX t.Fg λcdv A outer s H E hr=>
  (cW (p9 (sZ (Ll (N:=["place","row"]) (nt:=1) (caps:=[0]) (au BR) ["row"] (by decide +kernel)) rfl (zQ (iL (PE.eM (Bh t.kG fx hr.mono (aZ (nD 0) cH))))) (Kp.ok (xC (nt:=1) 0)) (λ_ _ _ _ _=>(zR 0 (by show gh (["place","row"]:List Str);decide +kernel))) (λ_ _ _ _ _=>Pr) (λ_ _ _ _ _=>(dN eQ ee (PE.bB (dN eQ ee (PE.bB (p8 i9 k9 t.rz ki (aN (nB 1) cF))) (PE.bB cI))) (nB 0))))))
 exact h
def ab9(dD:qc P w K mg base 1 t.ji t.jj ["n"] dA):OkT P w K mg base 2 t.Mm t.Mn ["n","word"] G6:=by
 have h:=okT (P:=P) (w:=w) (base:=base) (k:=1) oy t.QZ λcdv A outer s H E hr=>
  (bJ (Yr 2 Yq oy.nd)
  (bJ (CU 3 (Bh t.gz dD hr.mono (aZ (nD 0) cH)) oy.nd)
  (bJ (oW 4 Ow oy.nd)
  (bJ (Es jA rfl (iL (nD 1)) (zR 5 oy.nd) (bJ (oW 6 (p8 F7 K3 t.Q1 PH (aN (nB 5) cF)) oy.nd)
  (bJ (Cf (wz (dz (oY (cG.u6 hr)) lh (PE.bB (p8 i9 k9 t.rz ki (aN (nB 2) cF))) (PE.bB cI) (bH _)) (wz (dz (mh (cG.u6 hr)) jx (nB 4) (PE.bB (UD qP oU (nB 5) (PE.bB cI) (bH _))) (bH _)) (Cy (dz qP oU (PE.bB (K2 (nL 3) (PE.bB (dN eQ ee (nB 6) (PE.bB cI))))) (PE.bB (K2 (nL 3) (nB 6))) (bH _))))).pt (bJ (Yt 2 (pM cH))
  (bJ (CU 3 (Bh t.gz dD hr.mono (aZ (nD 0) cH)) oy.nd)
  (cW (oW 4 (UD qP oU (nB 5) (PE.bB cI) (bH _)) oy.nd)))) qB)
  (bJ (aaC 2 (PE.bB (Pk nG kZ (PE.bB cI))) (nB 5))
  (bJ (oW 7 (K2 (nL 3) (nB 6)) oy.nd)
  (bJ (ED 3 (nB 6) (K2 (nL 3) (PE.bB (dN eQ ee (nB 6) (PE.bB cI)))))
  (cW (ED 3 (PE.bB (dN eQ ee (nB 6) (PE.bB cI))) (nD 7)))))))))
  (cW (Ys 2))))))
 exact h
def Ii(dD:qc P w K mg base 1 t.ji t.jj ["n"] dA):qc P w K mg base 2 t.sH t.sI ["n","form"] mj:=by
 have h:=okF (P:=P) (w:=w) (base:=base) (k:=1) Fb t.sJ λcdv A outer s H E hr=>
  (cW (p9 (En (PE.yQ (pM (aZ (vR (aZ (Eo (nD 1) (PE.bB cI)) (aZ (PE.eM (Bh t.gz dD hr.mono (aZ (nD 0) cH))) cH))) cH))) (PE.yQ (sZ (Ll (N:=["row"]) (nt:=1) (caps:=[]) (au uG) ["n","form"] (by decide +kernel)) rfl (zQ (iL (Eo (nD 1) (PE.bB cI)))) (Kp.ok (xC (nt:=1) 0)) (λ_ _ _ _ _=>(zR 0 (by show gh (["row"]:List Str);decide +kernel))) (λ_ _ _ _ _=>Pr) (λ_ _ _ _ _=>(vR (aZ cI (aZ (nD 0) cH)))))))))
 exact h
def Ca(qL:qc P w K mg base 1 t.mW t.mX ["row"] jH):qc P w K mg base 2 t.mZ t.m7 ["halves","row"] jI:=by
 have h:=wG (P:=P) (w:=w) (base:=base) (k:=1) z6 t.qJ λcdv A outer s H E hr=>
  (bJ (Cf (dz (oY (cG.u6 hr)) lh (PE.bB (dN mf jr (nB 0) (PE.bB cI))) (PE.bB cI) (bH _)) (cW (p9 (Gu t.lP (nL 1)))) qB)
  (cW (p9 (Bh t.qI qL hr.mono (aZ (nD 1) cH)))))
 exact h
def CI(nQ:Ok P w K mg base 1 t.j8 t.j9 ["_law_number","_law_n"] iD):Ok P w K mg base 2 t.oA t.oB ["_law_number","_law_n"] lB:=by
 have h:=okD (P:=P) (w:=w) (base:=base) (k:=1) o9 t.sL λcdv A outer s H E hr=>
  (bJ (oW 2 (XC X5 t.nN nQ hr.mono (aN (nB 0) (aN (nB 1) cF))) o9.nd)
  (bJ (Cf (wz (dz qP oU (PE.bB (dN mf jr (PE.bB (dN wX xw (nB 0) (PE.bB cI))) (PE.bB cI))) (PE.bB cI) (bH _)) (Cy (dz zy yR (nB 1) (PE.bB cI) (bH _)))).pt (cW (lU (PE.eM (pM (aZ (nD 2) cH))))) qB)
  (bJ (oW 3 (vIf (CT (dz zy yR (PE.bB (p8 F7 K3 t.Q1 PH (aN (PE.bB (dN l9 gQ (nB 2) (PE.bB cI))) cF))) (nB 1) (bH _)) (Gq (dz (mh (cG.u6 hr)) jx (PE.bB (dN l9 gQ (nB 2) (PE.bB cI))) (PE.bB cI) (bH _)))).pt (dN l9 gQ (nB 2) (PE.bB cI)) (dN eQ ee (nB 2) (PE.bB cI))) o9.nd)
  (cW (lU (K2 (PE.yQ (pM (aZ (PE.eM (pM (aZ (nD 2) (aZ (nD 3) (aZ (nD 2) cH))))) (aZ (PE.eM (pM (aZ (nD 2) (aZ (nD 3) cH)))) (aZ (PE.eM (pM (aZ (nD 2) (aZ (nD 2) cH)))) (aZ (PE.eM (pM (aZ (nD 2) (aZ (Pk nG kZ (nB 3)) (aZ (nD 2) cH))))) cH)))))) (PE.bB (dN mf jr (PE.bB (dN wX xw (nB 0) (PE.bB cI))) (PE.bB cI)))))))))
 exact h
def Cb(FN:qc P w K mg base 2 t.AQ t.AR ["row"] xW):Ok P w K mg base 3 t.jJ t.jK ["row"] fj:=by
 have h:=okD (P:=P) (w:=w) (base:=base) (k:=2) z5 t.mY λcdv A outer s H E hr=>
  (cW (lU (vR (aZ (Pk nG kZ (PE.bB cI)) (aZ (PE.eM (Bh t.Fg FN hr.mono (aZ (nD 0) cH))) cH)))))
 exact h
def tX(qM:qc P w K mg base 2 t.mZ t.m7 ["halves","row"] jI):OkT P w K mg base 3 t.gq t.gu ["steps"] bx:=by
 have h:=okT (P:=P) (w:=w) (base:=base) (k:=2) dC t.dY λcdv A outer s H E hr=>
  (bJ (Yr 1 Yq dC.nd)
  (bJ (oW 2 cI dC.nd)
  (bJ (Es jA rfl (iV t.kr (nD 0)) (zR 3 dC.nd) (bJ (Yt 1 (Bh t.qJ qM hr.mono (aZ (nD 2) (aZ (Eo (nD 3) (PE.bB cI)) cH))))
  (cW (X0 2 OS (PE.bB (Eo (nD 3) (PE.bB cI))) dC.nd))))
  (bJ (aem 1)
  (cW (Ys 1))))))
 exact h
def CJ(iC:Ok P w K mg base 1 t.mz t.mB ["_law_cell","_law_k","_law_factor"] iA)(sU:Ok P w K mg base 2 t.oA t.oB ["_law_number","_law_n"] lB):qc P w K mg base 3 t.oE t.oF ["_law_cells","_law_n","_law_most"] lC:=by
 have h:=wG (P:=P) (w:=w) (base:=base) (k:=2) jh t.sM λcdv A outer s H E hr=>
  (bJ (oW 3 (PE.eM (pM cH)) jh.nd)
  (bJ (Es jA rfl (iE t.qv (nD 0)) (gT2 2 rfl (vv (zR 4 jh.nd) (vv (zR 5 jh.nd) IX))) (cW (Cf (dz qP oU (nB 1) (PE.bB cI) (bH _)) (cW (oW 3 (PE.eM (En (nL 3) (PE.ahc (fD1 t.sL sU hr.mono (aZ (XC X5 t.pe iC hr.mono (aN (nB 5) (aN (nB 4) (aN (PE.bB cI) cF)))) (aZ (nD 1) cH)))))) jh.nd)) qB)))
  (cW (p9 (wA (nL 3) oNo (Gr (nB 2)))))))
 exact h
def JL(Cc:qc P w K mg base 1 t.yd t.ye ["word"] uq)(yz:qc P w K mg base 2 t.yj t.yk ["n","word"] qY)(iH:Ok P w K mg base 3 t.jJ t.jK ["row"] fj):Ok P w K mg base 4 t.vI t.vJ ["n","piece"] qZ:=by
 have h:=okD (P:=P) (w:=w) (base:=base) (k:=3) Hq t.zb λcdv A outer s H E hr=>
  (bJ (Cf (dz qP oU (PE.bB (K2 (nL 1) (PE.bB cI))) (PE.bB cI) (bH _)) (cW (lU (vR (aZ cI (aZ (PE.eM (Bh t.ym yz hr.mono (aZ (nD 0) (aZ (nD 1) cH)))) cH))))) qB)
  (cW (lU (fD1 t.mY iH hr.mono (aZ (PE.eM (Bh t.ym yz hr.mono (aZ (nD 0) (aZ (PE.eM (Bh t.BW Cc hr.mono (aZ (nD 1) cH))) cH)))) cH)))))
 exact h
def FO(iC:Ok P w K mg base 1 t.mz t.mB ["_law_cell","_law_k","_law_factor"] iA)(sV:qc P w K mg base 3 t.oE t.oF ["_law_cells","_law_n","_law_most"] lC):Ok P w K mg base 4 t.qo t.qp ["_law_cells","_law_n","_law_most"] gg:=by
 have h:=okD (P:=P) (w:=w) (base:=base) (k:=3) mV t.qq λcdv A outer s H E hr=>
  (bJ (oW 3 (PE.eM (Bh t.sM sV hr.mono (aZ (PE.eM (wA (nL 0) oNo (Gr (PE.bB cI)))) (aZ (nD 1) (aZ cI cH))))) mV.nd)
  (bJ (Cf (dz ac5 Z1 (PE.bB (p8 i9 k9 t.rz ki (aN (nB 3) cF))) (nB 2) (bH _)) (cW (lU (nD 3))) qB)
  (bJ (oW 4 (aec rfl t.Q3 (PE.yQ (sZ (Ll (N:=["_law_k","_law_cell"]) (nt:=2) (caps:=[]) (au sE) ["_law_cells","_law_n","_law_most","_law_word","_law_total","_law_at"] (by decide +kernel)) rfl (zQ (iE t.qv (nD 0))) (Kp.ok (ahR 2 (Ls (xC (nt:=2) 0) (Ls (xC (nt:=2) 1) aat)))) (λ_ _ _ _ _=>(gT2 2 rfl (vv (zR 0 (by show gh (["_law_k","_law_cell"]:List Str);decide +kernel)) (vv (zR 1 (by show gh (["_law_k","_law_cell"]:List Str);decide +kernel)) IX)))) (λ_ _ _ _ _=>Pr) (λ_ _ _ _ _=>(XC X5 t.pe iC hr.mono (aN (nB 1) (aN (nB 0) (aN (PE.bB cI) cF)))))))) mV.nd)
  (bJ (oW 5 (dN mf jr (nB 4) (PE.bB (dN l9 gQ (PE.bB (dN eQ ee (PE.bB (p8 i9 k9 t.rz ki (aN (nB 3) cF))) (nB 2))) (PE.bB cI)))) mV.nd)
  (cW (lU (PE.eM (wA (nL 3) (Gr (nB 5)) (Gr (PE.bB (dN l9 gQ (nB 5) (nB 2))))))))))))
 exact h
def zt(zu:qc P w K mg base 1 t.vC t.vD ["word"] qV)(Ss:OkT P w K mg base 2 t.Mm t.Mn ["n","word"] G6)(zw:Ok P w K mg base 4 t.vI t.vJ ["n","piece"] qZ):Ok P w K mg base 5 t.j0 t.j7 ["n","word"] eI:=by
 have h:=okD (P:=P) (w:=w) (base:=base) (k:=4) yc t.nM λcdv A outer s H E hr=>
  (cW (lU (PE.eM (sZ (Ll (N:=["piece","n"]) (nt:=1) (caps:=[0]) (au my) ["n","word"] (by decide +kernel)) rfl (iLS (PE.ah3 (fT1 t.QZ Ss hr.mono (aN (nB 0) (aN (PE.bB (PE.eM (Bh t.za zu hr.mono (aZ (nD 1) cH)))) cF))))) (Kp.ok (xC (nt:=1) 0)) (λ_ _ _ _ _=>(zR 0 (by show gh (["piece","n"]:List Str);decide +kernel))) (λ_ _ _ _ _=>Pr) (λ_ _ _ _ _=>(fD1 t.zb zw hr.mono (aZ (nD 1) (aZ (nD 0) cH))))))))
 exact h
def Xi(di:zT P w K mg base 9 t.fY t.fZ ["n","steps"] br)(nR:Ok P w K mg base 5 t.j0 t.j7 ["n","word"] eI):zT P w K mg base 10 t.Fi t.Fj ["n","word"] lF:=by
 have h:=aaI (P:=P) (w:=w) (base:=base) (k:=9) QY t.uK λcdv A outer s H E hr=>
  (cW (I9 (tU t.iF di hr.mono (aN (nB 0) (aN (PE.bB (fD1 t.nM nR hr.mono (aZ (nD 0) (aZ (nD 1) cH)))) cF)))))
 exact h
def Cd(sW:qc P w K mg base 2 t.sH t.sI ["n","form"] mj)(di:zT P w K mg base 9 t.fY t.fZ ["n","steps"] br):zT P w K mg base 10 t.m8 t.m9 ["n","one","other"] cX:=by
 have h:=aaI (P:=P) (w:=w) (base:=base) (k:=9) z7 t.fq λcdv A outer s H E hr=>
  (cW (I9 (tU t.iF di hr.mono (aN (nB 0) (aN (PE.bB (PE.eM (En (PE.yQ (Bh t.sJ sW hr.mono (aZ (nD 0) (aZ (nD 1) cH)))) (PE.yQ (Bh t.sJ sW hr.mono (aZ (nD 0) (aZ (nD 2) cH))))))) cF)))))
 exact h
def Ce(dD:qc P w K mg base 1 t.ji t.jj ["n"] dA)(iH:Ok P w K mg base 3 t.jJ t.jK ["row"] fj)(di:zT P w K mg base 9 t.fY t.fZ ["n","steps"] br):zT P w K mg base 10 t.nc t.ng ["n","one"] dB:=by
 have h:=aaI (P:=P) (w:=w) (base:=base) (k:=9) tH t.jL λcdv A outer s H E hr=>
  (bJ (ad0 2 (adS 2 (Ll (N:=["row"]) (nt:=1) (caps:=[]) (au o8) ["n","one","steps"] (by decide +kernel)) rfl (zQ (iV t.kr (Eo (nD 1) (PE.bB cI)))) (Kp.ok (xC (nt:=1) 0)) (λ_ _ _ _ _=>(zR 0 (by show gh (["row"]:List Str);decide +kernel))) (λ_ _ _ _ _=>Pr) (λ_ _ _ _ _=>(fD1 t.mY iH hr.mono (aZ (nD 0) cH))) tH.nd))
  (cW (I9 (tU t.iF di hr.mono (aN (nB 0) (aN (PE.bB (PE.eM (En (nL 2) (PE.yQ (pM (aZ (vR (aZ (Pk nG kZ (PE.bB (Eo (nD 1) (PE.bB cI)))) (aZ (PE.eM (Bh t.gz dD hr.mono (aZ (nD 0) cH))) cH))) cH)))))) cF))))))
 exact h
def aca(uP:zT P w K mg base 10 t.Fi t.Fj ["n","word"] lF)(fy:zT P w K mg base 10 t.m8 t.m9 ["n","one","other"] cX)(jN:zT P w K mg base 10 t.nc t.ng ["n","one"] dB)(iC:Ok P w K mg base 1 t.mz t.mB ["_law_cell","_law_k","_law_factor"] iA)(pF:Ok P w K mg base 1 t.lH t.lI ["_law_script","_law_k"] gR)(pG:Ok P w K mg base 1 t.lJ t.lK ["_law_seed","_law_least","_law_most"] jf)(qy:Ok P w K mg base 4 t.qo t.qp ["_law_cells","_law_n","_law_most"] gg)(qz:qc P w K mg base 1 t.qr t.qt ["_law_word"] kC)(lQ:Ok P w K mg base 1 t.lL t.lM ["_law_found","_law_n"] fH):Ok P w K mg base 11 t.Q0 t.Mp ["_law_script"] BO:=by
 have h:=okS (P:=P) (w:=w) (base:=base) (k:=10) jz t.YH λcdv A outer s H E hr=>
  (bJ (oW 1 (dN mf jr (PE.bB (XC X5 t.ph pF hr.mono (aN (nB 0) (aN (PE.bB cI) cF)))) (PE.bB (dN ZG UG (PE.bB cI) (PE.bB cI)))) jz.nd)
  (bJ (oW 2 (XC X5 t.pA pG hr.mono (aN (nB 1) (aN (PE.bB cI) (aN (PE.bB cI) cF)))) jz.nd)
  (bJ (oW 3 (dN mf jr (PE.bB (XC X5 t.pe iC hr.mono (aN (nB 1) (aN (PE.bB cI) (aN (PE.bB cI) cF))))) (PE.bB (dN l9 gQ (PE.bB (p8 i9 k9 t.rz ki (aN (nB 0) cF))) (PE.bB cI)))) jz.nd)
  (bJ (oW 4 (vIf (dz zy yR (nB 2) (PE.bB cI) (bH _)) cI cI) jz.nd)
  (bJ (aeb 5 6 rfl jz.nd (aZ (fD1 t.qq qy hr.mono (aZ (PE.eM (wA (nL 0) oNo (Gr (nB 3)))) (aZ (nD 2) (aZ (nD 4) cH)))) (aZ (fD1 t.qq qy hr.mono (aZ (PE.eM (wA (nL 0) (Gr (nB 3)) oNo)) (aZ (nD 2) (aZ (nD 4) cH)))) cH)))
  (bJ (aeb 7 8 rfl jz.nd (aZ (PE.xK (tU t.uK uP hr.mono (aN (nB 2) (aN (PE.bB (PE.eM (Gu t.lP (nL 5)))) cF)))) (aZ (PE.xK (tU t.uK uP hr.mono (aN (nB 2) (aN (PE.bB (PE.eM (Gu t.lP (nL 6)))) cF)))) cH)))
  (bJ (oW 9 (vR (aZ (vR (aZ (Eo (nD 7) (PE.bB cI)) (aZ (PE.eM (sZ (Ll (N:=["_law_row"]) (nt:=1) (caps:=[]) (au Fd) ["_law_script","_law_seed","_law_n","_law_cut","_law_most","_law_one","_law_other","_law_first","_law_second","_law_kept","_law_found","_law_back_here","_law_told","_law_row","_law_turns"] (by decide +kernel)) rfl (zQ (iL (Eo (nD 7) (PE.bB cI)))) (Kp.ok (xC (nt:=1) 0)) (λ_ _ _ _ _=>(zR 0 (by show gh (["_law_row"]:List Str);decide +kernel))) (λ_ _ _ _ _=>Pr) (λ_ _ _ _ _=>(PE.eM (Gu t.lP (nL 0)))))) cH))) (aZ (vR (aZ (Eo (nD 8) (PE.bB cI)) (aZ (PE.eM (sZ (Ll (N:=["_law_row"]) (nt:=1) (caps:=[]) (au Fd) ["_law_script","_law_seed","_law_n","_law_cut","_law_most","_law_one","_law_other","_law_first","_law_second","_law_kept","_law_found","_law_back_here","_law_told","_law_row","_law_turns"] (by decide +kernel)) rfl (zQ (iL (Eo (nD 8) (PE.bB cI)))) (Kp.ok (xC (nt:=1) 0)) (λ_ _ _ _ _=>(zR 0 (by show gh (["_law_row"]:List Str);decide +kernel))) (λ_ _ _ _ _=>Pr) (λ_ _ _ _ _=>(PE.eM (Gu t.lP (nL 0)))))) cH))) cH))) jz.nd)
  (bJ (I8 10 (tU t.fq fy hr.mono (aN (nB 2) (aN (nB 7) (aN (nB 8) cF)))) jz.nd)
  (bJ (Cf (wz (Bd (Em (PE.bB (XC X5 t.lN lQ hr.mono (aN (nB 10) (aN (nB 2) cF)))))) (Cy (dz (mh (cG.u6 hr)) jx (nB 10) (PE.bB (PE.xK (tU t.uK uP hr.mono (aN (nB 2) (aN (PE.bB (PE.eM (En (nL 5) (nL 6)))) cF))))) (bH _)))).pt (cW (lU Ow)) qB)
  (bJ (I8 11 (tU t.jL jN hr.mono (aN (nB 2) (aN (nB 7) cF))) jz.nd)
  (bJ (Cf (wz (Bd (Em (PE.bB (XC X5 t.lN lQ hr.mono (aN (nB 11) (aN (nB 2) cF)))))) (wz (dz (mh (cG.u6 hr)) jx (nB 11) (PE.bB (PE.xK (tU t.uK uP hr.mono (aN (nB 2) (aN (PE.bB (PE.eM (Bh t.qu qz hr.mono (aZ (nD 5) cH)))) cF))))) (bH _)) (Cy (dz (mh (cG.u6 hr)) jx (PE.bB (vR (aZ (nD 7) (aZ (nD 8) cH)))) (nB 9) (bH _))))).pt (cW (lU Ow)) qB)
  (bJ (Cf (wz (dz (mh (cG.u6 hr)) jx (PE.bB (PE.xK (tU t.fq fy hr.mono (aN (nB 2) (aN (nB 7) (aN (nB 11) cF)))))) (PE.bB (vR (aZ cI (aZ (PE.eM (pM cH)) cH)))) (bH _)) (Cy (dz (mh (cG.u6 hr)) jx (PE.bB (PE.xK (tU t.fq fy hr.mono (aN (nB 2) (aN (nB 11) (aN (nB 7) cF)))))) (PE.bB (vR (aZ cI (aZ (PE.eM (pM cH)) cH)))) (bH _)))).pt (cW (lU Ow)) qB)
  (bJ (aep 12 13 10 11 2 jA rfl jz.nd (tU t.jL jN hr.mono (aN (nB 2) (aN (nB 7) cF))) (tU t.fq fy hr.mono (aN (nB 2) (aN (PE.bB (vR (aZ cI (aZ (PE.eM (pM cH)) cH)))) (aN (nB 8) cF)))) (tU t.fq fy hr.mono (aN (nB 2) (aN (nB 7) (aN (PE.bB (vR (aZ cI (aZ (PE.eM (pM cH)) cH)))) cF)))))
  (bJ (Cf (dz (mh (cG.u6 hr)) jx (PE.bB (vR (aZ (nD 7) (aZ (nD 8) cH)))) (nB 9) (bH _)) (cW (lU Ow)) qB)
  (bJ (oW 14 (vR (aZ (vIf (dz qP oU (nB 2) (PE.bB cI) (bH _)) (dN eQ ee (PE.bB (dN mf jr (nB 3) (PE.bB cI))) (PE.bB cI)) cI) (aZ (PE.eM (pM cH)) cH))) jz.nd)
  (bJ (I8 12 (tU t.jL jN hr.mono (aN (nB 2) (aN (nB 14) cF))) jz.nd)
  (bJ (aaQ 12 (PE.bB cI) (PE.eM (pM (aZ (nD 2) cH))))
  (bJ (Cf (dz (mh (cG.u6 hr)) jx (PE.bB (Eo (nD 14) (PE.bB cI))) (PE.bB (PE.eM (pM cH))) (bH _)) (cW (lU Ow)) qB)
  (cW (lU (ahf (PE.bB (UD (oY (cG.u6 hr)) lh (PE.bB (PE.xK (tU t.uK uP hr.mono (aN (nB 2) (aN (PE.bB (PE.eM (En (nL 5) (PE.yQ (Bh t.qu qz hr.mono (aZ (nD 5) cH)))))) cF))))) (PE.bB (vR (aZ cI (aZ (PE.eM (pM cH)) cH)))) (bH _))) (ahe (UD (oY (cG.u6 hr)) lh (PE.bB (PE.xK (tU t.fq fy hr.mono (aN (nB 2) (aN (nB 8) (aN (nB 7) cF)))))) (PE.bB (PE.xK (tU t.uK uP hr.mono (aN (nB 2) (aN (PE.bB (PE.eM (En (nL 6) (nL 5)))) cF))))) (bH _))))))))))))))))))))))))
 exact h
end
@[irreducible] noncomputable def Kw (w:aE):ak:=H.K w.params
def Zc(w:aE):Kw w=H.K w.params:=by kernel_rfl
def vN{K:ak}{h:aC}{mg:Str->Option ah}{x:String}{st:aD}{ps:List Str}{f c:ae}{m:ah}(X:K.In h)(G:h.Ns dH mg)
  (e:(rR K dH (cV x),K.lookup f,xf K (.ref c) (cV x),jP K (.ref f))=(aa (aa (.ref f)),aa (DL.H.hf (cV x) (cV x) st m c),true,true))
  (hb:∀(kV doc pm:ah)(an:Option ae)(cdv ct:ah)(us:List ah),us.length=ps.length->nW (gf (cV x) (cV x) (iT st) (dq st) (au st) .none kV doc pm an cdv ct) ⟨us,[]⟩=aW (ps.zip us)):
  Df K mg (cV x) st ps f (gf (cV x) (cV x) (iT st) (dq st) (au st) .none .none .none m none (.ref c) .none):=dfm X G (congrArg (·.1) e) (congrArg (·.2.1) e) (congrArg (·.2.2.1) e) (congrArg (·.2.2.2) e) hb
def JM{x q:Str}{a:Ak}{b:List aD}{s:cU}{p0:Str}(h:∀(kV doc pm:ah)(an:Option ae)(cdv ct v0:ah),nW (gf x q a b s .none kV doc pm an cdv ct) ⟨[v0],[]⟩=aW [(p0,v0)])(kV doc pm:ah)(an:Option ae)(cdv ct:ah)(us:List ah)(hl:us.length=[p0].length):nW (gf x q a b s .none kV doc pm an cdv ct) ⟨us,[]⟩=aW ([p0].zip us):=match us,hl with|[v0],_=>h _ _ _ _ _ _ _
def FZ{x q:Str}{a:Ak}{b:List aD}{s:cU}{p0 p1:Str}(h:∀(kV doc pm:ah)(an:Option ae)(cdv ct v0 v1:ah),nW (gf x q a b s .none kV doc pm an cdv ct) ⟨[v0,v1],[]⟩=aW [(p0,v0),(p1,v1)])(kV doc pm:ah)(an:Option ae)(cdv ct:ah)(us:List ah)(hl:us.length=[p0,p1].length):nW (gf x q a b s .none kV doc pm an cdv ct) ⟨us,[]⟩=aW ([p0,p1].zip us):=match us,hl with|[v0,v1],_=>h _ _ _ _ _ _ _ _
def Xj{x q:Str}{a:Ak}{b:List aD}{s:cU}{p0 p1 p2:Str}(h:∀(kV doc pm:ah)(an:Option ae)(cdv ct v0 v1 v2:ah),nW (gf x q a b s .none kV doc pm an cdv ct) ⟨[v0,v1,v2],[]⟩=aW [(p0,v0),(p1,v1),(p2,v2)])(kV doc pm:ah)(an:Option ae)(cdv ct:ah)(us:List ah)(hl:us.length=[p0,p1,p2].length):nW (gf x q a b s .none kV doc pm an cdv ct) ⟨us,[]⟩=aW ([p0,p1,p2].zip us):=match us,hl with|[v0,v1,v2],_=>h _ _ _ _ _ _ _ _ _
def Zd(K:ak){C:ae}{x q:String}{st:aD}{f c:ae}{m:ah}
  (e:(dW K (.ref C) (cV x),D0 K (.ref f),K.lookup f,xf K (.ref c) (cV q),jP K (.ref f))=(aa (aa (.ref f)),true,aa (DL.H.hf (cV x) (cV q) st m c),true,true)):
  Gd K (cV x) (cV q) st f (gf (cV x) (cV q) (iT st) (dq st) (au st) .none .none .none m none (.ref c) .none)/\Meth K C (cV x) f:=
 ⟨IM (congrArg (·.2.2.1) e) (congrArg (·.2.2.2.1) e) (congrArg (·.2.2.2.2) e),congrArg (·.1) e,congrArg (·.2.1) e,congrArg (·.2.2.2.2) e⟩
def all_mk{l:KQ}{w:aE}{h:aC}{mg:Str->Option ah}{fa:ae}(X:(Kw w).In h)(G:h.Ns dH mg)(hfa:mg "law"=aa (.ref fa)):
  ∃fd:aL,(∀(s:aj)(v:ah),uZ s fd ⟨[v],[]⟩ [("_law_script",v)])/\∀base:aC,(Kw w).In base->base.Ns dH mg->fA l.prog w (Kw w) mg base oN 11 fa fd ["_law_script"] (K5 (Kw w) Oz BO):=by
 have e:=hfa.symm.trans (EI X G (show rR (Kw w) dH "law"=aa (aa (.ref 321))by kernel_rfl));cases e;have yC:rR (Kw w) dH "Comb"=aa (aa (.ref 186)):=by kernel_rfl
 have ypg:Ah (Kw w) 186 Kh=true:=by kernel_rfl
 have yhd:DZ (Kw w) 186=true:=by kernel_rfl
 have ypo:Ke (Kw w) 186=true:=by kernel_rfl
 have ysa:dW (Kw w) (.ref 186) "__setattr__"=aa (aa (.builtin "object.__setattr__")):=by kernel_rfl
 have ymk:Kg (Kw w) 186=true:=by kernel_rfl
 have ykc:jP (Kw w) (.ref 186)=true:=by kernel_rfl
 have yn0:dW (Kw w) (.ref 186) "known"=aa none:=by kernel_rfl
 have yn1:dW (Kw w) (.ref 186) "numbers"=aa none:=by kernel_rfl
 have yn2:dW (Kw w) (.ref 186) "firsts"=aa none:=by kernel_rfl
 have yn3:dW (Kw w) (.ref 186) "lasts"=aa none:=by kernel_rfl
 have yn4:dW (Kw w) (.ref 186) "shorter"=aa none:=by kernel_rfl
 have yn5:dW (Kw w) (.ref 186) "longer"=aa none:=by kernel_rfl
 have yn6:dW (Kw w) (.ref 186) "kept"=aa none:=by kernel_rfl
 have yn7:dW (Kw w) (.ref 186) "line"=aa none:=by kernel_rfl
 have yn8:dW (Kw w) (.ref 186) "none"=aa none:=by kernel_rfl
 have yn9:dW (Kw w) (.ref 186) "whole"=aa none:=by kernel_rfl
 let t:Tb (Kw w) mg:={yd:=44,ye:=_,BW:=vN X G (c:=43) (m:=H.w1) (by kernel_rfl) (JM λ_ _ _ _ _ _ _=>rfl),vC:=51,vD:=_,za:=vN X G (c:=50) (m:=H.w1) (by kernel_rfl) (JM λ_ _ _ _ _ _ _=>rfl),ji:=58,jj:=_,gz:=vN X G (c:=57) (m:=H.w2) (by kernel_rfl) (JM λ_ _ _ _ _ _ _=>rfl),Fe:=65,Ff:=_,BX:=vN X G (c:=64) (m:=H.w2) (by kernel_rfl) (JM λ_ _ _ _ _ _ _=>rfl),kE:=72,kF:=_,kG:=vN X G (c:=71) (m:=H.w2) (by kernel_rfl) (JM λ_ _ _ _ _ _ _=>rfl),yf:=77,yg:=_,vE:=vN X G (c:=76) (m:=H.w2) (by kernel_rfl) (JM λ_ _ _ _ _ _ _=>rfl),yh:=84,yi:=_,uJ:=vN X G (c:=83) (m:=H.w2) (by kernel_rfl) (JM λ_ _ _ _ _ _ _=>rfl),cS:=91,cT:=_,cy:=vN X G (c:=90) (m:=H.w2) (by kernel_rfl) (FZ λ_ _ _ _ _ _ _ _=>rfl),fQ:=98,fR:=_,dR:=vN X G (c:=97) (m:=H.w2) (by kernel_rfl) (FZ λ_ _ _ _ _ _ _ _=>rfl),yj:=105,yk:=_,ym:=vN X G (c:=104) (m:=H.w2) (by kernel_rfl) (FZ λ_ _ _ _ _ _ _ _=>rfl),AQ:=110,AR:=_,Fg:=vN X G (c:=109) (m:=H.w2) (by kernel_rfl) (JM λ_ _ _ _ _ _ _=>rfl),mW:=115,mX:=_,qI:=vN X G (c:=114) (m:=H.w2) (by kernel_rfl) (JM λ_ _ _ _ _ _ _=>rfl),vG:=122,vH:=_,kH:=vN X G (c:=121) (m:=H.w3) (by kernel_rfl) (JM λ_ _ _ _ _ _ _=>rfl),Mm:=197,Mn:=_,QZ:=vN X G (c:=196) (m:=H.w4) (by kernel_rfl) (FZ λ_ _ _ _ _ _ _ _=>rfl),jJ:=204,jK:=_,mY:=vN X G (c:=203) (m:=H.w4) (by kernel_rfl) (JM λ_ _ _ _ _ _ _=>rfl),vI:=211,vJ:=_,zb:=vN X G (c:=210) (m:=H.w4) (by kernel_rfl) (FZ λ_ _ _ _ _ _ _ _=>rfl),sH:=216,sI:=_,sJ:=vN X G (c:=215) (m:=H.w4) (by kernel_rfl) (FZ λ_ _ _ _ _ _ _ _=>rfl),mZ:=223,m7:=_,qJ:=vN X G (c:=222) (m:=H.w4) (by kernel_rfl) (FZ λ_ _ _ _ _ _ _ _=>rfl),gq:=230,gu:=_,dY:=vN X G (c:=229) (m:=H.w4) (by kernel_rfl) (JM λ_ _ _ _ _ _ _=>rfl),fY:=235,fZ:=_,iF:=vN X G (c:=234) (m:=H.w4) (by kernel_rfl) (FZ λ_ _ _ _ _ _ _ _=>rfl),j0:=240,j7:=_,nM:=vN X G (c:=239) (m:=H.w4) (by kernel_rfl) (FZ λ_ _ _ _ _ _ _ _=>rfl),Fi:=247,Fj:=_,uK:=vN X G (c:=246) (m:=H.w4) (by kernel_rfl) (FZ λ_ _ _ _ _ _ _ _=>rfl),m8:=254,m9:=_,fq:=vN X G (c:=253) (m:=H.w4) (by kernel_rfl) (Xj λ_ _ _ _ _ _ _ _ _=>rfl),nc:=259,ng:=_,jL:=vN X G (c:=258) (m:=H.w4) (by kernel_rfl) (FZ λ_ _ _ _ _ _ _ _=>rfl),mz:=266,mB:=_,pe:=vN X G (c:=265) (m:=H.w5) (by kernel_rfl) (Xj λ_ _ _ _ _ _ _ _ _=>rfl),lH:=273,lI:=_,ph:=vN X G (c:=272) (m:=H.w5) (by kernel_rfl) (FZ λ_ _ _ _ _ _ _ _=>rfl),lJ:=280,lK:=_,pA:=vN X G (c:=279) (m:=H.w5) (by kernel_rfl) (Xj λ_ _ _ _ _ _ _ _ _=>rfl),j8:=287,j9:=_,nN:=vN X G (c:=286) (m:=H.w5) (by kernel_rfl) (FZ λ_ _ _ _ _ _ _ _=>rfl),oA:=294,oB:=_,sL:=vN X G (c:=293) (m:=H.w5) (by kernel_rfl) (FZ λ_ _ _ _ _ _ _ _=>rfl),oE:=301,oF:=_,sM:=vN X G (c:=300) (m:=H.w5) (by kernel_rfl) (Xj λ_ _ _ _ _ _ _ _ _=>rfl),qo:=306,qp:=_,qq:=vN X G (c:=305) (m:=H.w5) (by kernel_rfl) (Xj λ_ _ _ _ _ _ _ _ _=>rfl),qr:=311,qt:=_,qu:=vN X G (c:=310) (m:=H.w5) (by kernel_rfl) (JM λ_ _ _ _ _ _ _=>rfl),lL:=316,lM:=_,lN:=vN X G (c:=315) (m:=H.w5) (by kernel_rfl) (FZ λ_ _ _ _ _ _ _ _=>rfl),Q0:=321,Mp:=_,YH:=vN X G (c:=320) (m:=H.w5) (by kernel_rfl) (JM λ_ _ _ _ _ _ _=>rfl),Q1:=kc X G (by kernel_rfl),Jp:=kc X G (by kernel_rfl),qv:=kc X G (by kernel_rfl),Q2:=kc X G (by kernel_rfl),gw:=kc X G (by kernel_rfl),rz:=kc X G (by kernel_rfl),lP:=kc X G (by kernel_rfl),YJ:=kc X G (by kernel_rfl),qw:=kc X G (by kernel_rfl),kr:=kc X G (by kernel_rfl),Hr:=kc X G (by kernel_rfl),Q3:=kc X G (by kernel_rfl),Fl:=kc X G (by kernel_rfl),yn:=319,yo:=EI X G (by kernel_rfl)}
 refine⟨_,λs v=>(?_:uZ s t.Mp ⟨[v],[]⟩ [("_law_script",v)]),λbase _ _=>?_⟩
 ·exact .of_eq rfl
 have Cc:= @Oh l.prog w (Kw w) mg base t;have zu:= @JJ l.prog w (Kw w) mg base t;have dD:= @Ig l.prog w (Kw w) mg base t;have acb:= @Xh l.prog w (Kw w) mg base t;have fx:= @FI l.prog w (Kw w) mg base t;have vK:= @So l.prog w (Kw w) mg base t;have cA:= @rA l.prog w (Kw w) mg base t;have qL:= @B9 l.prog w (Kw w) mg base t;have Ol:= @JK l.prog w (Kw w) mg base t;have iC:= @Ih l.prog w (Kw w) mg base t;have pF:= @z8 l.prog w (Kw w) mg base t;have pG:= @z9 l.prog w (Kw w) mg base t;have nQ:= @zr l.prog w (Kw w) mg base t;have qz:= @FJ l.prog w (Kw w) mg base t;have lQ:= @Aa l.prog w (Kw w) mg base t;have BZ:= @Oi l.prog w (Kw w) mg base t fx vK;have tY:= @sS l.prog w (Kw w) mg base t fx cA;have yz:= @Oj l.prog w (Kw w) mg base t dD cA;have FN:= @Sq l.prog w (Kw w) mg base t fx;have Ss:= @ab9 l.prog w (Kw w) mg base t dD;have sW:= @Ii l.prog w (Kw w) mg base t dD;have qM:= @Ca l.prog w (Kw w) mg base t qL;have sU:= @CI l.prog w (Kw w) mg base t nQ;have iH:= @Cb l.prog w (Kw w) mg base t FN;have uQ:= @tX l.prog w (Kw w) mg base t qM;have sV:= @CJ l.prog w (Kw w) mg base t iC sU;have zw:= @JL l.prog w (Kw w) mg base t Cc yz iH;have qy:= @FO l.prog w (Kw w) mg base t iC sV;have nR:= @zt l.prog w (Kw w) mg base t zu Ss zw;have TC:SN (Kw w) mg 186:=⟨⟨ypg,yhd,ypo,ysa⟩,yn0,yn1,yn2,yn3,yn4,yn5,yn6,yn7,yn8,yn9,EI X G yC,t.Fl,t.lP,t.rz⟩
 have⟨YF0,afF⟩:=Zd (Kw w) (C:=186) (x:="__init__") (q:="Comb.__init__") (st:=Js) (f:=136) (c:=135) (m:=H.w3) (by kernel_rfl);have YB0:=YF0.binds (ps:=["self","n"]) (FZ λ_ _ _ _ _ _ _ _=>rfl);have⟨YF1,amJ⟩:=Zd (Kw w) (C:=186) (x:="number_of") (q:="Comb.number_of") (st:=Q4) (f:=143) (c:=142) (m:=H.w3) (by kernel_rfl);have YB1:=YF1.binds (ps:=["self","row"]) (FZ λ_ _ _ _ _ _ _ _=>rfl);have YM1:=amJ;have⟨YF2,amK⟩:=Zd (Kw w) (C:=186) (x:="without_first") (q:="Comb.without_first") (st:=Q7) (f:=150) (c:=149) (m:=H.w3) (by kernel_rfl);have YB2:=YF2.binds (ps:=["self","number","k"]) (Xj λ_ _ _ _ _ _ _ _ _=>rfl);have YM2:=amK;have⟨YF3,amL⟩:=Zd (Kw w) (C:=186) (x:="with_last") (q:="Comb.with_last") (st:=Ra) (f:=157) (c:=156) (m:=H.w3) (by kernel_rfl);have YB3:=YF3.binds (ps:=["self","number","k"]) (Xj λ_ _ _ _ _ _ _ _ _=>rfl);have YM3:=amL;have⟨YF4,amM⟩:=Zd (Kw w) (C:=186) (x:="slide") (q:="Comb.slide") (st:=Rf) (f:=164) (c:=163) (m:=H.w3) (by kernel_rfl);have YB4:=YF4.binds (ps:=["self","one","other"]) (Xj λ_ _ _ _ _ _ _ _ _=>rfl);have YM4:=amM;have⟨YF5,amN⟩:=Zd (Kw w) (C:=186) (x:="slide_kept") (q:="Comb.slide_kept") (st:=Rh) (f:=171) (c:=170) (m:=H.w3) (by kernel_rfl);have YB5:=YF5.binds (ps:=["self","one","other"]) (Xj λ_ _ _ _ _ _ _ _ _=>rfl);have YM5:=amN;have⟨YF6,amO⟩:=Zd (Kw w) (C:=186) (x:="put") (q:="Comb.put") (st:=Rj) (f:=178) (c:=177) (m:=H.w3) (by kernel_rfl);have YB6:=YF6.binds (ps:=["self","row"]) (FZ λ_ _ _ _ _ _ _ _=>rfl);have YM6:=amO;have⟨YF7,amP⟩:=Zd (Kw w) (C:=186) (x:="form_told") (q:="Comb.form_told") (st:=Mr) (f:=183) (c:=182) (m:=H.w3) (by kernel_rfl);have YB7:=YF7.binds (ps:=["self"]) (JM λ_ _ _ _ _ _ _=>rfl);have YM7:=amP;have YG1:=abJ (P:=l.prog) (w:=w) (base:=base) YF1 TC t BZ vK Ol Wz;have YG2:=aeP (P:=l.prog) (w:=w) (base:=base) YF2 TC t YM1 YB1 YG1 tY;have YG3:=aeS (P:=l.prog) (w:=w) (base:=base) YF3 TC t YM1 YB1 YG1 cA;have YG4:=aeT (P:=l.prog) (w:=w) (base:=base) YF4 TC YM2 YB2 YG2 YM3 YB3 YG3;have YG5:=aeY (P:=l.prog) (w:=w) (base:=base) YF5 TC t YM4 YB4 YG4;have YG6:=ae2 (P:=l.prog) (w:=w) (base:=base) YF6 TC YM1 YB1 YG1 YM5 YB5 YG5;have YG7:=ae6 (P:=l.prog) (w:=w) (base:=base) YF7 TC;have YG0:=ae7 (P:=l.prog) (w:=w) (base:=base) YF0 TC t YM1 YB1 YG1 dD acb (λn hn=>kJ n hn) (λn hn=>WB n hn) WA tM;have di:=abV (P:=l.prog) (w:=w) (base:=base) TC ⟨_,_,_,_,_,_,⟨ymk,afF.1,afF.2,ykc⟩,YB0,YG0,YM6,YB6,YG6,YM7,YB7,YG7⟩ t uQ;have uP:= @Xi l.prog w (Kw w) mg base t di nR;have fy:= @Cd l.prog w (Kw w) mg base t sW di;have jN:= @Ce l.prog w (Kw w) mg base t dD iH di;have afG:= @aca l.prog w (Kw w) mg base t uP fy jN iC pF pG qy qz lQ;exact afG
def walk{l:KQ}{q:aR}{loose:List Str}{XP:(Str->Option ah)->aC->Prop}{YP:aE->aC->Prop}{d:DefRec}{K:kY->ak}(hn:l.most=aa 63)(hdf:d.params.defaults=[])
  (hY:∀(w:aE)(h:aC),YP w h->(K w.params).In h)
  (F:∀(w:aE)(mg:Str->Option ah)(fa:ae)(h:aC),(K w.params).In h->h.Ns dH mg->mg d.name=aa (.ref fa)->
   ∃fd:aL,(∀(s:aj)(u:ah),uZ s fd ⟨[u],[]⟩ [("_law_script",u)])/\∀base:aC,(K w.params).In base->base.Ns dH mg->fA l.prog w (K w.params) mg base oN 11 fa fd ["_law_script"] (K5 (K w.params) Oz BO)):
  Ur q loose XP YP l.row.toRowW d [] (λf vs=>PySem.call f vs):=
 L2.Uq (n:=63) (k:=11) (x:="_law_script") (CX:=λ_=>oN) (sp:=λw=>K5 (K w.params) Oz BO) hn (by decide) hdf ⟨rfl,by decide,by decide⟩ hY F (λw H a ns hl _ hS=>ab8 ns hl hS) λ_ _ _ _ _ z=>z
end DL.uD
open PySem PySem.W PyProof.Rows
set_option maxRecDepth 100000 in
set_option maxHeartbeats 0 in
theorem PySem.Challenge.cw_braidcomb_k34_forms_joined_and_turned_holds : PySem.Challenge.rw_braidcomb_k34_forms_joined_and_turned.Holds := by
 w_on;refine holds_law (l:=PySem.Challenge.rw_braidcomb_k34_forms_joined_and_turned) (by kernel_rfl) λsaid=>?_;refine holds_open (q:=DL.uD.H.q) (Xt:=DL.uD.H.Xt) (XP:=XL DL.uD.H.q []) (Yf:=DL.uD.H.hk.obs) (Ya:=DL.uD.H.hk.val) (YP:=DL.uD.H.hk.says) DL.uD.H.left DL.uD.H.hk.of DL.uD.H.hk.keeps (λs e=>xl_of s (Xk.mp e).1) XL.keeps (by rfl) (by rfl) (by rfl) (λs e=>recFacts_of (Xk.mp e).2) (by rfl) said (by decide +kernel) ⟨rfl,rfl,rfl,rfl,rfl,by decide +kernel⟩ ?hw ?hc
 case hw=>w_witness2
 refine DL.uD.walk (l:=PySem.Challenge.rw_braidcomb_k34_forms_joined_and_turned) rfl rfl (λw h Y=>kIn_of Y) ?F
 case F=>
  intro w mg fa h KX G hmg;have hh:=DL.uD.all_mk (l:=PySem.Challenge.rw_braidcomb_k34_forms_joined_and_turned) ((DL.uD.Zc w).symm▸KX) G hmg;rw[DL.uD.Zc w]at hh;exact hh
