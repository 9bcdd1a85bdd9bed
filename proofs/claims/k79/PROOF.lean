import PyProof.Rows.All
import Wide.All
import OpenK.AllK
import Wide.FinOn
import Lean
import PyProof.EqAt
import PyProof.EqKinds
import PyProof.TupleCall
import PyProof.ZipIter
import PyProof.StrCalls2
import PyProof.FString
import PyProof.StrWalks
import PyProof.EnumMake
import KE.KIntText
import PyProof.StrLawsChain
import PyProof.StrLawsTight
import PyProof.StrLawsFirst
import PySem.Challenge.RW_ringfell_k79_webs_written
open PySem renaming wpAny_bind → rd,Value → rg,Shared → rj,wpAny_pure → rp,sizeLine → rN,Program → rO,wpAny → rX,model → sh,mainGlobals → sr,World → sC,bootBuiltins → sO,Around → sR,starEach → sU,FuncData → sV,wpAny_setField_rec → tG,codeAny_builtin → tM,wpAny_truthy_bool → t9,wpAny_holding → ue,wpAny_seqItems → uf,wpAny_call_entry → uo,wpAny_callSpecial?_slot → uv,wpAny_newObj_type → uw,mem_of_lookup → uy,wpAny_field → uz,compareOp → uA,wpAny_mono → vi,wpAny_rule → vj,wpAny_forIn_list → vx,codeAny_mono → vG,wpAny_pyIter_tuple → vM,wpAny_passesOwn → vN,wpAny_Call_Name_kw → vO,plainId_quiet → vP,intItems → vQ,wpAny_pyIter_list → vX,wpAny_updateSeq_pair → wk,wpAny_typeOf → wI,rawInt → wJ,wpAny_runValue → wQ,typeIs_str → w5,sizeLine_eq → xh,wpAny_newList → xn,wpAny_attempt → xo,wpAny_onRaise → xp,wpAny_askSetting → xu,wpAny_isInstance → xv,backTo → xw,richCompare_meets_room → xC,wpAny_Call_method_late → xE,wpAny_isTrue_Compare1 → xR,wpAny_execs_nil → xS,wpAny_eqIsQuiet_tuple → xT,codeAny_of_tree → xU,weight_type_call_type → xV,wpAny_updateSeq → xW,codeAny → xX,call_meets → xY,codeAny_call_builtin → x8,isSubtype_type → yc,wpAny_setEntries_of → yh,holding → yF,seqIndex_neg → yG,seqIndex_of → yZ,wpAny_of_eq → y3,wpAny_letGo → y6,wpAny_Name → zo,wpAny_load → zp,wpAny_call → zq
open PySem.Heap renaming get?_push_of_some → rf,get?_push_size → rz,lt_size → rB,get?_update_other → tH,size_push → tR,get?_update_self → ui,get?_update_ne → ye
open Array renaming length_toList → rh,getElem?_toList → rq,getElem?_eq_getElem → rP,toList_append → so,mem_toList_iff → td,size_map → tD,getD_eq_getD_getElem? → tV,getElem?_eq_some_iff → tZ,getElem?_eq_none → t7,toList_push → t8,toList_extract → uq,toList_reverse → uM,size_push → uO,size_append → uP,toList_map → wa,toList_setIfInBounds → wD,perm_iff_toList_perm → wF,size_setIfInBounds → wX,getElem?_replicate → w4,toList_inj → xr,getElem?_map → yp,forIn_toList → yq
open PySem.W renaming Frag → rk,mg_none_of → sD,nsIn → sP,kia_one → tJ,mg_of → vh,kitx_list → vS,kitx_dict → vT,cellsFrom_some → xx,kat_nil → xK,kitx_float → yi,kitx_tuple → yj,callWith_K → yk,kitx_none → yv,kitx_bool → yw,kitx_int → yI,kitx_str → yJ
open List renaming length_map → rn,length_append → rC,getElem?_eq_some_iff → rE,mem_cons_self → rK,length_cons → rL,mem_append_right → rS,mem_of_getElem? → rT,mem_append → rV,size_toArray → rW,append_assoc → rZ,mem_cons_of_mem → r6,getElem?_map → sf,mem_singleton → sq,mem_cons → sv,length_take → sA,map_append → sE,getElem?_toArray → sF,mem_iff_getElem? → sH,map_cons → sI,mem_map → sJ,length_singleton → sL,take_of_length_le → sN,drop_sublist → sQ,take_sublist → sW,pairwise_append → tj,getElem?_eq_getElem → tm,pairwise_map → tF,mem_range → tI,append_nil → tK,extract_eq_take_drop → tL,getElem?_take → tU,getElem?_append_right → tY,getElem?_append_left → ud,length_nil → uh,take_append_drop → uj,range → um,pairwise_singleton → uu,length_drop → uE,zip_cons_cons → uI,pairwise_iff_getElem → uK,mem_of_mem_drop → uL,mem_of_mem_take → uN,getElem?_cons_succ → uW,getElem?_drop → u9,perm_append_comm → vb,take_add_one → vf,getD_eq_getElem?_getD → vk,mem_append_left → vm,replicate → vq,all_eq_true → vt,lookup_cons → vv,reverse_append → vz,nil_append → vI,getElem?_set_self → vR,length_range → vW,take_zero → vY,getElem?_eq_none → vZ,eq_nil_or_concat → v3,concat_eq_append → v5,drop_append_of_le_length → v8,take_append_of_le_length → v9,not_mem_nil → wc,getLast?_concat → wj,filterMap_cons → wo,nodup_cons → wq,mem_filterMap → wG,getElem?_zip_eq_some → wL,drop_left → wM,getElem?_eq_none_iff → wO,getElem?_take_of_lt → wU,flatten_cons → wY,find?_range_eq_none → wZ,eraseIdx_cons_succ → w9,length_eq_zero_iff → xc,zipIdx_cons → xq,take_length → xt,drop_eq_nil_of_le → xA,of_mem_zip → xF,forIn_cons → xG,set_set → xI,contains_iff_mem → xM,getElem?_set_ne → x3,reverse_reverse → x5,replicate_succ' → x6,drop_zero → yb,zip_nil_right → yl,pairwise_cons → yn,zip_nil_left → yx,ext_getElem? → yA,perm_middle → yL,nodup_range → yN,mem_filter → yQ,foldl_cons → yS,take_left' → yT,length_zip → yU,zipIdx_nil → yY,drop_drop → zd,take_succ → zf,forIn_nil → zg,map_take → zu,map_drop → zv,map_nil → zw
open Nat renaming le_refl → rA,lt_of_lt_of_le → rF,ne_of_lt → rQ,le_trans → su,zero_le → sM,lt_irrefl → tN,le_add_right → tO,lt_succ_of_lt → tQ,le_sub_one_of_lt → ur,lt_of_le_of_lt → uJ,ne_of_gt → uU,add_sub_cancel_left → uV,lt_succ_self → u3,eq_zero_of_not_pos → u5,zero_add → vc,le_of_lt_succ → vg,lt_of_not_le → vw,le_of_lt → vC,succ_pos → vD,le_antisymm → vJ,le_succ_of_le → vU,mod_lt → vV,le_of_not_lt → v7,sub_one_lt_of_lt → wg,add_le_add_left → wx,lt_of_succ_lt → wW,le_of_sub_eq_zero → xJ,lt_of_le_of_ne → yo,sub_pos_of_lt → yy,le_of_succ_le → yz,succ_le_succ → yM,min_eq_left → yR,add_assoc → zt
open PyProof.Rows renaming wpS_bind → rD,Keyed → rG,wpS_pure → rH,arrOf → rM,pendingOf → rY,SortSt → se,wpS_forRange → sS,IntsAre → uc,wpS_mono → ug,wpS_modify → ux,callWith_type1 → va,reverseSlice'_eq → we,KeyOrd → wA,wpS_get → xk,subscriptTail_builtinR → xD,wpS_lift → xZ,getElem?_mirror_all → yg,listUpdate_at → yt,listItems_at → yH,size_push' → zr
open Bool renaming false_eq_true → rJ,false_ne_true → rR,not_true → tE,and_eq_true → uF,eq_iff_iff → vH,false_and → wK,not_false → x9,and_false → ze
open Option.some renaming inj → r9
open PySem.Value renaming ref → si,none → tX,type → uG,int → vp,isInt_shape → yu
open PyProof.Rows.KeyOrd renaming kle_trans → sk,kle_of_klt → sZ,kle_refl → tT,kle_antisymm → yd
open PySem.F renaming called_set → tw,slot_tuple_iterator_next → uD,slot_list_append → uS,type_list_append → uT,plainAttrs_list → u0,slot_str_split → u6,plain_extend_loop → vA,args_str_split_2 → vF,entry_str_split → vL,args_tuple_iterator_next_1 → wm,entry_tuple_iterator_next → wt,slot_zip_next → wz,typeCall_set_1 → xB,slot_str_join → xO,type_str_join → xP,entry_extend_loop → yf,entry_type_call → yB,plain_list_iadd → yC,args_zip_next_1 → yD,entry_set_init → yO,entry_zip_next → yP,plain_set_new → yV,slot_set_iter → yX
open List.Perm renaming append_left → tP,append_right → uC,refl → vo
open PySem.Around renaming under_plainId → tW,under_plain → yr
open PySem.Builtin.List renaming listExtendWith → uB,listLengthHint → wB,listSameRef → w6
open PySem.Obj renaming mapSeq → uH,data_mapFields → ym
open PySem.PassesOwn renaming never → uQ
open PyProof.Rows.F renaming plain_set_update_loop → uZ,entry_set_update_loop → xf
open Option renaming map_eq_some_iff → u7,isSome_iff_exists → wR,map_some → xH,getD_none → yK
open PySem.StrLaws renaming glued_eq_join → vd,strSub_toList → xN,subAt_one → yE
open Int renaming toNat_natCast → ve,toNat_of_nonneg → vB,emod_lt_of_pos → vK,emod_nonneg → wy
open Iff renaming rfl → vn
open Ne renaming symm → vy
open List.Pairwise renaming imp_of_mem → vE,imp → zC,and → zD
open PySem.Heap.SameBut renaming update → wu
open PySem.Calls renaming Name_function_global → wC,call_function_entry → wN,callWith_builtin → xy,evalArgs_plain → x4
open PySem.Code renaming quiet_builtin → wH
open PySem.AutoSeq1 renaming sub_tuple_tuple → wV
open List.cons renaming inj → xg
open PySem.W.KIN renaming num_reads → xQ
open PySem.Walks renaming tuple → yW
open PySem.EqMixed renaming eq_bool_str → y7,eq_str_bool → y8,ne_bool_str → y9,ne_str_bool → zc,eq_int_str → zh,eq_str_int → zi,ne_int_str → zj,ne_str_int → zk
open PySem.W.Looks renaming of_pure → zx
open PySem.W.KatTups renaming cons → zy
open PySem.Moved renaming trans → zz
open PySem.Heap.IsSliceOf renaming new → zA
open Prod renaming ext → zB
set_option Elab.async false
set_option linter.all false
set_option maxRecDepth 100000
namespace L2
open PySem PySem.Spec PyProof.Rows
abbrev Key:=Sum Int Str
def oN:Key->rg->Bool
 | .inl k,v=>Value.isInt k v
 | .inr x,v=>Value.isStrOf x v
def keyH (w:sC):Key->Int
 | .inl k=>hashInt k
 | .inr x=>hashStr w x
theorem aO:∀{k:Key} {v:rg},oN k v=true->(∃i t,k=Sum.inl i/\v=vp i t)\/(∃x t,k=Sum.inr x/\v=Value.str x t)
 | .inl i,v,h=>by
  obtain ⟨t,e⟩:=yu (k:=i) (v:=v) h
  exact .inl ⟨i,t,rfl,e⟩
 | .inr x,v,h=>by
  obtain ⟨t,e⟩:=Value.isStrOf_shape (x:=x) (v:=v) h
  exact .inr ⟨x,t,rfl,e⟩
theorem pE (a b:Int):decide ((Sum.inl a:Key)=Sum.inl b)=(a == b):=by
 by_cases e:a=b
 ·subst e;simp
 ·have h:¬ (Sum.inl a:Key)=Sum.inl b:=λq=>e (Sum.inl.inj q)
  rw[decide_eq_false h]
  exact (beq_eq_false_iff_ne.mpr e).symm
theorem pF (a b:Str):decide ((Sum.inr a:Key)=Sum.inr b)=decide (a=b):=by
 by_cases e:a=b
 ·subst e;simp
 ·have h:¬ (Sum.inr a:Key)=Sum.inr b:=λq=>e (Sum.inr.inj q)
  rw[decide_eq_false h,decide_eq_false e]
theorem pG (a:Int)(b:Str):decide ((Sum.inl a:Key)=Sum.inr b)=false:=decide_eq_false (λq=>nomatch q)
theorem pH (a:Str)(b:Int):decide ((Sum.inr a:Key)=Sum.inl b)=false:=decide_eq_false (λq=>nomatch q)
def jJ (prog:rO)(w:sC):PySem.KeyKind prog w Key where
 is:=oN
 hash:=keyH w
 inj:=λv a b ha hb=>by
  rcases aO ha with ⟨i,t,rfl,rfl⟩ | ⟨x,t,rfl,rfl⟩
  ·rcases aO hb with ⟨j,u,rfl,e⟩ | ⟨y,u,rfl,e⟩
   ·injection e with e1 _;rw[e1]
   ·exact nomatch e
  ·rcases aO hb with ⟨j,u,rfl,e⟩ | ⟨y,u,rfl,e⟩
   ·exact nomatch e
   ·injection e with e1 _;rw[e1]
 byValue:=λk v h=>by
  rcases aO h with ⟨i,t,rfl,rfl⟩ | ⟨x,t,rfl,rfl⟩ <;> rfl
 pyHash:=λhv h=>by
  rcases aO hv with ⟨i,t,rfl,rfl⟩ | ⟨x,t,rfl,rfl⟩
  ·exact wpAny_pyHash_int h
  ·exact wpAny_pyHash_str h
 eqBool:=λhu hv h=>by
  rcases aO hu with ⟨i,t,rfl,rfl⟩ | ⟨x,t,rfl,rfl⟩
  ·rcases aO hv with ⟨j,u,rfl,rfl⟩ | ⟨y,u,rfl,rfl⟩
   ·rw[pE] at h;exact wpAny_eqBool_int h
   ·rw[pG] at h;exact SeqAt.EqAt.int_str i t y u _ _ _ _ h
  ·rcases aO hv with ⟨j,u,rfl,rfl⟩ | ⟨y,u,rfl,rfl⟩
   ·rw[pH] at h;exact SeqAt.EqAt.str_int x t j u _ _ _ _ h
   ·rw[pF] at h;exact wpAny_eqBool_str h
 «strs» := λk x t v h=>by
  rcases aO h with ⟨i,u,rfl,e⟩ | ⟨y,u,rfl,e⟩
  ·exact nomatch e
  ·injection e with e1 _
   subst e1
   cases v <;> rfl
open PySem PySem.Spec PyProof.Rows
inductive V where
 | non | bl (b:Bool) | int (i:Int) | str (x:Str) | byt (b:Array UInt8) | flt (b:UInt64) | ref (a:Addr) | ty (n:String)
 deriving DecidableEq
def RelV:V->rg->Prop
 | .non,u=>u=tX
 | .bl b,u=>u=Value.bool b
 | .int i,u=>∃t,u=vp i t
 | .str x,u=>∃t,u=Value.str x t
 | .byt b,u=>∃t,u=Value.bytes b t
 | .flt b,u=>∃t,u=Value.float b t
 | .ref a,u=>u=si a
 | .ty n,u=>u=uG n
abbrev Vals:List V->List rg->Prop:=Paired RelV
theorem Vals.length {xs:List V}{us:List rg}(r:Vals xs us):xs.length=us.length:=Paired.length r
theorem Vals.get:∀{xs:List V} {us:List rg} {i:Nat} {x:V},Vals xs us->xs[i]? = some x->∃u,us[i]? = some u/\RelV x u
 | _,_,_,_,.nil,e=>by simp at e
 | _,_,0,_,.cons r _,e=>by simp at e;subst e;exact ⟨_,rfl,r⟩
 | _,_,i+1,x,.cons _ t,e=>by
  obtain ⟨u,h1,h2⟩:=Vals.get (i:=i) (x:=x) t (by simpa using e)
  exact ⟨u,by simpa using h1,h2⟩
theorem Vals.set {x:V}{u:rg}(r:RelV x u):∀{xs:List V} {us:List rg} (i:Nat),Vals xs us->Vals (xs.set i x) (us.set i u)
 | _,_,_,.nil =>.nil
 | _,_,0,.cons _ t =>.cons r t
 | _,_,i+1,.cons q t =>.cons q (Vals.set r i t)
theorem Vals.append:∀{xs ys:List V} {us ws:List rg},Vals xs us->Vals ys ws->Vals (xs++ys) (us++ws)
 | _,_,_,_,.nil,s=>s
 | _,_,_,_,.cons r t,s =>.cons r (Vals.append t s)
theorem Vals.take:∀{xs:List V} {us:List rg} (n:Nat),Vals xs us->Vals (xs.take n) (us.take n)
 | _,_,0,_ =>.nil
 | _,_,_+1,.nil =>.nil
 | _,_,n+1,.cons r t =>.cons r (Vals.take n t)
theorem Vals.drop:∀{xs:List V} {us:List rg} (n:Nat),Vals xs us->Vals (xs.drop n) (us.drop n)
 | _,_,0,r=>r
 | _,_,_+1,.nil =>.nil
 | _,_,n+1,.cons _ t=>Vals.drop n t
def pI:Option V->Option rg->Prop
 | some v,some u=>RelV v u
 | none,none=>True
 | _,_=>False
def KV {κ:Type}:List (κ×V)->List (κ×rg)->Prop:=Paired λ(p:κ×V) (q:κ×rg)=>p.1=q.1/\RelV p.2 q.2
def kV:Key->V
 | .inl i =>.int i
 | .inr x =>.str x
inductive HO where
  | lst (xs:List V)
  | tup (xs:List V)
  | dK (kvs:List (Key×V)) | dT (kvs:List (List Key×V))
  | set (S:Int->Bool) (n:Nat)
  | ins (C dx:Addr) (fs:List (Str×V))
  | own (x:Addr)
  | xd (fs:List (Str×V))
  | met (f x:Addr)
  | rng (lo hi:Int)
  | frz (o:Obj) (u:HO)
  | tbl (ps:Array rg)
  | ext (φ:Heap->Prop)
abbrev Hp:=Addr->Option HO
def upd (H:Hp)(a:Addr)(o:HO):Hp:=λb=>if b=a then some o else H b
theorem ag {H:Hp}{a:Addr}{o:HO}:upd H a o a=some o:=by unfold upd;rw[if_pos rfl]
theorem au {H:Hp}{a b:Addr}{o:HO}(h:b≠a):upd H a o b=H b:=by unfold upd;rw[if_neg h]
theorem ia {H:Hp}{a b:Addr}{o u:HO}(h:H a=some o)(h':H b=some u)(d:o≠u):a≠b:=by
 intro e;subst e;rw[h] at h';exact d (r9 h')
theorem ak {H:Hp}{a b:Addr}{o:HO}(h:H a=some o)(h':H b=none):a≠b:=by
 intro e;subst e;rw[h] at h';cases h'
def de (h:Heap)(a:Addr)(items:Array rg):Prop:=∃o,h.get? a=some o/\(o.cls = .type "tuple" /\ o.dict=none)/\∃n,o.data = .seq items n
theorem de.tup {h:Heap}{a:Addr}{items:Array rg}(x:de h a items):IsTup h a items:=let ⟨o,e,c,n,d⟩:=x;⟨o,e,c.1,n,d⟩
theorem de.new (h:Heap)(items:Array rg):de (h.push { cls :=.type "tuple",data :=.seq items }) h.objs.size items:=⟨_,rz _ rfl,⟨rfl,rfl⟩,_,rfl⟩
section
variable  (P:rO)(w:sC)
def aR (H:Hp)(h:Heap)(a:Addr):HO->Prop
 | .lst xs=>xs.length<=rN/\∃(its:List rg) (n:Nat),Vals xs its/\h.get? a=some { cls :=.type "list",data :=.seq its.toArray n }
 | .tup xs=>xs.length<=rN/\∃its:List rg,Vals xs its/\de h a its.toArray
 | .dK kvs=>kvs.length<=rN/\(a == sysModules)=false/\∃vs,KV kvs vs/\h.DictOf (jJ P w) a vs
 | .dT kvs=>kvs.length<=rN/\(a == sysModules)=false/\∃xs:List (List Key×Addr×rg),
   Paired (λ(p:List Key×V) (q:List Key×Addr×rg)=>p.1=q.1/\H q.2.1=some (.tup (p.1.map kV))/\RelV p.2 q.2.2) kvs xs ∧
   ∃o es ep,h.get? a=some o/\o.ExactDict/\o.data = .dict es ep/\es.toList=xs.map (entryOfKey (tupleKind (jJ P w)))/\(xs.map (·.1)).Nodup
 | .set S n=>h.SetOf (intKind P w) a S n
 | .ins C dx fs=>H dx=some (.own a)/\fs.length<=1000/\dx≠a/\h.get? a=some (PySem.W.instObj C dx) ∧
   ∃mA,h.Ns1 dx mA/\(∀f,pI (fs.lookup f) (mA f))/\PySem.Within mA (fs.map (·.1))
 | .own _=>∃o,h.get? a=some o
 | .xd fs=>∃mA,h.Ns1 a mA/\∀f,pI (fs.lookup f) (mA f)
 | .rng lo hi=>∃t u v,h.get? a=some { cls :=.type "range",data :=.fields #[.int lo t,.int hi u,.int 1 v] }
 | .frz o u=>h.get? a=some o/\aR H h a u
 | .tbl ps=>h.get? a=some { cls :=.none,data :=.fields ps }
 | .met f x=>h.get? a=some (PySem.W.methodObj (.ref f) (.ref x))
 | .ext φ=>φ h/\(∃o,h.get? a=some o)/\∀h1 h2:Heap, φ h1->(∀o,h1.get? a=some o->h2.get? a=some o) -> φ h2
def HOk (H:Hp)(h:Heap):Prop:=∀a o,H a=some o->aR P w H h a o
end
section
variable  {P:rO}{w:sC}{H H':Hp}{h h':Heap}{a:Addr}{o:HO}
theorem aR.lt (x:aR P w H h a o):a<h.objs.size:=by
 cases o with
 | lst xs=>obtain ⟨_,_,_,_,e⟩:=x;exact rB e
 | tup xs=>obtain ⟨_,_,_,p⟩:=x;exact (de.tup p).lt
 | dK kvs=>obtain ⟨_,_,_,_,o,_,_,e,_⟩:=x;exact rB e
 | dT kvs=>obtain ⟨_,_,_,_,o,_,_,e,_⟩:=x;exact rB e
 | set S n=>obtain ⟨o,_,_,_,e,_⟩:=x;exact rB e
 | ins C dx fs=>obtain ⟨_,_,_,e,_⟩:=x;exact rB e
 | own y=>obtain ⟨_,e⟩:=x;exact rB e
 | xd fs=>obtain ⟨_,⟨_,_,_,e,_⟩,_⟩:=x;exact rB e
 | rng lo hi=>obtain ⟨_,_,_,e⟩:=x;exact rB e
 | frz ob u=>obtain ⟨e,_⟩:=x;exact rB e
 | tbl ps=>exact rB (show h.get? a=some _ from x)
 | met f y=>exact rB (show h.get? a=some _ from x)
 | ext φ=>obtain ⟨_,⟨_,e⟩,_⟩:=x;exact rB e
theorem Paired.qx {α β:Type}{F G:α -> β -> Prop}:∀{l₁:List α} {l₂:List β},Paired F l₁ l₂->(∀a b,F a b->G a b)->Paired G l₁ l₂
 | _,_,.nil,_ =>.nil
 | _,_,.cons r t,f =>.cons (f _ _ r) (Paired.qx t f)
theorem aR.ib (x:aR P w H h a o)(k:∀b u,(b=a\/H b=some (.own a))->h.get? b=some u->h'.get? b=some u)
  (ho:∀b,H b=some (.own a)->H' b=some (.own a)) (ht:∀b xs,H b=some (.tup xs)->H' b=some (.tup xs)):aR P w H' h' a o:=by
 induction o with
 | lst xs=>obtain ⟨z,its,n,r,e⟩:=x;exact ⟨z,its,n,r,k _ _ (.inl rfl) e⟩
 | tup xs=>obtain ⟨z,its,r,ob,e,c⟩:=x;exact ⟨z,its,r,ob,k _ _ (.inl rfl) e,c⟩
 | dK kvs=>obtain ⟨z,y,vs,r,ob,es,ep,e,c⟩:=x;exact ⟨z,y,vs,r,ob,es,ep,k _ _ (.inl rfl) e,c⟩
 | dT kvs =>
  obtain ⟨z,y,xs,r,ob,es,ep,e,c⟩:=x
  exact ⟨z,y,xs,Paired.qx r λp q z=>⟨z.1,ht _ _ z.2.1,z.2.2⟩,ob,es,ep,k _ _ (.inl rfl) e,c⟩
 | set S n=>obtain ⟨ob,es,ep,t,e,c⟩:=x;exact ⟨ob,es,ep,t,k _ _ (.inl rfl) e,c⟩
 | ins C dx fs =>
  obtain ⟨d,z,ne,e,mA,⟨od,es,ep,e2,c⟩,r⟩:=x
  exact ⟨ho _ d,z,ne,k _ _ (.inl rfl) e,mA,⟨od,es,ep,k _ _ (.inr d) e2,c⟩,r⟩
 | own y=>obtain ⟨ob,e⟩:=x;exact ⟨ob,k _ _ (.inl rfl) e⟩
 | xd fs=>obtain ⟨mA,⟨od,es,ep,e,c⟩,r⟩:=x;exact ⟨mA,⟨od,es,ep,k _ _ (.inl rfl) e,c⟩,r⟩
 | rng lo hi=>obtain ⟨t,u,v,e⟩:=x;exact ⟨t,u,v,k _ _ (.inl rfl) e⟩
 | frz ob u ih=>obtain ⟨e,q⟩:=x;exact ⟨k _ _ (.inl rfl) e,ih q⟩
 | tbl ps =>
  have e:h.get? a=some { cls :=.none,data :=.fields ps }:=x
  show h'.get? a=some { cls :=.none,data :=.fields ps }
  exact k a _ (.inl rfl) e
 | met f y =>
  have e:h.get? a=some (PySem.W.methodObj (.ref f) (.ref y)):=x
  show h'.get? a=some (PySem.W.methodObj (.ref f) (.ref y))
  exact k a _ (.inl rfl) e
 | ext φ=>obtain ⟨p,⟨o,e⟩,st⟩:=x;exact ⟨st _ _ p λo q=>k _ _ (.inl rfl) q,⟨o,k _ _ (.inl rfl) e⟩,st⟩
theorem HOk.lt (x:HOk P w H h)(e:H a=some o):a<h.objs.size:=(x a o e).lt
theorem HOk.fresh (x:HOk P w H h)(e:h.objs.size<=a):H a=none:=by
 cases q:H a with
 | none=>rfl
 | some u=>exact absurd (rF (x.lt q) e) (tN _)
theorem HOk.kept (x:HOk P w H h)(k:∀b u,h.get? b=some u->h'.get? b=some u):HOk P w H h':=λa o e =>
 (x a o e).ib (λb u _ q=>k b u q) (λ_ q=>q) λ_ _ q=>q
theorem HOk.laid (x:HOk P w H h)(k:∀b u,h.get? b=some u->h'.get? b=some u)(hp:h.objs.size<=a)(new:aR P w (upd H a o) h' a o):HOk P w (upd H a o) h':=λb u e=>by
 have hn:=x.fresh hp
 by_cases hb:b=a
 ·subst hb;rw[ag] at e;cases e;exact new
 ·rw[au hb] at e
  exact (x b u e).ib (λc v _ q=>k c v q) (λc q=>by rw[au (ak q hn)];exact q) λc xs q=>by rw[au (ak q hn)];exact q
end
def Rd (H:Hp)(a:Addr)(u:HO):Prop:=H a=some u\/∃o,H a=some (.frz o u)
theorem Rd.ok {P:rO}{w:sC}{H:Hp}{h:Heap}{a:Addr}{u:HO}(r:Rd H a u)(x:HOk P w H h):aR P w H h a u:=by
 rcases r with r | ⟨o,r⟩
 ·exact x a u r
 ·obtain ⟨_,q⟩:=x a _ r
  exact q
def Mut:Option HO->Prop
 | some (.lst _)=>True
 | some (.dK _)=>True
 | some (.dT _)=>True
 | some (.set _ _)=>True
 | some (.ins _ _ _)=>True
 | some (.ext _)=>True
 | _=>False
section
variable  {P:rO}{w:sC}{H:Hp}{h h':Heap}{x e:Addr}{o':HO}
theorem HOk.write (ok:HOk P w H h)(mu:Mut (H x))(he:e=x\/H e=some (.own x))(k:∀b u,b≠e->h.get? b=some u->h'.get? b=some u)(heo:∃u,h'.get? e=some u)
  (new:aR P w (upd H x o') h' x o'):HOk P w (upd H x o') h':=λb u q=>by
 have nown:∀c y,H c=some (.own y)->c≠x:=λc y r z=>by subst z;rw[r] at mu;exact mu
 have ntup:∀c xs,H c=some (.tup xs)->c≠x:=λc xs r z=>by subst z;rw[r] at mu;exact mu
 by_cases hb:b=x
 ·subst hb;rw[ag] at q;cases q;exact new
 ·rw[au hb] at q
  by_cases hbe:b=e
  ·have q':H b=some (.own x):=by
    rcases he with z | z
    ·exact absurd (hbe.trans z) hb
    ·rw[hbe];exact z
   rw[q] at q';cases q'
   obtain ⟨v,hv⟩:=heo
   exact ⟨v,by rw[hbe];exact hv⟩
  ·refine (ok b u q).ib (λc v hc r=>k c v ?_ r) (λc r=>by rw[au (nown c b r)];exact r) λc xs r=>by rw[au (ntup c xs r)];exact r
   rcases hc with rfl | hc
   ·exact hbe
   ·rintro rfl
    rcases he with z | z
    ·exact nown c b hc z
    ·rw[hc] at z;cases z;exact hb rfl
end
structure Un (fs ex:List Addr)(H H':Hp)(h h':Heap):Prop where
 keep:∀b o,h.get? b=some o->H b=none->b∉fs->b∉ex->h'.get? b=some o
 slot:∀b o,h.get? b=some o->H b=none->b∈fs->b∉ex->∃sl,h'.get? b=some { o with slots:=sl }
 free:∀b o,h.get? b=some o->H b=none->b∉ex->H' b=none
 there:∀b o,h.get? b=some o->b∉ex->∃o',h'.get? b=some o'
 tups:∀b xs,H b=some (.tup xs)->H' b=some (.tup xs)
 frzs:∀b o u,H b=some (.frz o u)->H' b=some (.frz o u)
 tbls:∀b ps,H b=some (.tbl ps)->∃more,H' b=some (.tbl (ps++more))
section
variable  {fs fs' ex ex':List Addr}{H H1 H2:Hp}{h h1 h2 h':Heap}{a x e:Addr}{o:HO}
theorem Un.any (u:Un fs ex H H1 h h1){b:Addr}{ob:Obj}(q:h.get? b=some ob)(n:H b=none)(hx:b∉ex):∃sl,h1.get? b=some { ob with slots:=sl }:=by
 by_cases hb:b∈fs
 ·exact u.slot b ob q n hb hx
 ·exact ⟨ob.slots,u.keep b ob q n hb hx⟩
theorem Un.kept (k:∀b u,h.get? b=some u->h'.get? b=some u):Un fs ex H H h h' :=
 ⟨λb ob q _ _ _=>k b ob q,λb ob q _ _ _=>⟨ob.slots,k b ob q⟩,λ_ _ _ n _=>n,λb ob q _=>⟨ob,k b ob q⟩,λ_ _ q=>q,λ_ _ _ q=>q,λ_ ps q=>⟨#[],by rw[q];simp⟩⟩
theorem Un.refl:Un fs ex H H h h:=Un.kept λ_ _ q=>q
theorem Un.laid (k:∀b u,h.get? b=some u->h'.get? b=some u)(hp:h.objs.size<=a)(hn:H a=none):Un fs ex H (upd H a o) h h' where
 keep:=λb u q _ _ _=>k b u q
 slot:=λb u q _ _ _=>⟨u.slots,k b u q⟩
 free:=λb u q n _=>by rw[au (rQ (rF (rB q) hp))];exact n
 there:=λb u q _=>⟨u,k b u q⟩
 tups:=λb xs q=>by rw[au (ak q hn)];exact q
 frzs:=λb u xs q=>by rw[au (ak q hn)];exact q
 tbls:=λb ps q=>⟨#[],by rw[au (ak q hn),q];simp⟩
theorem Un.write (mu:Mut (H x))(he:e=x\/H e=some (.own x))(k:∀b u,b≠e->h.get? b=some u->h'.get? b=some u)(heo:∃u,h'.get? e=some u):Un fs ex H (upd H x o) h h':=by
 have hx:∀b,H b=none->b≠x:=λb n z=>by subst z;rw[n] at mu;exact mu
 have hb:∀b,H b=none->b≠e:=λb n z=>by
  subst z
  rcases he with r | r
  ·exact hx b n r
  ·rw[n] at r;cases r
 have hm:∀b u,H b=some u->¬ Mut (some u)->b≠x:=λb u q nm z=>by subst z;rw[q] at mu;exact nm mu
 refine ⟨λb u q n _ _=>k b u (hb b n) q,λb u q n _ _=>⟨u.slots,k b u (hb b n) q⟩,λb u q n _=>by rw[au (hx b n)];exact n,λb u q _ =>?_,
  λb xs q=>by rw[au (hm b _ q λz=>z)];exact q,λb u xs q=>by rw[au (hm b _ q λz=>z)];exact q,λb ps q=>⟨#[],by rw[au (hm b _ q λz=>z),q];simp⟩⟩
 by_cases hbe:b=e
 ·subst hbe;exact heo
 ·exact ⟨u,k b u hbe q⟩
end
def trk (h:Heap)(H:Hp):List Addr:=(um h.objs.size).filter λa=>(H a).isSome
def gE (h:Heap)(H:Hp):Heap:=PySem.W.hideAll h (trk h H)
theorem kG (h:Heap)(H:Hp):(gE h H).objs.size=h.objs.size:=PySem.W.hideAll_size _ _
theorem lY {h:Heap}{H:Hp}{b:Addr}{o:Obj}(e:h.get? b=some o)(n:H b=none):(gE h H).get? b=some o :=
 PySem.W.hideAll_get _ e λhm=>by
  have q:(H b).isSome=true:=(yQ.mp hm).2
  rw[n] at q;simp at q
theorem nz {h:Heap}{H:Hp}{b:Addr}{o:Obj}(e:(gE h H).get? b=some o):h.get? b=some o/\H b=none:=by
 have e':h.get? b=some o:=PySem.W.of_hideAll (trk h H) e
 refine ⟨e',?_⟩
 cases q:H b with
 | none=>rfl
 | some x =>
  have hm:b∈trk h H:=yQ.mpr ⟨tI.mpr (rB e'),by simp[q]⟩
  have z:(gE h H).get? b=none:=PySem.W.hideAll_none (trk h H) hm
  rw[z] at e;cases e
def nA (g h:Heap)(L:Addr):List (Addr×Obj):=(um h.objs.size).filterMap λa=>if a=L\/(g.get? a).isSome=true then none else (h.get? a).map λo=>(a,o)
def rest (g h:Heap)(L d:Addr):List (Addr×Obj):=(nA g h L).filter λp=>decide (p.1≠d)
open PySem PySem.Spec PyProof.Rows
structure Mod (K:rk)(mg:Str->Option rg)(base:Heap):Prop where
 kin:K.In base
 glob:base.Ns sr mg
 blt:∃mb,base.Ns builtinsNs mb/\∀x:Str,x ≠ "__name__" -> mb x=sO x
 nolimit:base.NoLimit
structure Cx where
 prog:rO
 w:sC
 K:rk
 mg:Str->Option rg
 base:Heap
 A:sR
 N:List Str
 s₀:rj
 H₀:Hp
 env:Env
 outer:List Env
 stack:List Env
 ex:List Addr
 fn:Str->Bool
 calm:Bool
 pn:List (Addr×Obj)
 xe:rg->rj->Prop
def frs (l:List Env):List Addr:=l.filterMap (·.frame)
abbrev Cx.fs (X:Cx):List Addr:=frs X.outer
def Vis (sc:Scope)(x:Str):Prop:=sc.names.lookup x=some .local\/sc.names.lookup x=some .cell\/sc.names.lookup x=some .free
def Loc (sc:Scope)(x:Str):Prop:=sc.names.lookup x=some .local\/sc.names.lookup x=some .cell
def Look (env:Env)(h:Heap)(m:Str->Option rg)(x:Str)(u:rg):Prop :=
 (env.kindOf x=some .local/\m x=some u)\/((env.kindOf x=some .cell\/env.kindOf x=some .free)/\∃c,env.cells.lookup x=some c/\h.IsCell c (some u))
structure Cx.Ok (X:Cx):Prop where
 mod:Mod X.K X.mg X.base
 kind:X.env.scope.kind = .function
 glob:X.env.globals=sr
 blt:X.env.builtins=builtinsNs
 above:X.s₀.heap.objs.size<=X.env.locals
 inj:∀x y c,X.env.cells.lookup x=some c->X.env.cells.lookup y=some c->x=y
 has:∀x,(X.env.kindOf x=some .cell\/X.env.kindOf x=some .free)->∃c,X.env.cells.lookup x=some c
 cab:∀x c,X.fn x=true->X.env.cells.lookup x=some c->X.s₀.heap.objs.size<=c
 hd:X.calm=true->X.A.handled=none
 frames:X.A.frames=some X.stack
 stk:X.stack=X.outer\/(X.stack=X.env :: X.outer/\X.env.frame=some X.env.locals)
 exf:∀b∈X.ex,b≠X.env.locals/\∀x c,X.env.cells.lookup x=some c->c≠b
 bs:∀b o,X.base.get? b=some o->X.s₀.heap.get? b=some o/\X.H₀ b=none
 bsz:X.base.objs.size<=X.s₀.heap.objs.size
 noex:∀b o,X.base.get? b=some o->b∉X.ex
 exfs:∀b∈X.ex,b∉X.fs
 funs:X.s₀.heap.FunFrames X.base X.outer
 frf:∀b∈X.fs,X.H₀ b=none
structure Inv (X:Cx)(pins:List (Addr×Obj))(σ:List (Option V))(H:Hp)(s:rj):Prop where
 ok:X.Ok
 os:s.os=X.s₀.os
 bare:AllBare s.gens
 base:Un X.fs X.ex X.H₀ H X.s₀.heap s.heap
 loc:∃m,s.heap.Ns X.env.locals m/\∀(i:Nat) (x:Str) (v:V),X.N[i]? = some x->σ[i]? = some (some v)->Vis X.env.scope x->∃u,RelV v u/\Look X.env s.heap m x u
 cell:∀x c,X.env.cells.lookup x=some c->∃v,s.heap.IsCell c v
 free:H X.env.locals=none
 freeC:∀x c,X.env.cells.lookup x=some c->H c=none
 pin:∀p∈X.pn++pins,s.heap.get? p.1=some p.2/\H p.1=none/\p.1≠X.env.locals/\p.1∉X.fs/\∀v,p.2.data ≠ .cell v
 hok:HOk X.prog X.w H s.heap
 len:σ.length=X.N.length
section
variable  {X:Cx}{pins:List (Addr×Obj)}{σ:List (Option V)}{H H':Hp}{s:rj}{h':Heap}
theorem Cx.Ok.nofr (ok:X.Ok){b:Addr}{o:Obj}(e:X.base.get? b=some o):b∉X.fs:=λhb=>by
 have:=(ok.funs.mem hb).1
 rw[e] at this;cases this
theorem Inv.bs (I:Inv X pins σ H s):∀b o,X.base.get? b=some o->s.heap.get? b=some o/\H b=none:=λb o e =>
 ⟨I.base.keep b o (I.ok.bs b o e).1 (I.ok.bs b o e).2 (I.ok.nofr e) (I.ok.noex b o e),I.base.free b o (I.ok.bs b o e).1 (I.ok.bs b o e).2 (I.ok.noex b o e)⟩
theorem Inv.bk (I:Inv X pins σ H s):∀b o,X.base.get? b=some o->s.heap.get? b=some o:=λb o e=>(I.bs b o e).1
theorem Inv.mod (I:Inv X pins σ H s):Mod X.K X.mg X.base:=I.ok.mod
theorem Inv.kIn (I:Inv X pins σ H s):X.K.In s.heap:=I.ok.mod.kin.keeps I.bk
theorem Inv.lt (I:Inv X pins σ H s):X.env.locals<s.heap.objs.size:=let ⟨_,hn,_⟩:=I.loc;hn.lt
theorem Inv.sz (I:Inv X pins σ H s):X.s₀.heap.objs.size<=s.heap.objs.size:=su I.ok.above (vC I.lt)
theorem Inv.pJ (I:Inv X pins σ H s){a:Addr}(h:s.heap.objs.size<=a):a∉X.fs:=λhb=>by
 obtain ⟨_,o,ho,_⟩:=I.ok.funs.mem hb
 exact absurd (rF (rB ho) (su I.sz h)) (tN _)
theorem Inv.cne (I:Inv X pins σ H s):∀x c,X.env.cells.lookup x=some c->c≠X.env.locals:=λx c e z=>by
 obtain ⟨v,o,ho,hd⟩:=I.cell x c e
 obtain ⟨m,⟨o',es,ep,ho',hd',_⟩,_⟩:=I.loc
 rw[z,ho'] at ho;cases ho;rw[hd'] at hd;cases hd
theorem Inv.funs (I:Inv X pins σ H s):s.heap.FunFrames X.base X.outer:=by
 have all:∀(l:List Env),(∀b∈frs l,b∈X.fs)->X.s₀.heap.FunFrames X.base l->s.heap.FunFrames X.base l:=by
  intro l
  induction l with
  | nil=>intro _ _;trivial
  | cons env r ih =>
   intro hs hl
   obtain ⟨hk,⟨L,o,hf,hn,ho,hd⟩,hr⟩:=hl
   have hL:L∈X.fs:=hs L (by unfold frs;rw[wo,hf];exact rK)
   obtain ⟨sl,e⟩:=I.base.slot L o ho (I.ok.frf L hL) hL λz=>I.ok.exfs L z hL
   exact ⟨hk,⟨L,_,hf,hn,e,hd⟩,ih (λb hb=>hs b (by unfold frs;rw[wo,hf];exact r6 _ hb)) hr⟩
 exact all X.outer (λ_ hb=>hb) I.ok.funs
theorem Inv.stack (I:Inv X pins σ H s):s.heap.FunFrames X.base X.stack:=by
 rcases I.ok.stk with e | ⟨e,hf⟩
 ·rw[e];exact I.funs
 ·rw[e]
  obtain ⟨m,hn,_⟩:=I.loc
  refine .cons (by rw[I.ok.kind];decide) hf hn ?_ I.funs
  exact Heap.get?_none_of_le (su I.ok.bsz I.ok.above)
theorem Inv.gF (I:Inv X pins σ H s):∀b∈frs X.stack,b∈X.env.locals :: X.fs:=λb hb=>by
 rcases I.ok.stk with e | ⟨e,hf⟩
 ·rw[e] at hb;exact r6 _ hb
 ·rw[e] at hb
  unfold frs at hb
  rw[wo,hf] at hb
  exact hb
theorem Inv.jK (I:Inv X pins σ H s):∀b∈frs X.stack,H b=none:=λb hb=>by
 rcases sv.mp (I.gF b hb) with e | hb
 ·rw[e];exact I.free
 ·obtain ⟨_,o,ho,_⟩:=I.ok.funs.mem hb
  exact I.base.free b o ho (I.ok.frf b hb) λz=>I.ok.exfs b z hb
theorem Inv.step {g':Array GenState}{t':Nat}{d':Drawn}{ch:List Addr}(I:Inv X pins σ H s)
  (hch:∀b∈ch,(b∈X.ex\/X.s₀.heap.objs.size<=b)/\b≠X.env.locals/\(∀x c,X.env.cells.lookup x=some c->c≠b)/\∀p∈X.pn++pins,p.1≠b)
  (keep:∀b o,b≠X.env.locals->b∉X.fs->b∉ch->s.heap.get? b=some o->H b=none->h'.get? b=some o)
  (slot:∀b o,b≠X.env.locals->b∈X.fs->b∉ch->s.heap.get? b=some o->H b=none->∃sl,h'.get? b=some { o with slots:=sl }) (free:∀b o,b∉ch->s.heap.get? b=some o->H b=none->H' b=none)
  (there:∀b o,b∉ch->s.heap.get? b=some o->∃o',h'.get? b=some o')
  (tups:∀b xs,H b=some (.tup xs)->H' b=some (.tup xs)) (frzs:∀b o u,H b=some (.frz o u)->H' b=some (.frz o u)) (tbls:∀b ps,H b=some (.tbl ps)->∃more,H' b=some (.tbl (ps++more)))
  (ns:∀m,s.heap.Ns X.env.locals m->h'.Ns X.env.locals m) (hok:HOk X.prog X.w H' h') (hg:AllBare g') :
  Inv X pins σ H' { s with heap:=h',gens:=g',drawn:=d',toks:=t' }:=by
 have neL:∀b o,X.s₀.heap.get? b=some o->b≠X.env.locals:=λb o e=>rQ (rF (rB e) I.ok.above)
 have neC:∀b o,X.s₀.heap.get? b=some o->b∉X.ex->b∉ch:=λb o e hx hb=>by
  rcases (hch b hb).1 with z | z
  ·exact hx z
  ·exact absurd (rF (rB e) z) (tN _)
 have cellK:∀x c,X.env.cells.lookup x=some c->∀v,s.heap.IsCell c v->h'.IsCell c v:=λx c e v ⟨o,ho,hd⟩=>by
  have nch:c∉ch:=λz=>(hch c z).2.2.1 x c e rfl
  by_cases hc:c∈X.fs
  ·obtain ⟨sl,q⟩:=slot c o (I.cne x c e) hc nch ho (I.freeC x c e)
   exact ⟨_,q,hd⟩
  ·exact ⟨o,keep c o (I.cne x c e) hc nch ho (I.freeC x c e),hd⟩
 refine ⟨I.ok,I.os,hg,⟨λb o e n hb hx =>?_,λb o e n hb hx =>?_,λb o e n hx =>?_,λb o e hx =>?_,λb xs e=>tups b xs (I.base.tups b xs e),λb o xs e=>frzs b o xs (I.base.frzs b o xs e),λb ps e =>?_⟩,?_,λx c e =>?_,?_,λx c e =>?_,λp hp =>?_,hok,I.len⟩
 ·exact keep b o (neL b o e) hb (neC b o e hx) (I.base.keep b o e n hb hx) (I.base.free b o e n hx)
 ·obtain ⟨sl,e1⟩:=I.base.slot b o e n hb hx
  obtain ⟨sl',e2⟩:=slot b _ (neL b o e) hb (neC b o e hx) e1 (I.base.free b o e n hx)
  exact ⟨sl',e2⟩
 ·obtain ⟨o',e1⟩:=I.base.there b o e hx
  exact free b o' (neC b o e hx) e1 (I.base.free b o e n hx)
 ·obtain ⟨o',e1⟩:=I.base.there b o e hx
  exact there b o' (neC b o e hx) e1
 ·obtain ⟨m1,e1⟩:=I.base.tbls b ps e
  obtain ⟨m2,e2⟩:=tbls b _ e1
  exact ⟨m1++m2,by rw[e2,Array.append_assoc]⟩
 ·obtain ⟨m,hn,hl⟩:=I.loc
  refine ⟨m,ns m hn,λi x v e1 e2 e3 =>?_⟩
  obtain ⟨u,r,l⟩:=hl i x v e1 e2 e3
  refine ⟨u,r,?_⟩
  rcases l with l | ⟨k,c,e,z⟩
  ·exact .inl l
  ·exact .inr ⟨k,c,e,cellK x c e _ z⟩
 ·obtain ⟨v,z⟩:=I.cell x c e
  exact ⟨v,cellK x c e v z⟩
 ·obtain ⟨m,⟨o,_,_,ho,_⟩,_⟩:=I.loc
  exact free _ o (λz=>(hch _ z).2.1 rfl) ho I.free
 ·obtain ⟨v,o,ho,hd⟩:=I.cell x c e
  exact free c o (λz=>(hch c z).2.2.1 x c e rfl) ho (I.freeC x c e)
 ·obtain ⟨e,n,ne,nf,d⟩:=I.pin p hp
  have nch:p.1∉ch:=λz=>(hch p.1 z).2.2.2 p hp rfl
  exact ⟨keep p.1 p.2 ne nf nch e n,free p.1 p.2 nch e n,ne,nf,d⟩
theorem Inv.un {t':Nat}(I:Inv X pins σ H s)(u:Un X.fs [] H H' s.heap h')(hok:HOk X.prog X.w H' h'):Inv X pins σ H' { s with heap:=h',toks:=t' }:=by
 obtain ⟨m,⟨o,es,ep,ho,r⟩,_⟩:=id I.loc
 obtain ⟨sl,hL⟩:=u.any ho I.free (by simp)
 exact I.step (g':=s.gens) (d':=s.drawn) (ch:=[]) (λ_ z=>nomatch z) (λb o _ hb _ e n=>u.keep b o e n hb (by simp)) (λb o _ hb _ e n=>u.slot b o e n hb (by simp)) (λb o _ e n=>u.free b o e n (by simp)) (λb o _ e=>u.there b o e (by simp)) u.tups u.frzs u.tbls (λm' hm=>by
  obtain ⟨o',es',ep',ho',r'⟩:=hm
  rw[ho] at ho';cases ho'
  exact ⟨_,es',ep',hL,r'⟩) hok I.bare
theorem Inv.call {g':Array GenState}{t':Nat}{d':Drawn}{ch:List Addr}(I:Inv X pins σ H s)(u:Un (frs X.stack) ch H H' s.heap h')(hok:HOk X.prog X.w H' h')(hg:AllBare g')
  (hch:∀b∈ch,(b∈X.ex\/X.s₀.heap.objs.size<=b)/\b≠X.env.locals/\(∀x c,X.env.cells.lookup x=some c->c≠b)/\∀p∈X.pn++pins,p.1≠b) :
  Inv X pins σ H' { s with heap:=h',gens:=g',drawn:=d',toks:=t' }:=by
 obtain ⟨m,⟨o,es,ep,ho,r⟩,_⟩:=id I.loc
 obtain ⟨sl,hL⟩:=u.any ho I.free λz=>(hch _ z).2.1 rfl
 exact I.step (ch:=ch) hch (λb o hL hb hc e n=>u.keep b o e n (λz=>(sv.mp (I.gF b z)).elim hL hb) hc) (λb o _ _ hc e n=>u.any e n hc) (λb o hc e n=>u.free b o e n hc) (λb o hc e=>u.there b o e hc) u.tups u.frzs u.tbls (λm' hm=>by
  obtain ⟨o',es',ep',ho',r'⟩:=hm
  rw[ho] at ho';cases ho'
  exact ⟨_,es',ep',hL,r'⟩) hok hg
theorem Inv.turned {t':Nat}{it:Addr}(I:Inv X pins σ H s)(k:∀b o,b≠it->s.heap.get? b=some o->h'.get? b=some o)(hn:H it=none)(hL:it≠X.env.locals)
  (h1:it∈X.ex\/X.s₀.heap.objs.size<=it) (h2:∀x c,X.env.cells.lookup x=some c->c≠it) (h3:∀p∈X.pn++pins,p.1≠it):Inv X pins σ H { s with heap:=h',toks:=t' }:=by
 have nit:∀b u,H b=some u->b≠it:=λb u e z=>by rw[z,hn] at e;cases e
 refine I.step (g':=s.gens) (d':=s.drawn) (ch:=[it]) (λb hb =>?_) (λb o _ _ hc e _=>k b o (λz=>hc (by simp[z])) e) (λb o _ _ hc e _=>⟨o.slots,k b o (λz=>hc (by simp[z])) e⟩) (λ_ _ _ _ n=>n)
  (λb o hc e=>⟨o,k b o (λz=>hc (by simp[z])) e⟩) (λ_ _ e=>e) (λ_ _ _ e=>e) (λb ps e=>⟨#[],by rw[e];simp⟩) (λm hm =>?_) (λb u e =>?_) I.bare
 ·have e:b=it:=by simpa using hb
  subst e
  exact ⟨h1,hL,h2,h3⟩
 ·obtain ⟨o,es,ep,ho,r⟩:=hm
  exact ⟨o,es,ep,k _ o (vy hL) ho,r⟩
 ·refine (I.hok b u e).ib (λc v hc q=>k c v ?_ q) (λ_ q=>q) λ_ _ q=>q
  rcases hc with z | z
  ·rw[z];exact nit b u e
  ·exact nit c _ z
theorem Inv.tok (I:Inv X pins σ H s)(t:Nat):Inv X pins σ H { s with toks:=t }:=I.un (h':=s.heap) (t':=t) Un.refl I.hok
theorem Inv.kept {t':Nat}(I:Inv X pins σ H s)(k:∀b u,s.heap.get? b=some u->h'.get? b=some u):Inv X pins σ H { s with heap:=h',toks:=t' }:=I.un (Un.kept k) (I.hok.kept k)
theorem Inv.laid {a:Addr}{o:HO}{t':Nat}(I:Inv X pins σ H s)(k:∀b u,s.heap.get? b=some u->h'.get? b=some u)(hp:s.heap.objs.size<=a)(new:aR X.prog X.w (upd H a o) h' a o) :
  Inv X pins σ (upd H a o) { s with heap:=h',toks:=t' }:=I.un (Un.laid k hp (I.hok.fresh hp)) (I.hok.laid k hp new)
theorem Inv.write {x e:Addr}{o:HO}{t':Nat}(I:Inv X pins σ H s)(mu:Mut (H x))(he:e=x\/H e=some (.own x))(k:∀b u,b≠e->s.heap.get? b=some u->h'.get? b=some u)(heo:∃u,h'.get? e=some u)
  (new:aR X.prog X.w (upd H x o) h' x o):Inv X pins σ (upd H x o) { s with heap:=h',toks:=t' }:=I.un (Un.write mu he k heo) (I.hok.write mu he k heo new)
theorem Inv.dt {pins':List (Addr×Obj)}(I:Inv X pins σ H s)(h:∀p∈pins',s.heap.get? p.1=some p.2/\H p.1=none/\p.1≠X.env.locals/\p.1∉X.fs/\∀v,p.2.data ≠ .cell v):Inv X pins' σ H s :=
 ⟨I.ok,I.os,I.bare,I.base,I.loc,I.cell,I.free,I.freeC,λp hp=>(rV.mp hp).elim (λz=>I.pin p (vm _ z)) (h p),I.hok,I.len⟩
theorem ic {N:List Str}(hN:N.Nodup){i j:Nat}{x:Str}(a:N[i]? = some x)(b:N[j]? = some x):i=j:=by
 obtain ⟨h1,e1⟩:=rE.mp a
 obtain ⟨h2,e2⟩:=rE.mp b
 exact (List.getElem_inj hN).mp (e1.trans e2.symm)
theorem kI {M:Model}{A:sR}{E:rg->rj->Prop}{i:Nat}{x:Str}{v:V}{u:rg}{Q:Unit->rj->Prop}(I:Inv X pins σ H s)(hN:X.N.Nodup)(hi:X.N[i]? = some x)(hx:Loc X.env.scope x)(r:RelV v u)
  (h:∀s',Inv X pins (σ.set i (some v)) H s'->(∃a,Heap.SameBut a s.heap s'.heap/\(a=X.env.locals\/X.env.cells.lookup x=some a))->Q () s') (hf:X.fn x=true\/X.env.scope.names.lookup x=some .local:=by first | exact .inl rfl | exact .inr rfl | assumption):rX M A (storeName X.env x u) Q E s:=by
 obtain ⟨m,hn,hl⟩:=id I.loc
 have hcls:(X.env.scope.kind == .class || (X.env.scope.kind == .module && X.env.locals != X.env.globals))=false:=by rw[I.ok.kind];rfl
 have hiσ:i<σ.length:=by rw[I.len];exact (rE.mp hi).1
 have cne:=I.cne
 have tracked:∀{a:Addr} {h':Heap},(∃o,s.heap.get? a=some o/\H a=none)->Heap.SameBut a s.heap h'->HOk X.prog X.w H h':=λ{a h'} ha hs b ob e=>by
  obtain ⟨_,_,hfree⟩:=ha
  refine (I.hok b ob e).ib (λc w' hc q=>(hs.2 c ?_).trans q) (λ_ q=>q) λ_ _ q=>q
  rintro rfl
  rcases hc with rfl | hc
  ·rw[hfree] at e;cases e
  ·rw[hfree] at hc;cases hc
 rcases hx with hk | hk
 ·refine wpAny_storeName_local hk hn (λh' hn' hs =>?_) hcls
  obtain ⟨oL,_,_,hoL,_⟩:=id hn
  refine h _ ⟨I.ok,I.os,I.bare,⟨λb o e n hb hx =>?_,λb o e n hb hx =>?_,I.base.free,λb o e hx =>?_,I.base.tups,I.base.frzs,I.base.tbls⟩,⟨_,hn',λj y v' e1 e2 e3 =>?_⟩,λy c e =>?_,I.free,I.freeC,λp hp =>?_,tracked ⟨oL,hoL,I.free⟩ hs,by simpa using I.len⟩ ⟨_,hs,.inl rfl⟩
  ·exact (hs.2 b (rQ (rF (rB e) I.ok.above))).trans (I.base.keep b o e n hb hx)
  ·obtain ⟨sl,e1⟩:=I.base.slot b o e n hb hx
   exact ⟨sl,(hs.2 b (rQ (rF (rB e) I.ok.above))).trans e1⟩
  ·obtain ⟨o',e1⟩:=I.base.there b o e hx
   exact ⟨o',(hs.2 b (rQ (rF (rB e) I.ok.above))).trans e1⟩
  ·by_cases hj:j=i
   ·subst hj
    rw[hi] at e1;cases e1
    rw[vR hiσ] at e2
    cases e2
    exact ⟨u,r,.inl ⟨hk,by simp⟩⟩
   ·rw[x3 (vy hj)] at e2
    obtain ⟨u',r',q⟩:=hl j y v' e1 e2 e3
    refine ⟨u',r',?_⟩
    rcases q with ⟨k,e⟩ | ⟨k,c,e,z⟩
    ·refine .inl ⟨k,?_⟩
     have:y≠x:=λe=>hj (ic hN e1 (e ▸ hi))
     simp[this,e]
    ·exact .inr ⟨k,c,e,z.sameBut hs (cne y c e)⟩
  ·obtain ⟨w',z⟩:=I.cell y c e
   exact ⟨w',z.sameBut hs (cne y c e)⟩
  ·obtain ⟨e,n,ne,nf,d⟩:=I.pin p hp
   exact ⟨(hs.2 p.1 ne).trans e,n,ne,nf,d⟩
 ·have hfn:X.fn x=true:=by
   rcases hf with z | z
   ·exact z
   ·rw[z] at hk;cases hk
  obtain ⟨c,hc⟩:=I.ok.has x (.inl hk)
  obtain ⟨w',z⟩:=I.cell x c hc
  refine wpAny_storeName_cell I.ok.kind hk hc z (λh' hc' hs =>?_)
  obtain ⟨oc,hoc,hocd⟩:=id z
  refine h { s with heap:=h' } ⟨I.ok,I.os,I.bare,⟨λb o e n hb hx =>?_,λb o e n hb hx =>?_,I.base.free,λb o e hx =>?_,I.base.tups,I.base.frzs,I.base.tbls⟩,⟨m,hn.sameBut hs (vy (cne x c hc)),λj y v' e1 e2 e3 =>?_⟩,λy c' e =>?_,I.free,I.freeC,λp hp =>?_,tracked ⟨oc,hoc,I.freeC x c hc⟩ hs,by simpa using I.len⟩ ⟨c,hs,.inr hc⟩
  ·exact (hs.2 b (rQ (rF (rB e) (I.ok.cab x c hfn hc)))).trans (I.base.keep b o e n hb hx)
  ·obtain ⟨sl,e1⟩:=I.base.slot b o e n hb hx
   exact ⟨sl,(hs.2 b (rQ (rF (rB e) (I.ok.cab x c hfn hc)))).trans e1⟩
  ·obtain ⟨o',e1⟩:=I.base.there b o e hx
   exact ⟨o',(hs.2 b (rQ (rF (rB e) (I.ok.cab x c hfn hc)))).trans e1⟩
  ·by_cases hj:j=i
   ·subst hj
    rw[hi] at e1;cases e1
    rw[vR hiσ] at e2
    cases e2
    exact ⟨u,r,.inr ⟨.inl hk,c,hc,hc'⟩⟩
   ·rw[x3 (vy hj)] at e2
    obtain ⟨u',r',q⟩:=hl j y v' e1 e2 e3
    refine ⟨u',r',?_⟩
    rcases q with q | ⟨k,c',e,z'⟩
    ·exact .inl q
    ·refine .inr ⟨k,c',e,z'.sameBut hs ?_⟩
     rintro rfl
     exact hj (ic hN e1 (I.ok.inj _ _ _ e hc ▸ hi))
  ·by_cases hcc:c'=c
   ·subst hcc;exact ⟨_,hc'⟩
   ·obtain ⟨w2,z2⟩:=I.cell y c' e
    exact ⟨w2,z2.sameBut hs hcc⟩
  ·obtain ⟨e,n,ne,nf,d⟩:=I.pin p hp
   refine ⟨(hs.2 p.1 ?_).trans e,n,ne,nf,d⟩
   intro q
   rw[q,hoc] at e
   have q':oc=p.2:=r9 e
   exact d w' (by rw[<- q'];exact hocd)
theorem ie {M:Model}{A:sR}{E:rg->rj->Prop}{i:Nat}{x:Str}{v:V}{u:rg}{Q:Unit->rj->Prop}(I:Inv X pins σ H s)(hN:X.N.Nodup)(hi:X.N[i]? = some x)(hx:Loc X.env.scope x)(r:RelV v u)
  (h:∀s',Inv X pins (σ.set i (some v)) H s'->Q () s') (hf:X.fn x=true\/X.env.scope.names.lookup x=some .local:=by first | exact .inl rfl | exact .inr rfl | assumption):rX M A (storeName X.env x u) Q E s :=
 kI I hN hi hx r (λs' I' _=>h s' I') hf
theorem Inv.qy {s':rj}{ch:List Addr}(I:Inv X pins σ H s)(ho:s'.os=s.os)(u:Un (frs X.stack) ch H H' s.heap s'.heap)(hok:HOk X.prog X.w H' s'.heap)(hg:AllBare s'.gens)
  (hch:∀b∈ch,(b∈X.ex\/X.s₀.heap.objs.size<=b)/\b≠X.env.locals/\(∀x c,X.env.cells.lookup x=some c->c≠b)/\∀p∈X.pn++pins,p.1≠b):Inv X pins σ H' s':=by
 obtain ⟨h',g',d',t',o'⟩:=s'
 have e:o'=s.os:=ho
 subst e
 exact I.call (g':=g') (t':=t') (d':=d') u hok hg hch
end
abbrev XK:=rg->Option Addr->Hp->Prop
abbrev St:=List (Option V)
abbrev VK:=V->Hp->Prop
abbrev TE:=St->Hp->VK->Prop
abbrev TT:=St->Hp->(Bool->Hp->Prop)->Prop
abbrev TA:=St->Hp->(List V->Hp->Prop)->Prop
structure Ends where
 nx:St->Hp->Prop
 rt:VK
 bk:St->Hp->Prop:=λ_ _=>False
 ct:St->Hp->Prop:=λ_ _=>False
abbrev TS:=Ends->St->Hp->Prop
def EP (X:Cx)(pins:List (Addr×Obj))(σ:St)(Q:VK)(u:rg)(s':rj):Prop:=∃v H',Inv X pins σ H' s'/\RelV v u/\Q v H'
def TP (X:Cx)(pins:List (Addr×Obj))(σ:St)(Q:Bool->Hp->Prop)(b:Bool)(s':rj):Prop:=∃H',Inv X pins σ H' s'/\Q b H'
def AP (X:Cx)(pins:List (Addr×Obj))(σ:St)(Q:List V->Hp->Prop)(us:List rg)(s':rj):Prop:=∃vs H',Inv X pins σ H' s'/\Vals vs us/\Q vs H'
def SP (X:Cx)(pins:List (Addr×Obj))(D:Ends)(f:Flow)(s':rj):Prop :=
 match f with
 | .next=>∃σ' H',Inv X pins σ' H' s'/\D.nx σ' H'
 | .brk=>∃σ' H',Inv X pins σ' H' s'/\D.bk σ' H'
 | .cont=>∃σ' H',Inv X pins σ' H' s'/\D.ct σ' H'
 | .ret u=>∃v σ' H',Inv X pins σ' H' s'/\RelV v u/\D.rt v H'
def PE (X:Cx)(e:Expr)(t:TE):Prop :=
 ∀(pins:List (Addr×Obj)) (s:rj) (σ:St) (H:Hp) (Q:VK),Inv X pins σ H s->t σ H Q->rX (sh X.prog X.w) X.A (eval e X.env) (EP X pins σ Q) X.xe s
def PT (X:Cx)(e:Expr)(t:TT):Prop :=
 ∀(pins:List (Addr×Obj)) (s:rj) (σ:St) (H:Hp) (Q:Bool->Hp->Prop),Inv X pins σ H s->t σ H Q->rX (sh X.prog X.w) X.A (isTrue e X.env (eval e X.env)) (TP X pins σ Q) X.xe s
def PW (X:Cx)(e:Expr)(t:TT):Prop :=
 ∀(whole:Sem rg) (pins:List (Addr×Obj)) (s:rj) (σ:St) (H:Hp) (Q:Bool->Hp->Prop),Inv X pins σ H s->t σ H Q->rX (sh X.prog X.w) X.A (isTrue e X.env whole) (TP X pins σ Q) X.xe s
theorem PW.pt {X:Cx}{e:Expr}{t:TT}(h:PW X e t):PT X e t:=h _
def PA (X:Cx)(es:List Expr)(t:TA):Prop :=
 ∀(pos:Pos) (pins:List (Addr×Obj)) (s:rj) (σ:St) (H:Hp) (Q:List V->Hp->Prop),Inv X pins σ H s->t σ H Q->rX (sh X.prog X.w) X.A (spliced (xw pos (sU es X.env))) (AP X pins σ Q) X.xe s
def PS (X:Cx)(st:Stmt)(t:TS):Prop :=
 ∀(pins:List (Addr×Obj)) (s:rj) (σ:St) (H:Hp) (D:Ends),Inv X pins σ H s->t D σ H->rX (sh X.prog X.w) X.A (exec st X.env) (SP X pins D) X.xe s
def PSs (X:Cx)(st:List Stmt)(t:TS):Prop :=
 ∀(pins:List (Addr×Obj)) (s:rj) (σ:St) (H:Hp) (D:Ends),Inv X pins σ H s->t D σ H->rX (sh X.prog X.w) X.A (execs st X.env) (SP X pins D) X.xe s
theorem thn {α:Type}{t:Sem α}{Q Q':α -> rj->Prop}{M:Model}{A:sR}{E:rg->rj->Prop}{s:rj}(h:rX M A t Q E s)(hQ:∀a s,Q a s->Q' a s):rX M A t Q' E s:=vi h hQ λ_ _ x=>x
open PySem PySem.Spec PyProof.Rows
section
variable  {X:Cx}
theorem bin {a b:Expr}{ta tb:TE}(ha:PE X a ta)(hb:PE X b tb){pins:List (Addr×Obj)}{s:rj}{σ:St}{H:Hp}{R:V->V->Hp->Prop}(I:Inv X pins σ H s)(h:ta σ H λx H1=>tb σ H1 λy H2=>R x y H2)
  {α:Type} {Q:α -> rj->Prop} {f:rg->rg->Sem α}
  (hf:∀v u s2 x y H2,Inv X pins σ H2 s2->RelV x v->RelV y u->R x y H2->rX (sh X.prog X.w) X.A (f v u) Q X.xe s2) :
  rX (sh X.prog X.w) X.A (eval a X.env) (λv s₁=>rX (sh X.prog X.w) X.A (eval b X.env) (λu s₂=>rX (sh X.prog X.w) X.A (f v u) Q X.xe s₂) X.xe s₁) X.xe s:=by
 refine thn (ha pins s σ H _ I h) λv s1 ⟨x,H1,I1,r1,q1⟩ =>?_
 refine thn (hb pins s1 σ H1 _ I1 q1) λu s2 ⟨y,H2,I2,r2,q2⟩ =>?_
 exact hf v u s2 x y H2 I2 r1 r2 q2
def qz (i:Nat):TE:=λσ H Q=>∃v,σ[i]? = some (some v)/\Q v H
def tC (v:V):TE:=λ_ H Q=>Q v H
theorem pK {i:Nat}{x:Str}{pos:Pos}(hN:X.N[i]? = some x)(hv:Vis X.env.scope x)(hd:(x == ("__debug__" : Str))=false:=by decide)(hcd:(x == ("__classdict__" : Str))=false:=by decide):PE X (.Name x pos) (qz i):=by
 intro pins s σ H Q I h
 obtain ⟨v,e,h⟩:=h
 obtain ⟨m,hn,hl⟩:=I.loc
 obtain ⟨u,r,l⟩:=hl i x v hN e hv
 have fin:EP X pins σ Q u s:=⟨v,H,I,r,h⟩
 rcases l with ⟨hk,hm⟩ | ⟨hk,c,hc,hcell⟩
 ·exact zo (wpAny_loadName_local I.ok.kind hk hn hm fin) hd
 ·rcases hk with hk | hk
  ·exact zo (wpAny_loadName_cell I.ok.kind hk hc hcell fin) hd
  ·exact zo (wpAny_loadName_free I.ok.kind hk hc hcell fin hcd) hd
theorem ai {i j pos}:PE X (.Constant (.int i) j pos) (tC (.int i)):=λ_ _ _ H _ I h=>wpAny_Constant_int ⟨.int i,H,I.tok _,⟨_,rfl⟩,h⟩
theorem qA {b j pos}:PE X (.Constant (.bool b) j pos) (tC (.bl b)):=λ_ _ _ H _ I h=>Constant_bool ⟨.bl b,H,I,rfl,h⟩
theorem gG {j pos}:PE X (.Constant .none j pos) (tC .non):=λ_ _ _ H _ I h=>Constant_none ⟨.non,H,I,rfl,h⟩
theorem aT {x j pos}:PE X (.Constant (.str x) j pos) (tC (.str x)):=λ_ _ _ H _ I h=>Calls.Constant_str ⟨.str x,H,I.tok _,⟨_,rfl⟩,h⟩
def Gl (X:Cx)(x:Str):Prop:=X.env.kindOf x=some .globalImplicit
theorem jL {E:rg->rj->Prop}{pins:List (Addr×Obj)}{s:rj}{σ:St}{H:Hp}{x:Str}{u:rg}{pos:Pos}{Q:rg->rj->Prop}(I:Inv X pins σ H s)(hg:Gl X x)(hm:X.mg x=some u)(h:Q u s)
  (hd:(x == ("__debug__" : Str))=false:=by decide):rX (sh X.prog X.w) X.A (eval (.Name x pos) X.env) Q E s :=
 wC I.ok.kind hg (Calls.loadGlobal_global (by rw[I.ok.glob];exact I.mod.glob.keeps I.bk) hm h) hd
theorem eN {E:rg->rj->Prop}{pins:List (Addr×Obj)}{s:rj}{σ:St}{H:Hp}{x:Str}{u:rg}{pos:Pos}{Q:rg->rj->Prop}(I:Inv X pins σ H s)(hg:Gl X x)(hm:X.mg x=none)(hv:sO x=some u)(h:Q u s)
  (hn:x ≠ "__name__" := by decide) (hd:(x == ("__debug__" : Str))=false:=by decide):rX (sh X.prog X.w) X.A (eval (.Name x pos) X.env) Q E s:=by
 obtain ⟨mb,h1,h2⟩:=I.mod.blt
 exact wC I.ok.kind hg (Calls.loadGlobal_builtin (by rw[I.ok.glob];exact I.mod.glob.keeps I.bk) hm (by rw[I.ok.blt];exact h1.keeps I.bk) ((h2 x hn).trans hv) h) hd
theorem du {x:Str}{v:V}{u:rg}{pos:Pos}(hg:Gl X x)(hm:X.mg x=some u)(r:RelV v u)(hd:(x == ("__debug__" : Str))=false:=by decide):PE X (.Name x pos) (tC v) :=
 λ_ _ _ H _ I h=>jL I hg hm ⟨v,H,I,r,h⟩ hd
theorem bC {x:Str}{v:V}{u:rg}{pos:Pos}(hg:Gl X x)(hm:X.mg x=none)(hv:sO x=some u)(r:RelV v u)(hn:x ≠ "__name__" := by decide)(hd:(x == ("__debug__" : Str))=false:=by decide):PE X (.Name x pos) (tC v) :=
 λ_ _ _ H _ I h=>eN I hg hm hv ⟨v,H,I,r,h⟩ hn hd
variable  {a b:Expr}{ta tb:TE}{pos:Pos}
def PC (X:Cx)(op:CmpOp)(a b:Expr)(t:TE):Prop :=
 ∀(pins:List (Addr×Obj)) (s:rj) (σ:St) (H:Hp) (Q:VK),Inv X pins σ H s->t σ H Q →
  rX (sh X.prog X.w) X.A (eval a X.env) (λv s₁=>rX (sh X.prog X.w) X.A (eval b X.env) (λu s₂=>rX (sh X.prog X.w) X.A (uA op v u) (EP X pins σ Q) X.xe s₂) X.xe s₁) X.xe s
theorem lZ (b:Expr){op:CmpOp}(h:op ≠ .In)(h2:op ≠ .NotIn):behindInMarks op b=false:=by
 have e1:(op == CmpOp.In)=false:=by cases op <;> first | rfl | exact absurd rfl h
 have e2:(op == CmpOp.NotIn)=false:=by cases op <;> first | rfl | exact absurd rfl h2
 cases b <;> simp[behindInMarks,e1,e2]
def tB (t:TE):TT:=λσ H Q=>t σ H λx H1=>∃c,x = .bl c/\Q c H1
theorem pt_cmp {op:CmpOp}{t:TE}(h:PC X op a b t)(h1:behindInMarks op b=false:=by first | exact lZ _ (by decide) (by decide) | rfl):PT X (.Compare a [op] [b] pos) (tB t):=by
 intro pins s σ H Q I hw
 refine xR (thn (h pins s σ H _ I hw) λv s1 h1=>thn h1 λu s2 h2=>thn h2 λc s3 ⟨x,H1,I1,r1,q1⟩ =>?_) h1
 obtain ⟨d,rfl,q⟩:=q1
 cases r1
 exact t9 ⟨H1,I1,q⟩
theorem bR {e:Expr}{t:TE}(h:PE X e t)(he:∀whole,isTrue e X.env whole=(do let v ← whole;standAt e.pos;yF [v] (truthy v)):=by intro _;rfl):PT X e (tB t):=by
  intro pins s σ H Q I hw
  refine isTrue_plain (thn (h pins s σ H _ I hw) λv s1 ⟨x,H1,I1,r1,q1⟩ =>?_) (he _)
  obtain ⟨d,rfl,q⟩:=q1
  cases r1
  exact t9 ⟨H1,I1,q⟩
variable  {tA tB':TT}{rest:List Expr}
def tAnd (t u:TT):TT:=λσ H Q=>t σ H λc H1=>if c=true then u σ H1 Q else Q false H1
def tOr (t u:TT):TT:=λσ H Q=>t σ H λc H1=>if c=true then Q true H1 else u σ H1 Q
def tNot (t:TT):TT:=λσ H Q=>t σ H λc H1=>Q (!c) H1
theorem nB (ha:PT X a tA):PW X (.BoolOp .And [a] pos) tA:=by
 intro wh pins s σ H Q I h
 refine isTrue_and (thn (ha pins s σ H Q I h) λc s1 e =>?_)
 cases c with
 | true=>exact isTrue_and_nil e
 | false=>exact e
theorem dO (ha:PT X a tA):PW X (.BoolOp .Or [a] pos) tA:=by
 intro wh pins s σ H Q I h
 refine isTrue_or (thn (ha pins s σ H Q I h) λc s1 e =>?_)
 cases c with
 | false=>exact isTrue_or_nil e
 | true=>exact e
theorem pL (ha:PT X a tA)(hb:PW X (.BoolOp .And (b :: rest) pos) tB'):PW X (.BoolOp .And (a :: b :: rest) pos) (tAnd tA tB'):=by
 intro wh pins s σ H Q I h
 refine isTrue_and (thn (ha pins s σ H _ I h) λc s1 ⟨H1,I1,q1⟩ =>?_)
 cases c with
 | true=>exact hb wh pins s1 σ H1 Q I1 q1
 | false=>exact ⟨H1,I1,q1⟩
theorem eO (ha:PT X a tA)(hb:PW X (.BoolOp .Or (b :: rest) pos) tB'):PW X (.BoolOp .Or (a :: b :: rest) pos) (tOr tA tB'):=by
 intro wh pins s σ H Q I h
 refine isTrue_or (thn (ha pins s σ H _ I h) λc s1 ⟨H1,I1,q1⟩ =>?_)
 cases c with
 | true=>exact ⟨H1,I1,q1⟩
 | false=>exact hb wh pins s1 σ H1 Q I1 q1
theorem cE (ha:PT X a tA):PT X (.UnaryOp .Not a pos) (tNot tA):=by
 intro pins s σ H Q I h
 exact isTrue_not (ha pins s σ H (λc H1=>Q (!c) H1) I h)
def qB (ta tb:TE):TE:=λσ H Q=>ta σ H λx H1=>∃c,x = .bl c/\if c=true then tb σ H1 Q else Q (.bl false) H1
def tOrV (ta tb:TE):TE:=λσ H Q=>ta σ H λx H1=>∃c,x = .bl c/\if c=true then Q (.bl true) H1 else tb σ H1 Q
def qC (ta:TE):TE:=λσ H Q=>ta σ H λx H1=>∃c,x = .bl c/\Q (.bl (!c)) H1
theorem dP {op}{t:TE}(h:PE X a t):PE X (.BoolOp op [a] pos) t:=λpins s σ H Q I hw=>BoolOp_one (h pins s σ H Q I hw)
theorem eQ (ha:PE X a ta)(hb:PE X (.BoolOp .And (b :: rest) pos) tb):PE X (.BoolOp .And (a :: b :: rest) pos) (qB ta tb):=by
 intro pins s σ H Q I h
 refine BoolOp_and (thn (ha pins s σ H _ I h) λv s1 ⟨x,H1,I1,r1,q1⟩ =>?_)
 obtain ⟨c,rfl,q1⟩:=q1
 cases r1
 refine t9 ?_
 cases c with
 | true=>exact hb pins s1 σ H1 Q I1 q1
 | false=>exact ⟨.bl false,H1,I1,rfl,q1⟩
theorem oO (ha:PE X a ta)(hb:PE X (.BoolOp .Or (b :: rest) pos) tb):PE X (.BoolOp .Or (a :: b :: rest) pos) (tOrV ta tb):=by
 intro pins s σ H Q I h
 refine BoolOp_or (thn (ha pins s σ H _ I h) λv s1 ⟨x,H1,I1,r1,q1⟩ =>?_)
 obtain ⟨c,rfl,q1⟩:=q1
 cases r1
 refine t9 ?_
 cases c with
 | false=>exact hb pins s1 σ H1 Q I1 q1
 | true=>exact ⟨.bl true,H1,I1,rfl,q1⟩
theorem pM (ha:PE X a ta):PE X (.UnaryOp .Not a pos) (qC ta):=by
 intro pins s σ H Q I h
 refine UnaryOp_ (thn (ha pins s σ H _ I h) λv s1 ⟨x,H1,I1,r1,q1⟩ =>?_)
 obtain ⟨c,rfl,q1⟩:=q1
 cases r1
 exact not_of (t9 ⟨.bl (!c),H1,I1,rfl,q1⟩)
end
open PySem PySem.Spec PyProof.Rows
def SqL (K:rk)(H:Hp)(a:Addr)(xs:List V):Prop :=
 Rd H a (.lst xs) ∨
  ∃(o:Obj) (its:Array rg) (n:Nat),K.lookup a=some o/\o.cls = .type "list" /\ o.dict=none/\o.data = .seq its n/\its.size<=rN/\Vals xs its.toList
def SqT (K:rk)(H:Hp)(a:Addr)(xs:List V):Prop :=
 Rd H a (.tup xs) ∨
  ∃(o:Obj) (its:Array rg) (n:Nat),K.lookup a=some o/\o.cls = .type "tuple" /\ o.data = .seq its n/\its.size<=rN/\Vals xs its.toList
def absV:rg->Option V
 | .none=>some .non
 | .bool b=>some (.bl b)
 | .int i _=>some (.int i)
 | .str x _=>some (.str x)
 | .bytes b _=>some (.byt b)
 | .float b _=>some (.flt b)
 | .ref a=>some (.ref a)
 | .type n=>some (.ty n)
 | _=>none
theorem RelV.abs {x:V}{u:rg}(r:RelV x u):absV u=some x:=by
 cases x with
 | non=>cases r;rfl
 | bl _=>cases r;rfl
 | int _=>obtain ⟨t,rfl⟩:=r;rfl
 | str _=>obtain ⟨t,rfl⟩:=r;rfl
 | byt _=>obtain ⟨t,rfl⟩:=r;rfl
 | flt _=>obtain ⟨t,rfl⟩:=r;rfl
 | ref _=>cases r;rfl
 | ty _=>cases r;rfl
theorem RelV.inj {x y:V}{u:rg}(r:RelV x u)(q:RelV y u):x=y:=r9 (r.abs.symm.trans q.abs)
theorem Vals.inj:∀{xs ys:List V} {us:List rg},Vals xs us->Vals ys us->xs=ys
 | _,_,_,.nil,.nil=>rfl
 | _,_,_,.cons r t,.cons r' t'=>by rw[r.inj r',Vals.inj t t']
section
variable  {X:Cx}{pins:List (Addr×Obj)}{σ:St}{H:Hp}{s:rj}{a:Addr}{xs ys:List V}
theorem SqL.of {K:rk}(h:H a=some (.lst xs)):SqL K H a xs :=.inl (.inl h)
theorem SqT.of {K:rk}(h:H a=some (.tup xs)):SqT K H a xs :=.inl (.inl h)
theorem Inv.list (I:Inv X pins σ H s)(h:SqL X.K H a xs):∃its:List rg,Vals xs its/\PlainL s.heap a its.toArray/\xs.length<=rN:=by
 rcases h with h | ⟨o,its,n,hk,hc,hd,hs,hz,r⟩
 ·obtain ⟨z,its,n,r,e⟩:=h.ok I.hok
  exact ⟨its,r,⟨_,n,e,rfl,rfl,rfl⟩,z⟩
 ·refine ⟨its.toList,r,⟨o,n,I.kIn a o hk,hc,hd,by simpa using hs⟩,?_⟩
  have e:=r.length
  simp only[rh] at e
  omega
theorem Inv.tuple (I:Inv X pins σ H s)(h:SqT X.K H a xs):∃its:List rg,Vals xs its/\IsTup s.heap a its.toArray/\xs.length<=rN:=by
 rcases h with h | ⟨o,its,n,hk,hc,hs,hz,r⟩
 ·obtain ⟨z,its,r,p⟩:=h.ok I.hok
  exact ⟨its,r,p.tup,z⟩
 ·refine ⟨its.toList,r,⟨o,I.kIn a o hk,hc,n,by simpa using hs⟩,?_⟩
  have e:=r.length
  simp only[rh] at e
  omega
theorem Inv.ig (I:Inv X pins σ H s)(h:SqL X.K H a xs)(h':SqL X.K H a ys):xs=ys:=by
 obtain ⟨its,r,⟨o,n,e,_,_,d⟩,_⟩:=I.list h
 obtain ⟨its',r',⟨o',n',e',_,_,d'⟩,_⟩:=I.list h'
 rw[e] at e';cases e'
 rw[d] at d'
 injection d' with d1 _
 have:its=its':=by simpa using congrArg Array.toList d1
 subst this
 exact r.inj r'
theorem Inv.f6 (I:Inv X pins σ H s)(h:SqT X.K H a xs)(h':SqT X.K H a ys):xs=ys:=by
 obtain ⟨its,r,⟨o,e,_,n,d⟩,_⟩:=I.tuple h
 obtain ⟨its',r',⟨o',e',_,n',d'⟩,_⟩:=I.tuple h'
 rw[e] at e';cases e'
 rw[d] at d'
 injection d' with d1 _
 have:its=its':=by simpa using congrArg Array.toList d1
 subst this
 exact r.inj r'
end
abbrev Cx.fP (X:Cx)(E:rg->rj->Prop):Cx:={ X with xe:=E }
abbrev Cx.nox (X:Cx):Cx:=X.fP λ_ _=>False
theorem Cx.Ok.fP {X:Cx}(ok:X.Ok)(E:rg->rj->Prop):(X.fP E).Ok :=
 ⟨ok.mod,ok.kind,ok.glob,ok.blt,ok.above,ok.inj,ok.has,ok.cab,ok.hd,ok.frames,ok.stk,ok.exf,ok.bs,ok.bsz,ok.noex,ok.exfs,ok.funs,ok.frf⟩
theorem Cx.Ok.cF {X:Cx}{E:rg->rj->Prop}(ok:(X.fP E).Ok):X.Ok :=
 ⟨ok.mod,ok.kind,ok.glob,ok.blt,ok.above,ok.inj,ok.has,ok.cab,ok.hd,ok.frames,ok.stk,ok.exf,ok.bs,ok.bsz,ok.noex,ok.exfs,ok.funs,ok.frf⟩
section
variable  {X:Cx}{pins:List (Addr×Obj)}{σ:St}{H:Hp}{s:rj}{E:rg->rj->Prop}
theorem Inv.fP (I:Inv X pins σ H s)(E:rg->rj->Prop):Inv (X.fP E) pins σ H s:=⟨I.ok.fP E,I.os,I.bare,I.base,I.loc,I.cell,I.free,I.freeC,I.pin,I.hok,I.len⟩
theorem Inv.cF (I:Inv (X.fP E) pins σ H s):Inv X pins σ H s:=⟨I.ok.cF,I.os,I.bare,I.base,I.loc,I.cell,I.free,I.freeC,I.pin,I.hok,I.len⟩
theorem SP.cF {D:Ends}{f:Flow}{s':rj}(h:SP (X.fP E) pins D f s'):SP X pins D f s':=by
 cases f with
 | next=>obtain ⟨σ',H',I,q⟩:=h;exact ⟨σ',H',I.cF,q⟩
 | brk=>obtain ⟨σ',H',I,q⟩:=h;exact ⟨σ',H',I.cF,q⟩
 | cont=>obtain ⟨σ',H',I,q⟩:=h;exact ⟨σ',H',I.cF,q⟩
 | ret u=>obtain ⟨v,σ',H',I,r,q⟩:=h;exact ⟨v,σ',H',I.cF,r,q⟩
theorem PSs.nox {st:List Stmt}{t:TS}(h:PSs X.nox st t):PSs X st t:=λpins s σ H D I hw =>
 vi (h pins s σ H D (I.fP _) hw) (λ_ _ q=>q.cF) λ_ _ z=>False.elim z
end
section
variable  {X:Cx}{st:Stmt}{rest:List Stmt}{t u:TS}{e:Expr}{te:TE}{pos:Pos}
def qD:TS:=λD σ H=>D.nx σ H
def tSeq (t u:TS):TS:=λD σ H=>t { D with nx:=u D } σ H
theorem aP:PSs X [] qD:=λ_ _ σ H _ I h=>xS ⟨σ,H,I,h⟩
theorem af (h1:PS X st t)(h2:PSs X rest u):PSs X (st :: rest) (tSeq t u):=by
 intro pins s σ H D I h
 refine wpAny_execs_cons (thn (h1 pins s σ H { D with nx:=u D } I h) λf s1 q =>?_)
 cases f with
 | next =>
  obtain ⟨σ',H',I',q⟩:=q
  exact h2 pins s1 σ' H' D I' q
 | ret v=>exact q
 | brk=>exact q
 | cont=>exact q
theorem ax (h1:PS X st t):PSs X [st] t:=by
 intro pins s σ H D I h
 refine wpAny_execs_cons (thn (h1 pins s σ H D I h) λf s1 q =>?_)
 cases f with
 | next=>exact xS q
 | ret v=>exact q
 | brk=>exact q
 | cont=>exact q
theorem Inv.quiet {pins:List (Addr×Obj)}{σ:St}{H:Hp}{s:rj}(I:Inv X pins σ H s):interactive X.env=false:=by simp[interactive,I.ok.kind]
def qE (te:TE):TS:=λD σ H=>te σ H λ_ H1=>D.nx σ H1
theorem eJ (he:PE X e te)(hs:swapsWith e none pos.line X.env=pure false:=by rfl):PS X (.Expr e pos) (qE te):=by
 intro pins s σ H D I h
 exact wpAny_Expr_any (thn (he pins s σ H _ I h) λv s1 ⟨x,H1,I1,r1,q1⟩=>⟨σ,H1,I1,q1⟩) I.quiet hs
def tRet (te:TE):TS:=λD σ H=>te σ H D.rt
theorem aQ (he:PE X e te):PS X (.Return (some e) pos) (tRet te):=by
 intro pins s σ H D I h
 exact wpAny_Return_some (thn (he pins s σ H _ I h) λv s1 ⟨x,H1,I1,r1,q1⟩=>⟨x,σ,H1,I1,r1,q1⟩)
def tIfS (c:TT)(t u:TS):TS:=λD σ H=>c σ H λb H1=>if b=true then t D σ H1 else u D σ H1
theorem bL {c:Expr}{a b:List Stmt}{tc:TT}(hc:PT X c tc)(ha:PSs X a t)(hb:PSs X b u):PS X (.If c a b pos) (tIfS tc t u):=by
 intro pins s σ H D I h
 refine wpAny_If (thn (hc pins s σ H _ I h) λd s1 ⟨H1,I1,q1⟩ =>?_)
 cases d with
 | true=>exact ha pins s1 σ H1 D I1 q1
 | false=>exact hb pins s1 σ H1 D I1 q1
def pN:TS:=λ_ _ _=>False
theorem aK {sts:List Stmt}:PSs X sts pN:=λ_ _ _ _ _ _ h=>h.elim
end
abbrev TG:=V->St->Hp->(St->Hp->Prop)->Prop
abbrev TGs:=List V->St->Hp->(St->Hp->Prop)->Prop
def PG (X:Cx)(target:Expr)(t:TG):Prop :=
 ∀(pins:List (Addr×Obj)) (s:rj) (σ:St) (H:Hp) (v:V) (u:rg) (Q:St->Hp->Prop),Inv X pins σ H s->RelV v u->t v σ H Q →
  rX (sh X.prog X.w) X.A (assign target X.env u) (λ_ s'=>∃σ' H',Inv X pins σ' H' s'/\Q σ' H') X.xe s
def PGs (X:Cx)(ts:List Expr)(t:TGs):Prop :=
 ∀(pins:List (Addr×Obj)) (s:rj) (σ:St) (H:Hp) (vs:List V) (us:List rg) (Q:St->Hp->Prop),Inv X pins σ H s->Vals vs us->t vs σ H Q →
  rX (sh X.prog X.w) X.A (assignInOrder ((assignEach ts X.env).map (·.2)) us) (λ_ s'=>∃σ' H',Inv X pins σ' H' s'/\Q σ' H') X.xe s
abbrev pO:=V->V->V->Hp->(Hp->Prop)->Prop
def qF (X:Cx)(t:pO):Prop :=
 ∀(pins:List (Addr×Obj)) (s:rj) (σ:St) (H:Hp) (o i v:V) (ov iv u:rg) (Q:Hp->Prop),Inv X pins σ H s->RelV o ov->RelV i iv->RelV v u->t o i v H Q →
  rX (sh X.prog X.w) X.A (setItem ov iv u) (λ_ s'=>∃H',Inv X pins σ H' s'/\Q H') X.xe s
section
variable  {X:Cx}{pos:Pos}
def f7 (i:Nat):TG:=λv σ H Q=>Q (σ.set i (some v)) H
theorem bp {i:Nat}{x:Str}(hN:X.N.Nodup)(hi:X.N[i]? = some x)(hx:Loc X.env.scope x)(hf:X.fn x=true\/X.env.scope.names.lookup x=some .local:=by first | exact .inl rfl | exact .inr rfl | assumption):PG X (.Name x pos) (f7 i):=by
 intro pins s σ H v u Q I r h
 exact wpAny_assign_Name (ie I hN hi hx r (λs' I'=>⟨_,H,I',h⟩) hf)
def qG:TGs:=λvs σ H Q=>vs=[]/\Q σ H
def l4 (t:TG)(u:TGs):TGs:=λvs σ H Q=>∃v r,vs=v :: r/\t v σ H λσ' H'=>u r σ' H' Q
theorem jM:PGs X [] qG:=by
 intro pins s σ H vs us Q I r h
 obtain ⟨e,h⟩:=h
 subst e
 cases r
 exact assignInOrder_nil ⟨σ,H,I,h⟩
theorem dv {e:Expr}{es:List Expr}{t:TG}{u:TGs}(h1:PG X e t)(h2:PGs X es u)
  (hs:(assignEach (e :: es) X.env).map (·.2)=assign e X.env :: (assignEach es X.env).map (·.2):=by rfl):PGs X (e :: es) (l4 t u):=by
 intro pins s σ H vs us Q I r h
 obtain ⟨v,vr,e1,h⟩:=h
 subst e1
 cases r with
 | cons r rr =>
  rw[hs]
  refine assignInOrder_cons (thn (h1 pins s σ H _ _ _ I r h) λ_ s1 ⟨σ1,H1,I1,q1⟩ =>?_)
  exact h2 pins s1 σ1 H1 _ _ Q I1 rr q1
def qH (K:rk)(n:Nat)(t:TGs):TG:=λv σ H Q=>∃a xs,v = .ref a/\SqT K H a xs/\xs.length=n/\t xs σ H Q
theorem l5 {es:List Expr}{k:Nat}{t:TGs}{n:Nat}(hc:X.calm=true)(h:PGs X es t)
  (hn:(assignEach es X.env).length=n:=by rfl) (hst:(assignEach es X.env).findIdx? (·.1)=none:=by rfl):PG X (.Tuple es k pos) (qH X.K n t):=by
 intro pins s σ H v u Q I r hw
 obtain ⟨a,xs,e1,hq,hl,hw⟩:=hw
 subst e1
 cases r
 obtain ⟨its,rv,ht,hz⟩:=I.tuple hq
 refine assign_Tuple_tuple (I.ok.hd hc) ht (by simp[hn, <- hl,rv.length]) hst λh' hx =>?_
 have I1:Inv X pins σ H { s with heap:=h' }:=I.kept (t':=s.toks) λb o e=>hx b o (rQ (rB e)) e
 exact h pins _ σ H xs _ Q I1 (by simpa using rv) hw
def gSub (to ti:TE)(t:pO):TG:=λv σ H Q=>to σ H λo H1=>ti σ H1 λi H2=>t o i v H2 λH3=>Q σ H3
theorem pP {o i:Expr}{to ti:TE}{t:pO}(ho:PE X o to)(hi:PE X i ti)(hs:qF X t)
    (ha:∀v,assign (.Subscript o i pos) X.env v=(do
      let ov ← yF [v] (eval o X.env)
      let iv ← yF [v,ov] (eval i X.env)
      standAt pos
      yF [v,ov,iv] (setItem ov iv v)
      release [v,ov,iv] []):=by intro _;rfl):PG X (.Subscript o i pos) (gSub to ti t):=by
  intro pins s σ H v u Q I r h
  rw[ha]
  refine rd (ue (thn (ho pins s σ H _ I h) λov s1 ⟨x,H1,I1,r1,q1⟩ =>?_))
  refine rd (ue (thn (hi pins s1 σ H1 _ I1 q1) λiv s2 ⟨y,H2,I2,r2,q2⟩ =>?_))
  refine rd (wpAny_standAt (rd (ue (thn (hs pins s2 σ H2 x y v ov iv u _ I2 r1 r2 r q2) λ_ s3 ⟨H3,I3,q3⟩ =>?_))))
  exact wpAny_release ⟨σ,H3,I3,q3⟩
def qI (te:TE)(g:TG):TS:=λD σ H=>te σ H λx H1=>g x σ H1 D.nx
theorem pQ {tg e:Expr}{te:TE}{g:TG}(he:PE X e te)(hg:PG X tg g)(hs:swapsWithSole [tg] e pos.line X.env=pure false:=by rfl)(hw:swappedStores [tg] e X.env=pure none:=by rfl)
  (h1:(assignEach [tg] X.env).map (·.2)=[assign tg X.env]:=by rfl):PS X (.Assign [tg] e pos) (qI te g):=by
 intro pins s σ H D I h
 refine wpAny_Assign_stores (thn (he pins s σ H _ I h) λv s1 ⟨x,H1,I1,r1,q1⟩ =>?_) hs hw
 rw[h1]
 exact thn (hg pins s1 σ H1 x v _ I1 r1 q1) λ_ s2 q=>q
theorem aG {i:Nat}{x:Str}{e:Expr}{te:TE}{pos':Pos}(hN:X.N.Nodup)(hi:X.N[i]? = some x)(hx:Loc X.env.scope x)(he:PE X e te)(hs:swapsWith e (some (.Name x pos')) pos.line X.env=pure false:=by rfl)(hf:X.fn x=true\/X.env.scope.names.lookup x=some .local:=by first | exact .inl rfl | exact .inr rfl | assumption) :
  PS X (.Assign [.Name x pos'] e pos) (qI te (f7 i)):=by
 intro pins s σ H D I h
 refine wpAny_Assign_Name (thn (he pins s σ H _ I h) λv s1 ⟨y,H1,I1,r1,q1⟩ =>?_) hs
 exact ie I1 hN hi hx r1 (λs2 I2=>⟨_,H1,I2,q1⟩) hf
end
section
variable  {X:Cx}{pos:Pos}
end
structure It where
 go:Nat->Hp->Prop
 yld:Nat->Hp->V->Hp->Prop
 stop:Nat->Hp->Prop
def eD (X:Cx)(pins:List (Addr×Obj))(H:Hp)(b:Addr):Prop :=
 H b=none/\b≠X.env.locals/\b∉X.fs/\(b∈X.ex\/X.s₀.heap.objs.size<=b)/\(∀x c,X.env.cells.lookup x=some c->c≠b)/\∀p∈X.pn++pins,p.1≠b
theorem Inv.l6 {X:Cx}{pins:List (Addr×Obj)}{σ:St}{H H':Hp}{s:rj}{b:Addr}(I:Inv X pins σ H s)(hb:s.heap.objs.size<=b)(hn:H' b=none):eD X pins H' b:=by
 refine ⟨hn,uU (rF I.lt hb),I.pJ hb,.inr (su I.sz hb),λx c e z =>?_,λp hp z =>?_⟩
 ·obtain ⟨v,q⟩:=I.cell x c e
  exact absurd (rF q.lt (by rw[z];exact hb)) (tN _)
 ·exact absurd (rF (rB (I.pin p hp).1) (by rw[z];exact hb)) (tN _)
structure Turn (P:rO)(w:sC)(K:rk)(tg:Expr)(J:It)(fp:List Addr)(it:Addr)(tn:Nat->Heap->Prop):Prop where
 mem:it∈fp
 obj:∀i h,tn i h->∀b∈fp,∃o,h.get? b=some o/\∀v,o.data ≠ .cell v
 keep:∀i h h',tn i h->(∀b∈fp,∀o,h.get? b=some o->h'.get? b=some o)->tn i h'
 item:∀(X:Cx),X.prog=P->X.w=w->X.K=K->X.calm=true->∀(i:Nat) (pins:List (Addr×Obj)) (s:rj) (σ:St) (H:Hp) (E:rg->rj->Prop),Inv X pins σ H s->(∀b∈fp,eD X pins H b)->tn i s.heap->J.go i H →
  rX (sh P w) X.A (pyNext (.ref it)) (λr s1=>∃u,r=some u ∧
   rX (sh P w) X.A (letOwnedTupleGo tg (.ref it) u) (λ_ s2=>∃x H',Inv X pins σ H' s2/\RelV x u/\J.yld i H x H'/\tn (i+1) s2.heap/\∀b∈fp,H' b=none) E s1) E s
 done:∀(X:Cx),X.prog=P->X.w=w->X.K=K->X.calm=true->∀(i:Nat) (pins:List (Addr×Obj)) (s:rj) (σ:St) (H:Hp) (E:rg->rj->Prop),Inv X pins σ H s->(∀b∈fp,eD X pins H b)->tn i s.heap->J.stop i H →
  rX (sh P w) X.A (pyNext (.ref it)) (λr s1=>r=none/\Inv X pins σ H s1) E s
 self:∀(A:sR) (i:Nat) (s:rj) (Q:rg->rj->Prop) (E:rg->rj->Prop),tn i s.heap->Q (.ref it) s->rX (sh P w) A (pyIter (.ref it)) Q E s
abbrev TI:=St->Hp->(It->Hp->Prop)->Prop
def PIE (X:Cx)(pins:List (Addr×Obj))(σ:St)(tg:Expr)(R:It->Hp->Prop)(itv:rg)(s2:rj):Prop :=
 ∃(it:Addr) (fp:List Addr) (tn:Nat->Heap->Prop) (J:It) (H':Hp),itv = .ref it/\Inv X pins σ H' s2/\Turn X.prog X.w X.K tg J fp it tn/\tn 0 s2.heap/\(∀b∈fp,eD X pins H' b)/\R J H'
def PI (X:Cx)(tg iter:Expr)(wi:TI):Prop :=
 ∀(pins:List (Addr×Obj)) (s:rj) (σ:St) (H:Hp) (R:It->Hp->Prop),Inv X pins σ H s->wi σ H R →
  rX (sh X.prog X.w) X.A (eval iter X.env) (λv s1=>rX (sh X.prog X.w) X.A (pyIter v) (PIE X pins σ tg R) X.xe s1) X.xe s
theorem jN {M:Model}{A:sR}{E:rg->rj->Prop}{s:rj}{tg:Expr}{it:Addr}{u:rg}{o:Obj}{n:String}{vs:Array rg}{Q:Unit->rj->Prop}(ho:s.heap.get? it=some o)(hc:o.cls = .type n)(hd:o.data = .fields vs)
    (hn:["enumerate", "zip", "dict_itemiterator", "dict_reverseitemiterator", "odict_iterator", "itertools.zip_longest", "itertools.pairwise"].contains n=false) (hQ:Q () s):rX M A (letOwnedTupleGo tg (.ref it) u) Q E s:=by
  unfold letOwnedTupleGo
  cases tg <;> first
    | exact rp hQ
    | (cases u <;> first
        | exact rp hQ
        | (refine rd (zp ho ?_)
           rw[hc,hd]
           show rX M A (if (["enumerate", "zip", "dict_itemiterator", "dict_reverseitemiterator", "odict_iterator", "itertools.zip_longest", "itertools.pairwise"].contains n && vs[0]? == some (wJ _))=true then _ else _) Q E s
           rw[if_neg (by intro h;rw[hn,wK] at h;cases h)]
           exact rp hQ))
def Itl (K:rk)(a:Addr):It :=
 ⟨λi H=>∃xs x,SqL K H a xs/\xs[i]? = some x,λi H x H'=>H'=H/\∀xs,SqL K H a xs->xs[i]? = some x,λi H=>∃xs,SqL K H a xs/\xs.length<=i⟩
def Itt (K:rk)(a:Addr):It :=
 ⟨λi H=>∃xs x,SqT K H a xs/\xs[i]? = some x,λi H x H'=>H'=H/\∀xs,SqT K H a xs->xs[i]? = some x,λi H=>∃xs,SqT K H a xs/\xs.length<=i⟩
def Itr (lo:Int)(n:Nat):It:=⟨λi _=>i<n,λi H x H'=>H'=H/\x = .int (lo+i),λi _=>n<=i⟩
theorem kJ {P:rO}{w:sC}{K:rk}{tg:Expr}(a it:Addr):Turn P w K tg (Itl K a) [it] it (λi h=>h.IsListIter it a i) where
 mem:=by simp
 obj:=λi h st b hb=>by
  have e:b=it:=by simpa using hb
  subst e
  obtain ⟨o,e,c,d⟩:=st
  exact ⟨o,e,λv z=>by rw[d] at z;cases z⟩
 keep:=λi h h' st k=>st.at λo e=>k it (by simp) o e
 item:=by
  intro X hP hw hK hc i pins s σ H E I hf st hg
  subst hP hw hK
  obtain ⟨xs,x,hq,hx⟩:=hg
  obtain ⟨its,rv,p,hz⟩:=I.list hq
  obtain ⟨u,hu,ru⟩:=rv.get hx
  obtain ⟨f0,f1,f2,f3,f4,f5⟩:=hf it (by simp)
  refine wpAny_pyNext_list_item st p.isList (x:=u) (by simpa using hu) λh' st' sb =>?_
  have I1:Inv X pins σ H { s with heap:=h' }:=I.turned (t':=s.toks) (λb o hb e=>(sb.2 b hb).trans e) f0 f1 f3 f4 f5
  obtain ⟨o,e,c,d⟩:=id st'
  exact ⟨u,rfl,jN (s:={ s with heap:=h' }) e c d (by decide) ⟨x,H,I1,ru,⟨rfl,λys hy=>by rw[I.ig hy hq];exact hx⟩,st',λb hb=>(hf b hb).1⟩⟩
 done:=by
  intro X hP hw hK hc i pins s σ H E I hf st hg
  subst hP hw hK
  obtain ⟨xs,hq,hx⟩:=hg
  obtain ⟨its,rv,p,hz⟩:=I.list hq
  obtain ⟨f0,f1,f2,f3,f4,f5⟩:=hf it (by simp)
  have hl:=rv.length
  exact wpAny_pyNext_list_end (I.ok.hd hc) st p.isList (by simp;omega) λh' eb=>⟨rfl,I.turned (t':=s.toks) (λb o hb e=>eb b o hb e) f0 f1 f3 f4 f5⟩
 self:=λ_ _ _ _ _ st h=>wpAny_pyIter_listiter st h
theorem iY {P:rO}{w:sC}{K:rk}{tg:Expr}(a it:Addr):Turn P w K tg (Itt K a) [it] it (λi h=>h.IsTupleIter it a i) where
 mem:=by simp
 obj:=λi h st b hb=>by
  have e:b=it:=by simpa using hb
  subst e
  obtain ⟨o,e,c,d⟩:=st
  exact ⟨o,e,λv z=>by rw[d] at z;cases z⟩
 keep:=λi h h' st k=>st.at λo e=>k it (by simp) o e
 item:=by
  intro X hP hw hK hc i pins s σ H E I hf st hg
  subst hP hw hK
  obtain ⟨xs,x,hq,hx⟩:=hg
  obtain ⟨its,rv,p,hz⟩:=I.tuple hq
  obtain ⟨u,hu,ru⟩:=rv.get hx
  obtain ⟨f0,f1,f2,f3,f4,f5⟩:=hf it (by simp)
  refine wpAny_pyNext_tuple_item st (show s.heap.IsTuple a its.toArray from p) (x:=u) (by simpa using hu) λh' st' sb =>?_
  have I1:Inv X pins σ H { s with heap:=h' }:=I.turned (t':=s.toks) (λb o hb e=>(sb.2 b hb).trans e) f0 f1 f3 f4 f5
  obtain ⟨o,e,c,d⟩:=id st'
  exact ⟨u,rfl,jN (s:={ s with heap:=h' }) e c d (by decide) ⟨x,H,I1,ru,⟨rfl,λys hy=>by rw[I.f6 hy hq];exact hx⟩,st',λb hb=>(hf b hb).1⟩⟩
 done:=by
  intro X hP hw hK hc i pins s σ H E I hf st hg
  subst hP hw hK
  obtain ⟨xs,hq,hx⟩:=hg
  obtain ⟨its,rv,p,hz⟩:=I.tuple hq
  obtain ⟨f0,f1,f2,f3,f4,f5⟩:=hf it (by simp)
  have hl:=rv.length
  exact wpAny_pyNext_tuple_end (I.ok.hd hc) st (show s.heap.IsTuple a its.toArray from p) (by simp;omega) λh' eb=>⟨rfl,I.turned (t':=s.toks) (λb o hb e=>eb b o hb e) f0 f1 f3 f4 f5⟩
 self:=λ_ _ _ _ _ st h=>wpAny_pyIter_tupleiter st h
theorem iZ {P:rO}{w:sC}{K:rk}{tg:Expr}(it:Addr)(lo:Int)(n:Nat):Turn P w K tg (Itr lo n) [it] it (λi h=>IsRangeIter h it (lo+(i:Nat)*1) ((n:Int)-(i:Nat)) 1) where
 mem:=by simp
 obj:=λi h st b hb=>by
  have e:b=it:=by simpa using hb
  subst e
  exact ⟨_,st,λv z=>by
   have z':Data.fields _=Data.cell v:=z
   cases z'⟩
 keep:=λi h h' st k=>k it (by simp) _ st
 item:=by
  intro X hP hw hK hc i pins s σ H E I hf st hg
  subst hP hw hK
  obtain ⟨f0,f1,f2,f3,f4,f5⟩:=hf it (by simp)
  have W:=Walks.range (prog:=X.prog) (w:=X.w) (I.ok.hd hc) it lo 1 n
  refine W.item i s _ _ hg st λv h' tk hv st' kk =>?_
  obtain ⟨t,rfl⟩:=hv
  have I1:Inv X pins σ H { s with heap:=h',toks:=tk }:=I.turned (λb o hb e=>kk b o (by simpa using hb) e) f0 f1 f3 f4 f5
  refine ⟨_,rfl,jN (s:={ s with heap:=h',toks:=tk }) (n := "range_iterator") st' rfl rfl (by decide) ⟨.int (lo+i),H,I1,⟨t,?_⟩,⟨rfl,rfl⟩,st',λb hb=>(hf b hb).1⟩⟩
  rw[Int.mul_one]
 done:=by
  intro X hP hw hK hc i pins s σ H E I hf st hg
  subst hP hw hK
  obtain ⟨f0,f1,f2,f3,f4,f5⟩:=hf it (by simp)
  exact wpAny_pyNext_range_end (I.ok.hd hc) st (by have:n<=i:=hg;omega) λh' eb=>⟨rfl,I.turned (t':=s.toks) (λb o hb e=>eb b o hb e) f0 f1 f3 f4 f5⟩
 self:=λ_ _ _ _ _ st h=>wpAny_pyIter_rangeiter st h
open PySem PySem.Spec PyProof.Rows
section
variable  {X:Cx}{tg:Expr}
def qJ (K:rk)(tl:TE):TI:=λσ H R=>tl σ H λx H1=>∃a,x = .ref a/\(∃xs,SqL K H1 a xs)/\R (Itl K a) H1
def iTup (K:rk)(tl:TE):TI:=λσ H R=>tl σ H λx H1=>∃a,x = .ref a/\(∃xs,SqT K H1 a xs)/\R (Itt K a) H1
theorem gH {l:Expr}{tl:TE}(hl:PE X l tl):PI X tg l (qJ X.K tl):=by
 intro pins s σ H R I h
 refine thn (hl pins s σ H _ I h) λv s1 ⟨x,H1,I1,r1,q1⟩ =>?_
 obtain ⟨a,e,⟨xs,hq⟩,q⟩:=q1
 subst e
 cases r1
 obtain ⟨its,rv,p,hz⟩:=I1.list hq
 refine vX p.isList ?_
 refine ⟨s1.heap.objs.size,[s1.heap.objs.size],_,_,H1,rfl,I1.kept (t':=s1.toks) λb o e=>rf _ e,kJ a _,⟨_,rz _ rfl,rfl,rfl⟩,λb hb =>?_,q⟩
 have e:b=s1.heap.objs.size:=by simpa using hb
 subst e
 exact I1.l6 (rA _) (I1.hok.fresh (rA _))
theorem l7 {l:Expr}{tl:TE}(hl:PE X l tl):PI X tg l (iTup X.K tl):=by
 intro pins s σ H R I h
 refine thn (hl pins s σ H _ I h) λv s1 ⟨x,H1,I1,r1,q1⟩ =>?_
 obtain ⟨a,e,⟨xs,hq⟩,q⟩:=q1
 subst e
 cases r1
 obtain ⟨its,rv,p,hz⟩:=I1.tuple hq
 refine vM (show s1.heap.IsTuple a its.toArray from p) ?_
 refine ⟨s1.heap.objs.size,[s1.heap.objs.size],_,_,H1,rfl,I1.kept (t':=s1.toks) λb o e=>rf _ e,iY a _,⟨_,rz _ rfl,rfl,rfl⟩,λb hb =>?_,q⟩
 have e:b=s1.heap.objs.size:=by simpa using hb
 subst e
 exact I1.l6 (rA _) (I1.hok.fresh (rA _))
theorem l8 {pins:List (Addr×Obj)}{σ:St}{H:Hp}{s:rj}{R:It->Hp->Prop}{E:rg->rj->Prop}{lo hi:Int}{t u v:Tok}{tk:Nat}(I:Inv X pins σ H s)(h1 : -(2 ^ 62)<=lo)(h2:lo<2 ^ 62)(h3 : -(2 ^ 62)<=hi)(h4:hi<2 ^ 62)
  (q:R (Itr lo (hi-lo).toNat) H):rX (sh X.prog X.w) X.A (pyIter (.ref s.heap.objs.size)) (PIE X pins σ tg R) E { s with heap:=s.heap.push { cls :=.type "range",data :=.fields #[.int lo t,.int hi u,.int 1 v] },toks:=tk }:=by
 refine wpAny_pyIter_range (IsRange.new ..) (small_one h1 h2 h3 h4) ?_
 have I1:Inv X pins σ H { s with heap:=s.heap.push { cls :=.type "range",data :=.fields #[.int lo t,.int hi u,.int 1 v] },toks:=tk }:=I.kept λb o e=>rf _ e
 refine ⟨(s.heap.push { cls :=.type "range",data :=.fields #[.int lo t,.int hi u,.int 1 v] }).objs.size,[(s.heap.push { cls :=.type "range",data :=.fields #[.int lo t,.int hi u,.int 1 v] }).objs.size],_,_,H,rfl,
  I1.kept (t':=tk) λb o e=>rf _ e,iZ _ lo (hi-lo).toNat,?_,λb hb =>?_,q⟩
 ·have e1:lo+((0:Nat):Int)*1=lo:=by simp
  have e2:(((hi-lo).toNat:Nat):Int)-((0:Nat):Int)=Builtin.Range.rangeSize lo hi 1:=by rw[rangeSize_one];split <;> omega
  show IsRangeIter _ _ (lo+((0:Nat):Int)*1) ((((hi-lo).toNat:Nat):Int)-((0:Nat):Int)) 1
  rw[e1,e2]
  exact rz _ rfl
 ·have e:b=(s.heap.push { cls :=.type "range",data :=.fields #[.int lo t,.int hi u,.int 1 v] }).objs.size:=by simpa using hb
  subst e
  exact I1.l6 (rA _) (I1.hok.fresh (rA _))
def qK (ta:TA):TI:=λσ H R=>ta σ H λvs H1=>∃j:Int,vs=[.int j] /\ -(2 ^ 62)<=j/\j<2 ^ 62/\R (Itr 0 j.toNat) H1
theorem dQ {a:Expr}{ta:TA}{p pos:Pos}(hg:Gl X "range")(hm:X.mg "range" = none)(ha:PA X [a] ta)(hs:sU [a] X.env=[(false,eval a X.env)]:=by rfl):PI X tg (.Call (.Name "range" p) [a] [] pos) (qK ta):=by
 intro pins s σ H R I h
 refine Call_ (eN I hg hm boot_range (va (thn (ha pos pins s σ H _ I h) λus s1 ⟨vs,H1,I1,r1,q1⟩ =>?_) hs rfl))
 obtain ⟨j,e,q1,q2,q⟩:=q1
 subst e
 cases r1 with
 | cons r rr =>
  cases rr
  obtain ⟨t,rfl⟩:=r
  exact call_range_1 (l8 I1 (by omega) (by omega) q1 q2 (by simpa using q))
def tFor (wi:TI)(g:TG)(tb:TS):TS:=λD σ H=>wi σ H λJ H1=>∃W:Nat->Nat->St->Hp->Prop,(∃m,W 0 m σ H1)/\∀i m σ H,W i m σ H →
 (J.stop i H/\D.nx σ H)\/(J.go i H/\∃N:St->Hp->Prop,(∀σ' H',N σ' H'->∃m',m'<m/\W (i+1) m' σ' H')/\∀x H',J.yld i H x H'->g x σ H' λσ2 H2=>tb { D with nx:=N,ct:=N,bk:=D.nx } σ2 H2)
def df (fp:List Addr)(h:Heap):List (Addr×Obj):=fp.filterMap λb=>(h.get? b).map λo=>(b,o)
theorem bS {fp:List Addr}{h:Heap}{b:Addr}{o:Obj}(hb:b∈fp)(e:h.get? b=some o):(b,o)∈df fp h:=wG.mpr ⟨b,hb,by rw[e];rfl⟩
theorem f9 {fp:List Addr}{h:Heap}{p:Addr×Obj}(hp:p∈df fp h):p.1∈fp/\h.get? p.1=some p.2:=by
 obtain ⟨b,hb,e⟩:=wG.mp hp
 cases q:h.get? b with
 | none=>rw[q] at e;cases e
 | some o =>
  rw[q] at e
  have e':(b,o)=p:=r9 e
  subst e'
  exact ⟨hb,q⟩
theorem Inv.pinned {pins:List (Addr×Obj)}{σ:St}{H:Hp}{s:rj}{fp:List Addr}(I:Inv X pins σ H s)(hf:∀b∈fp,eD X pins H b)(ho:∀b∈fp,∃o,s.heap.get? b=some o/\∀v,o.data ≠ .cell v):Inv X (pins++df fp s.heap) σ H s :=
 I.dt λp hp=>(rV.mp hp).elim (λz=>I.pin p (rS _ z)) λz=>by
  obtain ⟨hb,e⟩:=f9 z
  obtain ⟨f0,f1,f2,_⟩:=hf p.1 hb
  obtain ⟨o,e',d⟩:=ho p.1 hb
  rw[e] at e';cases e'
  exact ⟨e,f0,f1,f2,d⟩
theorem Inv.cG {pins pl:List (Addr×Obj)}{σ:St}{H:Hp}{s:rj}(I:Inv X (pins++pl) σ H s):Inv X pins σ H s:=I.dt λp hp=>I.pin p (rS _ (vm _ hp))
theorem dg {iter:Expr}{body:List Stmt}{wi:TI}{g:TG}{tb:TS}{pos:Pos}(hp:PassesOwn (sh X.prog X.w) X.A X.env X.xe)(hc:X.calm=true)(hi:PI X tg iter wi)(hg:PG X tg g)(hb:PSs X body tb)
  (hs:∀x,foldedSetIterable iter X.env x=pure x:=by intro _;rfl):PS X (.For tg iter body [] pos) (tFor wi g tb):=by
 intro pins s σ H D I h
 refine wpAny_For (thn (hi pins s σ H _ I h) λv s1 h1=>thn h1 λitv s2 h2 =>?_) hs
 obtain ⟨it,fp,tn,J,H2,e,I2,T,st2,f2,W,⟨m0,w0⟩,turn⟩:=h2
 subst e
 have stat:∀{H':Hp},(∀b∈fp,H' b=none)->∀b∈fp,eD X pins H' b:=λhn b hb=>⟨hn b hb,(f2 b hb).2⟩
 refine codeAny_forLoop_any (λn s'=>∃i σ' H',Inv X pins σ' H' s'/\tn i s'.heap/\(∀b∈fp,H' b=none)/\W i n σ' H') ?_ m0 ⟨0,σ,H2,I2,st2,λb hb=>(f2 b hb).1,w0⟩
 rintro n s3 ⟨i,σ3,H3,I3,st3,fr3,w3⟩
 rcases turn i n σ3 H3 w3 with ⟨stop,qn⟩ | ⟨go,N,hN,step⟩
 ·refine vN hp (thn (T.done X rfl rfl rfl hc i pins s3 σ3 H3 X.xe I3 (stat fr3) st3 stop) λr s4 ⟨hr,I4⟩ =>?_)
  subst hr
  exact xS ⟨σ3,H3,I4,qn⟩
 ·refine vN hp (thn (T.item X rfl rfl rfl hc i pins s3 σ3 H3 X.xe I3 (stat fr3) st3 go) λr s4 ⟨u,hr,h4⟩ =>?_)
  subst hr
  refine vN hp (thn h4 λ_ s5 ⟨x,H5,I5,r5,y5,st5,fr5⟩ =>?_)
  have I5':=I5.pinned (stat fr5) (T.obj _ _ st5)
  refine vN hp (thn (hg _ s5 σ3 H5 x u _ I5' r5 (step x H5 y5)) λ_ s6 ⟨σ6,H6,I6,q6⟩ =>?_)
  refine vN hp (thn (hb _ s6 σ6 H6 _ I6 q6) λf s7 q7 =>?_)
  have again:∀{σ7:St} {H7:Hp},Inv X (pins++df fp s5.heap) σ7 H7 s7->N σ7 H7->∃m,m<n/\∃i σ' H',Inv X pins σ' H' s7/\tn i s7.heap/\(∀b∈fp,H' b=none)/\W i m σ' H':=λ{σ7 H7} I7 n7=>by
   obtain ⟨m',hm,w7⟩:=hN σ7 H7 n7
   refine ⟨m',hm,i+1,σ7,H7,I7.cG,T.keep _ _ _ st5 λb hb o e=>(I7.pin (b,o) (rS _ (rS _ (bS hb e)))).1,λb hb =>?_,w7⟩
   obtain ⟨o,e,d⟩:=T.obj _ _ st5 b hb
   exact (I7.pin (b,o) (rS _ (rS _ (bS hb e)))).2.1
  cases f with
  | next=>obtain ⟨σ7,H7,I7,n7⟩:=q7;exact again I7 n7
  | cont=>obtain ⟨σ7,H7,I7,n7⟩:=q7;exact again I7 n7
  | brk=>obtain ⟨σ7,H7,I7,q7⟩:=q7;exact ⟨σ7,H7,I7.cG,q7⟩
  | ret v=>obtain ⟨x7,σ7,H7,I7,r7,q7⟩:=q7;exact ⟨x7,σ7,H7,I7.cG,r7,q7⟩
end
theorem ij {K:rk}{a:Addr}{xs:List V}{g:TG}{tb:TS}{D:Ends}{σ:St}{H:Hp}(Pv:Nat->St->Hp->Prop)(h0:Pv 0 σ H)(hl:∀i σ H,i<=xs.length->Pv i σ H->SqL K H a xs)
  (hs:∀i x σ H,xs[i]? = some x->Pv i σ H->g x σ H λσ2 H2=>tb { D with nx:=Pv (i+1),ct:=Pv (i+1),bk:=D.nx } σ2 H2) (hd:∀σ H,Pv xs.length σ H->D.nx σ H) :
  ∃W:Nat->Nat->St->Hp->Prop,(∃m,W 0 m σ H)/\∀i m σ H,W i m σ H →
   ((Itl K a).stop i H/\D.nx σ H)\/((Itl K a).go i H/\∃N:St->Hp->Prop,(∀σ' H',N σ' H'->∃m',m'<m/\W (i+1) m' σ' H')/\∀x H',(Itl K a).yld i H x H'->g x σ H' λσ2 H2=>tb { D with nx:=N,ct:=N,bk:=D.nx } σ2 H2):=by
 refine ⟨λi m σ H=>m=xs.length-i/\i<=xs.length/\Pv i σ H,⟨xs.length,by simp,sM _,h0⟩,?_⟩
 rintro i m σ H ⟨rfl,hi,p⟩
 have q:=hl i σ H hi p
 by_cases hlt:i<xs.length
 ·refine .inr ⟨⟨xs,xs[i],q,by simp[hlt]⟩,Pv (i+1),λσ' H' p'=>⟨xs.length-(i+1),by omega,rfl,hlt,p'⟩,λx H' y =>?_⟩
  obtain ⟨e,y⟩:=y
  subst e
  exact hs i x σ _ (y xs q) p
 ·have e:i=xs.length:=by omega
  subst e
  exact .inl ⟨⟨xs,q,rA _⟩,hd σ H p⟩
theorem jP {K:rk}{a:Addr}{xs:List V}{g:TG}{tb:TS}{D:Ends}{σ:St}{H:Hp}(Pv:Nat->St->Hp->Prop)(h0:Pv 0 σ H)(hl:∀i σ H,i<=xs.length->Pv i σ H->SqT K H a xs)
  (hs:∀i x σ H,xs[i]? = some x->Pv i σ H->g x σ H λσ2 H2=>tb { D with nx:=Pv (i+1),ct:=Pv (i+1),bk:=D.nx } σ2 H2) (hd:∀σ H,Pv xs.length σ H->D.nx σ H) :
  ∃W:Nat->Nat->St->Hp->Prop,(∃m,W 0 m σ H)/\∀i m σ H,W i m σ H →
   ((Itt K a).stop i H/\D.nx σ H)\/((Itt K a).go i H/\∃N:St->Hp->Prop,(∀σ' H',N σ' H'->∃m',m'<m/\W (i+1) m' σ' H')/\∀x H',(Itt K a).yld i H x H'->g x σ H' λσ2 H2=>tb { D with nx:=N,ct:=N,bk:=D.nx } σ2 H2):=by
 refine ⟨λi m σ H=>m=xs.length-i/\i<=xs.length/\Pv i σ H,⟨xs.length,by simp,sM _,h0⟩,?_⟩
 rintro i m σ H ⟨rfl,hi,p⟩
 have q:=hl i σ H hi p
 by_cases hlt:i<xs.length
 ·refine .inr ⟨⟨xs,xs[i],q,by simp[hlt]⟩,Pv (i+1),λσ' H' p'=>⟨xs.length-(i+1),by omega,rfl,hlt,p'⟩,λx H' y =>?_⟩
  obtain ⟨e,y⟩:=y
  subst e
  exact hs i x σ _ (y xs q) p
 ·have e:i=xs.length:=by omega
  subst e
  exact .inl ⟨⟨xs,q,rA _⟩,hd σ H p⟩
theorem dR {lo:Int}{n:Nat}{g:TG}{tb:TS}{D:Ends}{σ:St}{H:Hp}(Pv:Nat->St->Hp->Prop)(h0:Pv 0 σ H)
  (hs:∀i σ H,i<n->Pv i σ H->g (.int (lo+i)) σ H λσ2 H2=>tb { D with nx:=Pv (i+1),ct:=Pv (i+1),bk:=D.nx } σ2 H2) (hd:∀σ H,Pv n σ H->D.nx σ H) :
  ∃W:Nat->Nat->St->Hp->Prop,(∃m,W 0 m σ H)/\∀i m σ H,W i m σ H →
   ((Itr lo n).stop i H/\D.nx σ H)\/((Itr lo n).go i H/\∃N:St->Hp->Prop,(∀σ' H',N σ' H'->∃m',m'<m/\W (i+1) m' σ' H')/\∀x H',(Itr lo n).yld i H x H'->g x σ H' λσ2 H2=>tb { D with nx:=N,ct:=N,bk:=D.nx } σ2 H2):=by
 refine ⟨λi m σ H=>m=n-i/\i<=n/\Pv i σ H,⟨n,by simp,sM _,h0⟩,?_⟩
 rintro i m σ H ⟨rfl,hi,p⟩
 by_cases hlt:i<n
 ·refine .inr ⟨hlt,Pv (i+1),λσ' H' p'=>⟨n-(i+1),by omega,rfl,hlt,p'⟩,λx H' y =>?_⟩
  obtain ⟨e,y⟩:=y
  subst e y
  exact hs i σ _ hlt p
 ·have e:i=n:=by omega
  subst e
  exact .inl ⟨rA _,hd σ H p⟩
open PySem PySem.Spec PyProof.Rows
abbrev R2:=V->V->Hp->VK->Prop
def OpR (X:Cx)(f:rg->rg->Sem rg)(r:R2):Prop :=
 ∀(pins:List (Addr×Obj)) (s:rj) (σ:St) (H:Hp) (x y:V) (v u:rg) (Q:VK),Inv X pins σ H s->RelV x v->RelV y u->r x y H Q →
  rX (sh X.prog X.w) X.A (f v u) (EP X pins σ Q) X.xe s
def UnR (X:Cx)(f:rg->Sem rg)(r:V->Hp->VK->Prop):Prop :=
 ∀(pins:List (Addr×Obj)) (s:rj) (σ:St) (H:Hp) (x:V) (v:rg) (Q:VK),Inv X pins σ H s->RelV x v->r x H Q →
  rX (sh X.prog X.w) X.A (f v) (EP X pins σ Q) X.xe s
def bG (X:Cx)(f:rg)(r:List V->Hp->VK->Prop):Prop :=
 ∀(pins:List (Addr×Obj)) (s:rj) (σ:St) (H:Hp) (xs:List V) (us:List rg) (Q:VK),Inv X pins σ H s->Vals xs us->r xs H Q →
  rX (sh X.prog X.w) X.A (call f us) (EP X pins σ Q) X.xe s
def tOp (r:R2)(ta tb:TE):TE:=λσ H Q=>ta σ H λx H1=>tb σ H1 λy H2=>r x y H2 Q
def tUn (r:V->Hp->VK->Prop)(ta:TE):TE:=λσ H Q=>ta σ H λx H1=>r x H1 Q
def rI (C:Int->Int->Prop)(g:Int->Int->V):R2:=λx y H Q=>∃i j,x = .int i/\y = .int j/\C i j/\Q (g i j) H
def rI0 (g:Int->Int->V):R2:=λx y H Q=>∃i j,x = .int i/\y = .int j/\Q (g i j) H
def rU (g:Int->V):V->Hp->VK->Prop:=λx H Q=>∃i,x = .int i/\Q (g i) H
section
variable  {X:Cx}{a b c:Expr}{ta tb tc:TE}{pos:Pos}
theorem pR (ha:PE X a ta)(hb:PE X b tb){pins:List (Addr×Obj)}{s:rj}{σ:St}{H:Hp}{R:V->V->Hp->Prop}(I:Inv X pins σ H s)
  (h:ta σ H λx H1=>tb σ H1 λy H2=>R x y H2) {Q:rg->rj->Prop} {f:rg->rg->Sem rg}
  (hf:∀v u s2 x y H2,Inv X pins σ H2 s2->RelV x v->RelV y u->R x y H2->rX (sh X.prog X.w) X.A (f v u) Q X.xe s2) :
  rX (sh X.prog X.w) X.A (eval a X.env) (λv s₁=>rX (sh X.prog X.w) X.A (eval b X.env) (λu s₂=>rX (sh X.prog X.w) X.A (f v u) Q X.xe s₂) X.xe s₁) X.xe s:=by
 refine thn (ha pins s σ H _ I h) λv s1 ⟨x,H1,I1,r1,q1⟩ =>?_
 refine thn (hb pins s1 σ H1 _ I1 q1) λu s2 ⟨y,H2,I2,r2,q2⟩ =>?_
 exact hf v u s2 x y H2 I2 r1 r2 q2
theorem aY {op:Operator}{r:R2}(ho:OpR X (binaryOp op) r)(ha:PE X a ta)(hb:PE X b tb):PE X (.BinOp a op b pos) (tOp r ta tb):=by
 intro pins s σ H Q I h
 exact wpAny_BinOp (pR ha hb I h λv u s2 x y H2 I2 rx ry q=>ho pins s2 σ H2 x y v u Q I2 rx ry q)
theorem oP {op:UnaryOp}{r:V->Hp->VK->Prop}(ho:UnR X (unaryOp op) r)(ha:PE X a ta):PE X (.UnaryOp op a pos) (tUn r ta):=by
 intro pins s σ H Q I h
 exact UnaryOp_ (thn (ha pins s σ H _ I h) λv s1 ⟨x,H1,I1,r1,q1⟩=>ho pins s1 σ H1 x v Q I1 r1 q1)
theorem opI {f:rg->rg->Sem rg}{C:Int->Int->Prop}{g:Int->Int->Int}
  (rule:∀(i j:Int) (t u:Tok) (s:rj) (Q:rg->rj->Prop) (E:rg->rj->Prop),C i j->Q (.int (g i j) s.toks) { s with toks:=s.toks+1 }->rX (sh X.prog X.w) X.A (f (.int i t) (.int j u)) Q E s) :
  OpR X f (rI C λi j =>.int (g i j)):=by
 intro pins s σ H x y v u Q I rx ry h
 obtain ⟨i,j,rfl,rfl,hc,q⟩:=h
 obtain ⟨t,rfl⟩:=rx
 obtain ⟨t',rfl⟩:=ry
 exact rule i j t t' s _ _ hc ⟨.int (g i j),H,I.tok _,⟨_,rfl⟩,q⟩
theorem qL {f:rg->rg->Sem rg}{g:Int->Int->Int}
  (rule:∀(i j:Int) (t u:Tok) (s:rj) (Q:rg->rj->Prop) (E:rg->rj->Prop),Q (.int (g i j) s.toks) { s with toks:=s.toks+1 }->rX (sh X.prog X.w) X.A (f (.int i t) (.int j u)) Q E s) :
  OpR X f (rI0 λi j =>.int (g i j)):=by
 intro pins s σ H x y v u Q I rx ry h
 obtain ⟨i,j,rfl,rfl,q⟩:=h
 obtain ⟨t,rfl⟩:=rx
 obtain ⟨t',rfl⟩:=ry
 exact rule i j t t' s _ _ ⟨.int (g i j),H,I.tok _,⟨_,rfl⟩,q⟩
theorem pS {f:rg->rg->Sem rg}{g:Int->Int->Bool}
  (rule:∀(i j:Int) (t u:Tok) (s:rj) (Q:rg->rj->Prop) (E:rg->rj->Prop),Q (.bool (g i j)) s->rX (sh X.prog X.w) X.A (f (.int i t) (.int j u)) Q E s) :
  OpR X f (rI0 λi j =>.bl (g i j)):=by
 intro pins s σ H x y v u Q I rx ry h
 obtain ⟨i,j,rfl,rfl,q⟩:=h
 obtain ⟨t,rfl⟩:=rx
 obtain ⟨t',rfl⟩:=ry
 exact rule i j t t' s _ _ ⟨.bl (g i j),H,I,rfl,q⟩
def CDiv (i j:Int):Prop:=0<j/\j<1073741824
def CPow (i j:Int):Prop:=0<=j/\j<=1000000/\i.natAbs<2 ^ 64
def pT (i j:Int):Prop:=(-(2 ^ 64)<i/\i<2 ^ 64)\/(-(2 ^ 64)<j/\j<2 ^ 64)
theorem pT.ok {i j:Int}(h:pT i j):IntMulOk i j:=by
 rcases h with ⟨h1,h2⟩ | ⟨h1,h2⟩
 ·exact .of_left (intBits_le_64 h1 h2)
 ·exact .of_right (intBits_le_64 h1 h2)
theorem gI:OpR X (binaryOp .Add) (rI0 λi j =>.int (i+j)):=qL λ_ _ _ _ _ _ _ q=>add_int q
theorem i3:OpR X (binaryOp .Sub) (rI0 λi j =>.int (i-j)):=qL λ_ _ _ _ _ _ _ q=>sub_int q
theorem eR:OpR X (binaryOp .Mult) (rI pT λi j =>.int (i*j)):=opI λ_ _ _ _ _ _ _ hc q=>mul_int q hc.ok
theorem jQ:OpR X (binaryOp .FloorDiv) (rI CDiv λi j =>.int (i/j)):=opI λi j _ _ _ _ _ hc q=>by
 have h1:(0:Int)<j:=hc.1
 have h2:j<1073741824:=hc.2
 exact floordiv_int (by omega) (by rw[Int.fdiv_eq_ediv_of_nonneg i (by omega)];exact q) (.inl (PyProof.noPylong_small (by omega)))
theorem eS:OpR X (binaryOp .Mod) (rI (λ_ j=>0<j) λi j =>.int (i%j)):=opI λi j _ _ _ _ _ hc q=>by
 have h1:(0:Int)<j:=hc
 exact mod_int' (by omega) (by rw[Int.fmod_eq_emod_of_nonneg i (by omega)];exact q)
theorem ma:OpR X (binaryOp .Pow) (rI CPow λi j =>.int (i ^ j.toNat)):=opI λ_ _ _ _ _ _ _ hc q=>pow_int_small hc.1 hc.2.1 hc.2.2 q
theorem unI {f:rg->Sem rg}{g:Int->Int}
  (rule:∀(i:Int) (t:Tok) (s:rj) (Q:rg->rj->Prop) (E:rg->rj->Prop),Q (.int (g i) s.toks) { s with toks:=s.toks+1 }->rX (sh X.prog X.w) X.A (f (.int i t)) Q E s) :
  UnR X f (rU λi =>.int (g i)):=by
 intro pins s σ H x v Q I rx h
 obtain ⟨i,rfl,q⟩:=h
 obtain ⟨t,rfl⟩:=rx
 exact rule i t s _ _ ⟨.int (g i),H,I.tok _,⟨_,rfl⟩,q⟩
theorem me:UnR X (unaryOp .USub) (rU λi =>.int (-i)):=unI λ_ _ _ _ _ q=>neg_int q
end
def qM:V->V->Bool
 | .non,.non=>true | .non,.int _=>true | .int _,.non=>true | .non,.bl _=>true | .bl _,.non=>true | .non,.str _=>true | .str _,.non=>true
 | .int _,.int _=>true | .bl _,.bl _=>true | .str _,.str _=>true | .byt _,.byt _=>true
 | .int _,.str _=>true | .str _,.int _=>true | .bl _,.str _=>true | .str _,.bl _=>true
 | _,_=>false
def rEq:R2:=λx y H Q=>qM x y=true/\Q (.bl (decide (x=y))) H
def rNe:R2:=λx y H Q=>qM x y=true/\Q (.bl (!decide (x=y))) H
theorem jR {i j:Int}:decide (V.int i=V.int j)=(i == j):=by
 rw[vH]
 simp
theorem mf {i j:Bool}:decide (V.bl i=V.bl j)=(i == j):=by
 rw[vH]
 simp
theorem jS {i j:Str}:decide (V.str i=V.str j)=(i == j):=by
 rw[vH]
 simp
theorem jT {i j:Array UInt8}:decide (V.byt i=V.byt j)=(i.toList == j.toList):=by
 rw[vH]
 cases i
 cases j
 simp
section
variable  {X:Cx}{a b c:Expr}{ta tb tc:TE}{pos:Pos}
theorem az {pins:List (Addr×Obj)}{σ:St}{H:Hp}{s:rj}{Q:VK}{k k':Bool}(I:Inv X pins σ H s)(q:Q (.bl k) H)(e:k=k'):EP X pins σ Q (.bool k') s:=by
 subst e
 exact ⟨.bl k,H,I,rfl,q⟩
theorem d7:OpR X (uA .Eq) rEq:=by
 intro pins s σ H x y v u Q I rx ry h
 obtain ⟨hs,q⟩:=h
 cases x with
 | non =>
  cases rx
  cases y with
  | non=>cases ry;exact PySem.EqNone.eq_none_none (az I q (by simp))
  | bl j=>cases ry;exact PySem.EqNone.eq_none_bool (az I q (by simp))
  | int j=>obtain ⟨t',rfl⟩:=ry;exact PySem.EqNone.eq_none_int (az I q (by simp))
  | str j=>obtain ⟨t',rfl⟩:=ry;exact PySem.EqNone.eq_none_str (az I q (by simp))
  | _=>exact absurd (show false=true from hs) rR
 | bl i =>
  cases rx
  cases y with
  | non=>cases ry;exact PySem.EqNone.eq_bool_none (az I q (by simp))
  | bl j=>cases ry;exact eq_bool (az I q mf)
  | str j=>obtain ⟨t',rfl⟩:=ry;exact y7 (az I q (by simp))
  | _=>exact absurd (show false=true from hs) rR
 | int i =>
  obtain ⟨t,rfl⟩:=rx
  cases y with
  | non=>cases ry;exact PySem.EqNone.eq_int_none (az I q (by simp))
  | int j=>obtain ⟨t',rfl⟩:=ry;exact eq_int (az I q jR)
  | str j=>obtain ⟨t',rfl⟩:=ry;exact zh (az I q (by simp))
  | _=>exact absurd (show false=true from hs) rR
 | str i =>
  obtain ⟨t,rfl⟩:=rx
  cases y with
  | non=>cases ry;exact PySem.EqNone.eq_str_none (az I q (by simp))
  | bl j=>cases ry;exact y8 (az I q (by simp))
  | int j=>obtain ⟨t',rfl⟩:=ry;exact zi (az I q (by simp))
  | str j=>obtain ⟨t',rfl⟩:=ry;exact eq_str (az I q jS)
  | _=>exact absurd (show false=true from hs) rR
 | byt i =>
  obtain ⟨t,rfl⟩:=rx
  cases y with
  | byt j=>obtain ⟨t',rfl⟩:=ry;exact PySem.W.eq_bytes (az I q jT)
  | _=>exact absurd (show false=true from hs) rR
 | _=>cases y <;> exact absurd (show false=true from hs) rR
theorem mh:OpR X (uA .NotEq) rNe:=by
 intro pins s σ H x y v u Q I rx ry h
 obtain ⟨hs,q⟩:=h
 cases x with
 | non =>
  cases rx
  cases y with
  | non=>cases ry;exact PySem.EqNone.ne_none_none (az I q (by simp))
  | bl j=>cases ry;exact PySem.EqNone.ne_none_bool (az I q (by simp))
  | int j=>obtain ⟨t',rfl⟩:=ry;exact PySem.EqNone.ne_none_int (az I q (by simp))
  | str j=>obtain ⟨t',rfl⟩:=ry;exact PySem.EqNone.ne_none_str (az I q (by simp))
  | _=>exact absurd (show false=true from hs) rR
 | bl i =>
  cases rx
  cases y with
  | non=>cases ry;exact PySem.EqNone.ne_bool_none (az I q (by simp))
  | bl j=>cases ry;exact ne_bool (az I q (congrArg not mf))
  | str j=>obtain ⟨t',rfl⟩:=ry;exact y9 (az I q (by simp))
  | _=>exact absurd (show false=true from hs) rR
 | int i =>
  obtain ⟨t,rfl⟩:=rx
  cases y with
  | non=>cases ry;exact PySem.EqNone.ne_int_none (az I q (by simp))
  | int j=>obtain ⟨t',rfl⟩:=ry;exact ne_int (az I q (congrArg not jR))
  | str j=>obtain ⟨t',rfl⟩:=ry;exact zj (az I q (by simp))
  | _=>exact absurd (show false=true from hs) rR
 | str i =>
  obtain ⟨t,rfl⟩:=rx
  cases y with
  | non=>cases ry;exact PySem.EqNone.ne_str_none (az I q (by simp))
  | bl j=>cases ry;exact zc (az I q (by simp))
  | int j=>obtain ⟨t',rfl⟩:=ry;exact zk (az I q (by simp))
  | str j=>obtain ⟨t',rfl⟩:=ry;exact ne_str (az I q (congrArg not jS))
  | _=>exact absurd (show false=true from hs) rR
 | byt i =>
  obtain ⟨t,rfl⟩:=rx
  cases y with
  | byt j=>obtain ⟨t',rfl⟩:=ry;exact PySem.W.ne_bytes (az I q (congrArg not jT))
  | _=>exact absurd (show false=true from hs) rR
 | _=>cases y <;> exact absurd (show false=true from hs) rR
theorem qN:OpR X (uA .LtE) (rI0 λi j =>.bl (decide (i<=j))):=pS λ_ _ _ _ _ _ _ q=>le_int q
theorem mi:OpR X (uA .Gt) (rI0 λi j =>.bl (decide (j<i))):=pS λ_ _ _ _ _ _ _ q=>gt_int q
theorem qO:OpR X (uA .GtE) (rI0 λi j =>.bl (decide (j<=i))):=pS λ_ _ _ _ _ _ _ q=>ge_int q
theorem kK:OpR X (uA .In) (λx y H Q=>∃i j,x = .str i/\y = .str j/\Q (.bl (!(Builtin.Str.occurrences j i 0 j.length 1).isEmpty)) H):=by
 intro pins s σ H x y v u Q I rx ry h
 obtain ⟨i,j,rfl,rfl,q⟩:=h
 obtain ⟨t,rfl⟩:=rx
 obtain ⟨t',rfl⟩:=ry
 exact in_str (az I q rfl)
theorem gJ:OpR X (uA .Is) (λx y H Q=>y = .non/\Q (.bl (decide (x = .non))) H):=by
 intro pins s σ H x y v u Q I rx ry h
 obtain ⟨rfl,q⟩:=h
 cases ry
 refine is_none_gen (az I q ?_)
 cases x <;> first
  | (cases rx;rfl)
  | (obtain ⟨t,rfl⟩:=rx;rfl)
theorem aL (b:Expr){op:CmpOp}(h:op ≠ .In:=by decide)(h2:op ≠ .NotIn:=by decide):behindInMarks op b=false:=by
 have e1:(op == CmpOp.In)=false:=by cases op <;> first | rfl | exact absurd rfl h
 have e2:(op == CmpOp.NotIn)=false:=by cases op <;> first | rfl | exact absurd rfl h2
 cases b <;> simp[behindInMarks,e1,e2]
theorem bN {op:CmpOp}{r:R2}(ho:OpR X (uA op) r)(ha:PE X a ta)(hb:PE X b tb)(hm:behindInMarks op b=false):PE X (.Compare a [op] [b] pos) (tOp r ta tb):=by
 intro pins s σ H Q I h
 exact wpAny_Compare1 (pR ha hb I h λv u s2 x y H2 I2 rx ry q=>ho pins s2 σ H2 x y v u Q I2 rx ry q) hm
def qP (t:TE):TT:=λσ H Q=>t σ H λx H'=>∃k,x = .bl k/\Q k H'
theorem aZ {op:CmpOp}{r:R2}(ho:OpR X (uA op) r)(ha:PE X a ta)(hb:PE X b tb)(hm:behindInMarks op b=false):PT X (.Compare a [op] [b] pos) (qP (tOp r ta tb)):=by
 intro pins s σ H Q I h
 refine xR (thn (ha pins s σ H _ I h) λv s1 ⟨x,H1,I1,r1,q1⟩=>thn (hb pins s1 σ H1 _ I1 q1) λu s2 ⟨y,H2,I2,r2,q2⟩ =>
  thn (ho pins s2 σ H2 x y v u _ I2 r1 r2 q2) λc s3 ⟨z,H3,I3,r3,k,e,q3⟩ =>?_) hm
 subst e
 cases r3
 exact t9 ⟨H3,I3,q3⟩
theorem eU:(rN:Nat)<2 ^ 63:=by rw[xh];decide
theorem eV:OpR X (binaryOp .Add) (λx y H Q=>∃i j,x = .str i/\y = .str j/\i.length+j.length<=rN/\Q (.str (i++j)) H):=by
 intro pins s σ H x y v u Q I rx ry h
 obtain ⟨i,j,rfl,rfl,hz,q⟩:=h
 obtain ⟨t,rfl⟩:=rx
 obtain ⟨t',rfl⟩:=ry
 exact add_str (λt' tk=>⟨.str (i++j),H,I.tok _,⟨_,rfl⟩,q⟩) hz
theorem vals1 {x:V}{us:List rg}(r:Vals [x] us):∃u,us=[u]/\RelV x u:=by
 cases r with
 | cons r1 r2=>cases r2;exact ⟨_,rfl,r1⟩
theorem vals2 {x y:V}{us:List rg}(r:Vals [x,y] us):∃u w',us=[u,w']/\RelV x u/\RelV y w':=by
 cases r with
 | cons r1 r2 =>
  cases r2 with
  | cons r3 r4=>cases r4;exact ⟨_,_,rfl,r1,r3⟩
theorem kM (hc:X.calm=true):bG X (.builtin "min") (λxs H Q=>∃i j,xs=[.int i,.int j]/\Q (.int (if j<i then j else i)) H):=by
 intro pins s σ H xs us Q I r h
 obtain ⟨i,j,rfl,q⟩:=h
 obtain ⟨u,w',rfl,⟨t,rfl⟩,⟨t',rfl⟩⟩:=vals2 r
 refine min_two_ints (I.ok.hd hc) λh' tk k=>⟨_,H,I.kept k,?_,q⟩
 by_cases hj:j<i
 ·rw[if_pos hj,if_pos hj];exact ⟨_,rfl⟩
 ·rw[if_neg hj,if_neg hj];exact ⟨_,rfl⟩
theorem bD:bG X (.type "str") (λxs H Q=>∃i,xs=[.int i]/\i.natAbs.log2<1920/\Q (.str (toString i)) H):=by
 intro pins s σ H xs us Q I r h
 obtain ⟨i,rfl,hz,q⟩:=h
 obtain ⟨u,rfl,t,rfl⟩:=vals1 r
 exact PySem.P.str_of_int hz ⟨.str _,H,I.tok _,⟨_,rfl⟩,q⟩
end
open PySem PySem.Spec PyProof.Rows
structure pU (h:Heap)(x dx C:Addr)(mA:Str->Option rg):Prop where
 obj:h.get? x=some (PySem.W.instObj C dx)
 ns:h.Ns1 dx mA
 ne:dx≠x
theorem kN {h:Heap}{dx:Addr}{mA:Str->Option rg}(n:h.Ns1 dx mA):∃od,h.get? dx=some od/\∀name,PySem.W.lookIn name od=some (mA name):=by
 obtain ⟨o,es,ep,ho,hd,hk,_,hm⟩:=n
 refine ⟨o,ho,λname =>?_⟩
 have e:=hm name
 unfold nsFind findBy at e
 rw[<- Array.find?_toList] at e
 unfold PySem.W.lookIn
 rw[hd]
 dsimp only
 split
 ·rename_i y q
  rw[q] at e
  exact congrArg some e
 ·rename_i q
  rw[q] at e
  have a:es.toList.any (·.refKey)=false:=by
   rw[List.any_eq_false]
   intro y hy
   obtain ⟨z,t,hkey⟩:=hk y (td.mp hy)
   simp[DictEntry.refKey,hkey]
  have a':¬ es.toList.any (·.refKey)=true:=by rw[a];exact rR
  rw[if_neg a']
  exact congrArg some e
theorem pU.look {h:Heap}{x dx C:Addr}{mA:Str->Option rg}(I:pU h x dx C mA):∃od,PySem.W.InstAt h x (PySem.W.instObj C dx) C (some od)/\∀name,PySem.W.lookIn name od=some (mA name) :=
 let ⟨od,ho,hl⟩:=kN I.ns
 ⟨od,⟨I.obj,rfl,rfl,ho⟩,hl⟩
section
variable  {prog:rO}{w:sC}{A:sR}{E:rg->rj->Prop}{s:rj}{K:rk}{x dx C f:Addr}{mA:Str->Option rg}{name:Str}{v:rg}
end
section
variable  {P:rO}{w:sC}{H H':Hp}{h h':Heap}{a C dx:Addr}{fs fs':List (Str×V)}
theorem nC (hok:HOk P w H h)(e:H a=some (.ins C dx fs)):∃mA,pU h a dx C mA/\(∀f,pI (fs.lookup f) (mA f))/\PySem.Within mA (fs.map (·.1))/\fs.length<=1000/\H dx=some (.own a):=by
 obtain ⟨d,z,ne,ob,mA,n,r,q⟩:=(show aR P w H h a (.ins C dx fs) from hok a _ e)
 exact ⟨mA,⟨ob,n,ne⟩,r,q,z,d⟩
end
structure Cls (K:rk)(C:Addr):Prop where
 pg:PySem.W.plainGet K C Str.empty=true
 hd:PySem.W.hasDictIn K C=true
 po:PySem.W.plainOver K C=true
 sa:PySem.W.findIn K (.ref C) "__setattr__" = some (some (.builtin "object.__setattr__"))
theorem Cls.get {K:rk}{C:Addr}(c:Cls K C)(f:Str):PySem.W.plainGet K C f=true:=c.pg
section
variable  {X:Cx}{pins:List (Addr×Obj)}{σ:St}{H:Hp}{s:rj}{a C dx:Addr}{fs:List (Str×V)}{f:Str}{v:V}{A:sR}{E:rg->rj->Prop}
end
section
variable  {X:Cx}{o e value:Expr}{f:Str}{pos pos' tpos:Pos}{ta tv:TE}
end
section
variable  {X:Cx}{pins:List (Addr×Obj)}{σ:St}{H:Hp}{s:rj}{A:sR}{E:rg->rj->Prop}{Q:rg->rj->Prop}{c:rg}{b:Bool}
inductive cH (K:rk)(H:Hp):V->rg->Prop where
 | non:cH K H .non (.type "NoneType")
 | bl (x:Bool):cH K H (.bl x) (.type "bool")
 | int (i:Int):cH K H (.int i) (.type "int")
 | str (x:Str):cH K H (.str x) (.type "str")
 | flt (x:UInt64):cH K H (.flt x) (.type "float")
 | lst {a:Addr} {xs:List V} (e:H a=some (.lst xs)):cH K H (.ref a) (.type "list")
 | frz {a:Addr} {o:Obj} {xs:List V} (e:H a=some (.frz o (.lst xs))):cH K H (.ref a) (.type "list")
 | tup {a:Addr} {xs:List V} (e:H a=some (.tup xs)):cH K H (.ref a) (.type "tuple")
 | dK {a:Addr} {kvs:List (Key×V)} (e:H a=some (.dK kvs)):cH K H (.ref a) (.type "dict")
 | dT {a:Addr} {kvs:List (List Key×V)} (e:H a=some (.dT kvs)):cH K H (.ref a) (.type "dict")
 | ins {a C dx:Addr} {fs:List (Str×V)} (e:H a=some (.ins C dx fs)) (cl:Cls K C) (ha:PySem.W.findIn K (.ref C) "__class__" = some (some (.builtin "object.__class__")))
   (hn:PySem.W.specialIn K (.builtin "object.__class__") "__get__" = some (some (.builtin "getset_descriptor.__get__"))) (htk:PySem.W.takesIn K (.builtin "object.__class__")=some true)
   (hm:PySem.W.mroIn K C (.type "object")=some true):cH K H (.ref a) (.ref C)
theorem kO {x:V}{u t:rg}(I:Inv X pins σ H s)(rx:RelV x u)(ty:cH X.K H x t)(e:PySem.W.kitOne X.K t c=some b)(h:∀tk,Q (.bool b) { s with toks:=tk }) :
  rX (sh X.prog X.w) A (call (.builtin "isinstance") [u,c]) Q E s:=by
 cases ty with
 | non=>cases (show u=tX from rx);exact tJ yv I.kIn True.intro e (λz=>nomatch z) h
 | bl y=>cases (show u=Value.bool y from rx);exact tJ yw I.kIn True.intro e (λz=>nomatch z) h
 | int i=>obtain ⟨t,q⟩:=(show ∃t,u=vp i t from rx);cases q;exact tJ yI I.kIn True.intro e (λz=>nomatch z) h
 | str y=>obtain ⟨t,q⟩:=(show ∃t,u=Value.str y t from rx);cases q;exact tJ yJ I.kIn True.intro e (λz=>nomatch z) h
 | flt y=>obtain ⟨t,q⟩:=(show ∃t,u=Value.float y t from rx);cases q;exact tJ yi I.kIn True.intro e (λz=>nomatch z) h
 | @lst a xs ea =>
  cases (show u=si a from rx)
  obtain ⟨_,_,n,_,h1⟩:=(show aR X.prog X.w H s.heap a (.lst xs) from I.hok a _ ea)
  exact tJ vS I.kIn ⟨_,h1,rfl⟩ e (λz=>nomatch z) h
 | @frz a ob xs ea =>
  cases (show u=si a from rx)
  obtain ⟨_,_,_,n,_,h1⟩:=(show aR X.prog X.w H s.heap a (.frz ob (.lst xs)) from I.hok a _ ea)
  exact tJ vS I.kIn ⟨_,h1,rfl⟩ e (λz=>nomatch z) h
 | @tup a xs ea =>
  cases (show u=si a from rx)
  obtain ⟨_,_,_,p⟩:=(show aR X.prog X.w H s.heap a (.tup xs) from I.hok a _ ea)
  obtain ⟨o,h1,h2,_⟩:=p
  exact tJ yj I.kIn ⟨o,h1,h2.1⟩ e (λz=>nomatch z) h
 | @dK a kvs ea =>
  cases (show u=si a from rx)
  obtain ⟨_,_,vs,_,p⟩:=(show aR X.prog X.w H s.heap a (.dK kvs) from I.hok a _ ea)
  obtain ⟨o,es,ep,h1,h2,_⟩:=p
  exact tJ vT I.kIn ⟨o,h1,h2.1⟩ e (λz=>nomatch z) h
 | @dT a kvs ea =>
  cases (show u=si a from rx)
  obtain ⟨_,_,xs,_,o,es,ep,h1,h2,_⟩:=(show aR X.prog X.w H s.heap a (.dT kvs) from I.hok a _ ea)
  exact tJ vT I.kIn ⟨o,h1,h2.1⟩ e (λz=>nomatch z) h
 | @ins a C dx fs ea cl ha hn htk hm =>
  cases (show u=si a from rx)
  obtain ⟨mA,O,_⟩:=nC I.hok ea
  obtain ⟨od,J,_⟩:=O.look
  exact tJ (PySem.W.kitx_own (cl.get _) cl.hd ha hn htk hm) I.kIn J e (λz=>nomatch z) h
end
open PySem PySem.Spec PyProof.Rows
structure cg (k:Nat)(A:sR):Prop where
 hd:A.handled=none
 dp:A.depth+3*k+5<recursionLimit
 un:A.units+16*k+200<cLine
theorem cg.mono {j k:Nat}{A:sR}(r:cg k A)(h:j<=k):cg j A:=⟨r.hd,by have:=r.dp;omega,by have:=r.un;omega⟩
theorem cg.deeper {k:Nat}{A:sR}(r:cg (k+1) A)(env:Env):cg k (A.deeper env) :=
 ⟨r.hd,by have:=r.dp;show A.depth+1+3*k+5<_;omega,by have:=r.un;show A.units+3+16*k+200<_;omega⟩
theorem cg.depth {k:Nat}{A:sR}(r:cg k A):A.depth<recursionLimit:=by have:=r.dp;omega
theorem cg.units {k:Nat}{A:sR}(r:cg k A):A.units+64<cLine:=by have:=r.un;omega
def tNil:TA:=λ_ H Q=>Q [] H
def qQ (ta:TE)(tr:TA):TA:=λσ H Q=>ta σ H λx H1=>tr σ H1 λxs H2=>Q (x :: xs) H2
section
variable  {X:Cx}{e:Expr}{es:List Expr}{te:TE}{t:TA}{pos:Pos}
theorem ae:PA X [] tNil:=λ_ _ _ _ H Q I h=>Calls.spliced_nil ⟨[],H,I,.nil,h⟩
theorem aa (ha:PE X e te)(hr:PA X es t)(hs:sU (e :: es) X.env=(false,eval e X.env) :: sU es X.env:=by rfl):PA X (e :: es) (qQ te t):=by
 intro pos pins s σ H Q I h
 rw[hs]
 show rX _ _ (spliced ((false,eval e X.env) :: xw pos (sU es X.env))) _ _ s
 refine Calls.spliced_cons (thn (ha pins s σ H _ I h) λu s1 ⟨x,H1,I1,r1,q1⟩ =>?_)
 exact thn (hr pos pins s1 σ H1 _ I1 q1) λus s2 ⟨xs,H2,I2,r2,q2⟩=>⟨x :: xs,H2,I2,.cons r1 r2,q2⟩
def tTup (t:TA):TE:=λσ H Q=>t σ H λxs H1=>xs.length<=rN/\∀p,H1 p=none->Q (.ref p) (upd H1 p (.tup xs))
def tLst (t:TA):TE:=λσ H Q=>t σ H λxs H1=>xs.length<=rN/\∀p,H1 p=none->Q (.ref p) (upd H1 p (.lst xs))
theorem cI {x1}(h:PA X es t):PE X (.Tuple es x1 pos) (tTup t):=by
 intro pins s σ H Q I hq
 refine wpAny_Tuple_spliced (thn (h pos pins s σ H _ I hq) λus s1 ⟨xs,H1,I1,r,z,q⟩=>⟨by rw[<- r.length];exact z,?_⟩)
 have hf:H1 s1.heap.objs.size=none:=I1.hok.fresh (rA _)
 refine ⟨.ref s1.heap.objs.size,upd H1 s1.heap.objs.size (.tup xs),I1.laid (t':=s1.toks) (λb u e=>rf _ e) (rA _) ?_,rfl,q _ hf⟩
 exact ⟨z,us,r,⟨_,rz _ rfl,⟨rfl,rfl⟩,_,rfl⟩⟩
theorem cp (h:PA X es t):PE X (.List es pos) (tLst t):=by
 intro pins s σ H Q I hq
 refine wpAny_List_spliced (thn (h pos pins s σ H _ I hq) λus s1 ⟨xs,H1,I1,r,z,q⟩=>⟨by rw[<- r.length];exact z,?_⟩)
 have hf:H1 s1.heap.objs.size=none:=I1.hok.fresh (rA _)
 refine ⟨.ref s1.heap.objs.size,upd H1 s1.heap.objs.size (.lst xs),I1.laid (t':=s1.toks) (λb u e=>rf _ e) (rA _) ?_,rfl,q _ hf⟩
 exact ⟨z,us,0,r,rz _ rfl⟩
end
abbrev Sp:=List V->Hp->VK->XK->Prop
abbrev CXT:=List Env->Hp->rj->XK->rg->rj->Prop
structure nD (P:rO)(w:sC)(K:rk)(mg:Str->Option rg)(base:Heap)(A:sR)(outer:List Env)(s:rj)(H:Hp):Prop where
 frames:A.frames=some outer
 mod:Mod K mg base
 bs:∀b o,base.get? b=some o->s.heap.get? b=some o/\H b=none
 bsz:base.objs.size<=s.heap.objs.size
 funs:s.heap.FunFrames base outer
 frf:∀b∈frs outer,H b=none
 hok:HOk P w H s.heap
 bare:AllBare s.gens
def CE (outer:List Env)(P:rO)(w:sC)(H:Hp)(s:rj)(Q:VK)(u:rg)(s':rj):Prop :=
 ∃v H',s'.os=s.os/\AllBare s'.gens/\Un (frs outer) [] H H' s.heap s'.heap/\HOk P w H' s'.heap/\RelV v u/\Q v H'
def CR (CX:CXT)(outer:List Env)(P:rO)(w:sC)(H:Hp)(s:rj)(Q:VK)(E:XK)(r:Result)(s':rj):Prop :=
 match r with
 | .ok (.ret u)=>CE outer P w H s Q u s'
 | .ok _=>False
 | .error e=>CX outer H s E e s'
structure bE (P:rO)(w:sC)(K:rk)(mg:Str->Option rg)(base:Heap)(CX:CXT)(k:Nat)(f:Addr)(fd:sV)(ps:List Str)(sp:Sp):Prop where
 len:∀vs H Q E,sp vs H Q E->vs.length=ps.length
 run:∀(A:sR) (outer:List Env) (s:rj) (H:Hp) (args:Args) (us:List rg) (vs:List V) (Q:VK) (E:XK),cg k A->nD P w K mg base A outer s H->BindsTo s fd args (ps.zip us)->Vals vs us->sp vs H Q E →
  xX (sh P w) A (.call (.ref f) args) (CR CX outer P w H s Q E) s
section
variable  {X:Cx}{pins:List (Addr×Obj)}{σ:St}{H:Hp}{s s':rj}
theorem Inv.env0 (I:Inv X pins σ H s):nD X.prog X.w X.K X.mg X.base X.A X.stack s H :=
 ⟨I.ok.frames,I.ok.mod,I.bs,su I.ok.bsz I.sz,I.stack,I.jK,I.hok,I.bare⟩
theorem Inv.after {Q:VK}{u:rg}(I:Inv X pins σ H s)(h:CE X.stack X.prog X.w H s Q u s'):EP X pins σ Q u s':=by
 obtain ⟨v,H',os,bare,un,hok,r,q⟩:=h
 obtain ⟨hh,g,d,t,os'⟩:=s'
 obtain rfl:os'=s.os:=os
 exact ⟨v,H',I.call (h':=hh) (g':=g) (d':=d) (t':=t) (ch:=[]) un hok bare (λb z=>absurd z (by simp)),r,q⟩
end
def oQ (sp:Sp)(dvs:List V)(E:XK)(t:TA):TE:=λσ H Q=>t σ H λvs H1=>sp (vs++dvs) H1 Q E
def Binds (K:rk)(fd:sV)(ps:List Str)(ds:List rg):Prop :=
 ∀(s:rj) (us:List rg),K.In s.heap->(us++ds).length=ps.length->BindsTo s fd ⟨us,[]⟩ (ps.zip (us++ds))
theorem Binds.all {K:rk}{fd:sV}{ps:List Str}(h:∀us:List rg,us.length=ps.length->bindArgs fd ⟨us,[]⟩=pure (ps.zip us)):Binds K fd ps []:=λs us _ hl=>by
 rw[tK] at hl ⊢
 exact .of_eq (h us hl)
def Passes (CX:CXT)(X:Cx)(E:XK):Prop:=∀(pins:List (Addr×Obj)) (σ:St) (H:Hp) (s:rj) (e:rg) (s':rj),Inv X pins σ H s->CX X.stack H s E e s'->X.xe e s'
section
variable  {X:Cx}{CX:CXT}{k:Nat}{f C:Addr}{fd:sV}{ps:List Str}{sp:Sp}{dvs:List V}{ds:List rg}{E:XK}{x m:Str}{p pos apos:Pos}{e o:Expr}{es:List Expr}{ta:TE}{t:TA}
theorem mj {pins:List (Addr×Obj)}{σ:St}{H:Hp}{s:rj}{Q:VK}{us:List rg}{vs:List V}(F:bE X.prog X.w X.K X.mg X.base CX k f fd ps sp)(hr:cg k X.A)(hb:Binds X.K fd ps ds)(hd:Vals dvs ds)(hx:Passes CX X E)
  (I:Inv X pins σ H s) (r:Vals vs us) (h:sp (vs++dvs) H Q E):rX (sh X.prog X.w) X.A (call (.ref f) us) (EP X pins σ Q) X.xe s:=by
 have r2:Vals (vs++dvs) (us++ds):=r.append hd
 have hl:(us++ds).length=ps.length:=by rw[<- r2.length];exact F.len _ _ _ _ h
 refine zq (vG (F.run X.A X.stack s H ⟨us,[]⟩ (us++ds) (vs++dvs) Q E hr I.env0 (hb s us I.kIn hl) r2 h) λr s' hq =>?_)
 cases r with
 | error e=>exact hx pins σ H s e s' I hq
 | ok fl =>
  cases fl with
  | ret u=>exact I.after hq
  | next=>exact False.elim hq
  | brk=>exact False.elim hq
  | cont=>exact False.elim hq
theorem nE (F:bE X.prog X.w X.K X.mg X.base CX k f fd ps sp)(hr:cg k X.A)(hg:Gl X x)(hm:X.mg x=some (.ref f))(hk:PySem.W.keepIn X.K (.ref f)=true)(hb:Binds X.K fd ps ds)(hd:Vals dvs ds)(hx:Passes CX X E)
  (ha:PA X (e :: es) t) (hdb:(x == ("__debug__" : Str))=false:=by decide) (he:sU (e :: es) X.env=(false,eval e X.env) :: sU es X.env:=by rfl) (hpl:(xw pos (sU es X.env)).any (·.1)=false:=by rfl) :
  PE X (.Call (.Name x p) (e :: es) [] pos) (oQ sp dvs E t):=by
 intro pins s σ H Q I h
 refine vO (jL I hg hm ?_ hdb)
 refine yk (h₀:=X.base) I.ok.mod.kin hk (thn (ha pos pins s σ H _ I h) λus s1 ⟨vs,H1,I1,r,q⟩=>⟨I1.kIn,?_⟩) he hpl
 exact mj F hr hb hd hx I1 r q
end
section
variable  {X:Cx}{CX:CXT}{k:Nat}{f C:Addr}{fd:sV}{ps ks:List Str}{sp:Sp}{E:XK}{x m:Str}{p pos apos kpos:Pos}{e o:Expr}{es:List Expr}{kws:List Keyword}{te ta:TE}{t tk:TA}{nm:Option Str}
variable  {g:List rg->List rg->List rg}{gV:List V->List V->List V}
end
structure aJ (N P:List Str)(sc:Scope):Prop where
 kind:sc.kind = .function
 co:sc.isCoroutine=false
 gen:sc.isGenerator=false
 nd:N.Nodup
 pre:N.take P.length=P
 par:∀x∈P,sc.names.lookup x=some .local\/sc.names.lookup x=some .cell
 nofree:∀y∈sc.names,y.2 ≠ .free
theorem gc {kindOf:Str->Option NameKind}{x:Str}:∀{binds:List (Str×rg)} {m:Str->Option rg},(∀v,(x,v)∉binds)->bindL kindOf binds m x=m x
 | [],_,_=>rfl
 | (n,v) :: r,m,h=>by
  unfold bindL
  rw[gc λw hw=>h w (r6 _ hw)]
  split
  ·have:x≠n:=by rintro rfl;exact h v rK
   simp[this]
  ·rfl
theorem gf {kindOf:Str->Option NameKind}{x:Str}:∀{binds:List (Str×rg)} {m:Str->Option rg},(∀v,(x,v)∉binds)->bindC kindOf binds m x=m x
 | [],_,_=>rfl
 | (n,v) :: r,m,h=>by
  unfold bindC
  rw[gf λw hw=>h w (r6 _ hw)]
  split
  ·rfl
  ·have:x≠n:=by rintro rfl;exact h v rK
   simp[this]
theorem gg {kindOf:Str->Option NameKind}{x:Str}{v:rg}:∀{P:List Str} {vs:List rg} {i:Nat} {m:Str->Option rg},P.Nodup->P[i]? = some x->vs[i]? = some v->kindOf x=some .local →
  bindL kindOf (P.zip vs) m x=some v
 | [],_,_,_,_,h,_,_=>by simp at h
 | _ :: _,[],_,_,_,_,h,_=>by simp at h
 | p :: P,w :: vs,0,m,nd,h1,h2,hk=>by
  simp at h1 h2;subst h1;subst h2
  show bindL kindOf ((p,w) :: P.zip vs) m p=_
  unfold bindL
  rw[gc λv hv=>(wq.mp nd).1 (xF hv).1,if_pos hk]
  simp
 | p :: P,w :: vs,i+1,m,nd,h1,h2,hk=>by
  show bindL kindOf ((p,w) :: P.zip vs) m x=_
  unfold bindL
  exact gg (i:=i) (wq.mp nd).2 (by simpa using h1) (by simpa using h2) hk
theorem gh {kindOf:Str->Option NameKind}{x:Str}{v:rg}:∀{P:List Str} {vs:List rg} {i:Nat} {m:Str->Option rg},P.Nodup->P[i]? = some x->vs[i]? = some v->kindOf x≠some .local →
  bindC kindOf (P.zip vs) m x=some v
 | [],_,_,_,_,h,_,_=>by simp at h
 | _ :: _,[],_,_,_,_,h,_=>by simp at h
 | p :: P,w :: vs,0,m,nd,h1,h2,hk=>by
  simp at h1 h2;subst h1;subst h2
  show bindC kindOf ((p,w) :: P.zip vs) m p=_
  unfold bindC
  rw[gf λv hv=>(wq.mp nd).1 (xF hv).1,if_neg hk]
  simp
 | p :: P,w :: vs,i+1,m,nd,h1,h2,hk=>by
  show bindC kindOf ((p,w) :: P.zip vs) m x=_
  unfold bindC
  exact gh (i:=i) (wq.mp nd).2 (by simpa using h1) (by simpa using h2) hk
def start (N:List Str)(vs:List V):St:=vs.map some++vq (N.length-vs.length) none
def kP (CX:CXT)(P:rO)(w:sC)(K:rk)(mg:Str->Option rg)(base:Heap)(N:List Str)(qual:Str)(scope:Scope)(f:Addr)(cd:rg)(A:sR)(outer:List Env)(s:rj)(H:Hp)(E:XK):Cx where
 prog:=P
 w:=w
 K:=K
 mg:=mg
 base:=base
 A:=A.deeper (envOfC qual scope s.heap.objs.size f cd)
 N:=N
 s₀:=s
 H₀:=H
 env:=envOfC qual scope s.heap.objs.size f cd
 outer:=outer
 stack:=envOfC qual scope s.heap.objs.size f cd :: outer
 ex:=[]
 calm:=true
 fn:=λ_=>true
 pn:=[]
 xe:=λe s'=>rX (sh P w) (A.deeper (envOfC qual scope s.heap.objs.size f cd)) (leaving (envOfC qual scope s.heap.objs.size f cd) e) (λ_ s''=>CX outer H s E e s'') (λe' s''=>CX outer H s E e' s'') s'
theorem ik {sc:Scope}{n:Nat}{x:Str}(h:sc.names.lookup x=some .cell):∃c,(cellsFrom n sc.names []).lookup x=some c:=by
 have q:=xx sc.names n [] (.inl h)
 exact wR.mp q
theorem kQ {CX:CXT}{P:rO}{w:sC}{K:rk}{mg:Str->Option rg}{base:Heap}{N ps:List Str}{qual:Str}{scope:Scope}{f:Addr}{cd:rg}{A:sR}{outer:List Env}{s s1:rj}{H:Hp}{E:XK}{us:List rg}{vs:List V}
  (S:aJ N ps scope) (hd:A.handled=none) (e0:nD P w K mg base A outer s H) (hl:vs.length=ps.length) (r:Vals vs us)
  (x:InCallC s s.heap.objs.size (bindL (envOfC qual scope s.heap.objs.size f cd).kindOf (ps.zip us) λ_=>none) (cellsFrom (s.heap.objs.size+1) scope.names []) (bindC (envOfC qual scope s.heap.objs.size f cd).kindOf (ps.zip us) λ_=>none) s1) :
  Inv (kP CX P w K mg base N qual scope f cd A outer s H E) [] (start N vs) H s1:=by
 have hpl:ps.length<=N.length:=by have:=congrArg List.length S.pre;rw[sA] at this;omega
 obtain ⟨h1,tk,rfl,hk⟩:=x.done
 have noA:∀b:Addr,b∉(kP CX P w K mg base N qual scope f cd A outer s H E).ex:=λb z=>absurd (show b∈([]:List Addr) from z) (by simp)
 refine ⟨⟨e0.mod,S.kind,rfl,rfl,rA _,λy z c h1 h2 =>?_,λy hy =>?_,λy c _ h =>?_,λ_=>hd,Around.frames_deeper e0.frames,.inr ⟨rfl,rfl⟩,λb z=>absurd z (noA b),e0.bs,e0.bsz,λb _ _=>noA b,λb z=>absurd z (noA b),e0.funs,e0.frf⟩,
  rfl,e0.bare,Un.kept hk,⟨_,x.toInCall.ns,λi y v h1 h2 h3 =>?_⟩,λy c h=>⟨_,x.cell y c h⟩,e0.hok.fresh (rA _),λy c h =>?_,λp hp=>absurd (show p∈([]:List (Addr×Obj)) from hp) (by simp),e0.hok.kept hk,?_⟩
 ·exact name_of_addr x.apart (uy h1) (uy h2)
 ·have hy:scope.names.lookup y=some .cell\/scope.names.lookup y=some .free:=hy
  rcases hy with hy | hy
  ·exact ik hy
  ·exact absurd rfl (S.nofree _ (uy hy))
 ·exact vC (x.above y c (uy h))
 ·have hi:i<vs.length:=by
   unfold start at h2
   by_cases hi:i<vs.length
   ·exact hi
   ·rw[tY (by simpa using hi)] at h2
    rw[List.getElem?_replicate] at h2
    split at h2 <;> cases h2
  have ha:vs[i]? = some v:=by
   unfold start at h2
   rw[ud (by simpa using hi),sf] at h2
   cases e:vs[i]? with
   | none=>rw[e] at h2;cases h2
   | some a=>rw[e] at h2;cases h2;rfl
  obtain ⟨u,hu,rv⟩:=r.get ha
  have hp:ps[i]? = some y:=by
   rw[<- S.pre,wU (by omega)];exact h1
  have ndP:ps.Nodup:=by rw[<- S.pre];exact S.nd.sublist (sW _ _)
  refine ⟨u,rv,?_⟩
  rcases S.par y (rT hp) with k | k
  ·exact .inl ⟨k,gg ndP hp hu k⟩
  ·obtain ⟨c,e⟩:=ik (n:=s.heap.objs.size+1) k
   refine .inr ⟨.inl k,c,e,?_⟩
   have q:=x.cell y c e
   rw[gh ndP hp hu (by show scope.names.lookup y≠_;rw[k];decide)] at q
   exact q
 ·exact e0.hok.fresh (vC (x.above y c (uy h)))
 ·unfold start
  show _=N.length
  rw[rC,rn,List.length_replicate]
  omega
theorem qR {CX:CXT}{P:rO}{w:sC}{K:rk}{mg:Str->Option rg}{base:Heap}{k:Nat}{f:Addr}{name qual:Str}{params:Arguments}{body:List Stmt}{scope:Scope}{dV kV doc pm cdv ct oc:rg}{an od:Option Addr}
  {osl:Array (Option rg)} {N ps:List Str} {sp:Sp} (lk:K.lookup f=some ⟨oc,od,.func (PySem.W.fnOf name qual params body scope dV kV doc pm an cdv ct),osl⟩) (hcd:PySem.W.codeIn K cdv qual=true) (S:aJ N ps scope)
  (len:∀vs H Q E,sp vs H Q E->vs.length=ps.length)
  (hbody:∀(A:sR) (outer:List Env) (s:rj) (H:Hp) (vs:List V) (Q:VK) (E:XK),cg k (A.deeper (envOfC qual scope s.heap.objs.size f cdv))->sp vs H Q E →
   ∃t,PSs (kP CX P w K mg base N qual scope f cdv A outer s H E) body t/\t { nx:=λ_ H'=>Q .non H',rt:=Q } (start N vs) H) :
  bE P w K mg base CX (k+1) f (PySem.W.fnOf name qual params body scope dV kV doc pm an cdv ct) ps sp:=by
 refine ⟨len,λA outer s H args us vs Q E hr e0 hb r hsp =>?_⟩
 have hl:=len _ _ _ _ hsp
 have KX:K.In s.heap:=e0.mod.kin.keeps λb o e=>(e0.bs b o e).1
 have lim:s.heap.NoLimit:=e0.mod.nolimit.keeps λb o e=>(e0.bs b o e).1
 have hkind:∀y∈ps.zip us,scope.names.lookup y.1=some .local\/(scope.names.lookup y.1=some .cell/\((cellsFrom (s.heap.objs.size+1) scope.names []).lookup y.1).isSome=true):=λ⟨n,v⟩ hy=>by
  rcases S.par n (xF hy).1 with q | q
  ·exact .inl q
  ·exact .inr ⟨q,xx _ _ _ (.inl q)⟩
 refine codeAny_call_function hr.depth (KX _ _ lk) rfl S.co S.gen rfl (PySem.W.codeRec_of KX hcd) (hb _ _ _ _ ?_)
 refine wpAny_newFunctionEnv_cells S.kind hkind λenv he s1 x =>?_
 subst he
 refine ⟨lim.keeps x.toInCall.keep,codeAny_func ?_⟩
 obtain ⟨t,ht,hq⟩:=hbody A outer s H vs Q E (hr.deeper _) hsp
 have I:Inv (kP CX P w K mg base N qual scope f cdv A outer s H E) [] (start N vs) H s1:=kQ S hr.hd e0 hl r x
 refine vi (ht [] s1 (start N vs) H _ I hq) (λfl s' hs =>?_) λe s' hs=>hs
 have fin:∀{σ':St} {H':Hp} {v:V} {u:rg},Inv (kP CX P w K mg base N qual scope f cdv A outer s H E) [] σ' H' s'->RelV v u->Q v H'->CE outer P w H s Q u s' :=
  λ{σ' H' v u} J rv q=>⟨v,H',J.os,J.bare,J.base,J.hok,rv,q⟩
 cases fl with
 | ret u =>
  obtain ⟨v,σ',H',J,rv,q⟩:=hs
  exact fin J rv q
 | next =>
  obtain ⟨σ',H',J,q⟩:=hs
  exact fin (v:=V.non) (u:=tX) J rfl q
 | brk =>
  obtain ⟨_,_,_,q⟩:=hs
  exact False.elim q
 | cont =>
  obtain ⟨_,_,_,q⟩:=hs
  exact False.elim q
open PySem PySem.Spec PyProof.Rows
section
variable  {X:Cx}{x:Str}{p pos:Pos}{e:Expr}{es:List Expr}{t:TA}{id T:String}{r:List V->Hp->VK->Prop}
def tCB (r:List V->Hp->VK->Prop)(t:TA):TE:=λσ H Q=>t σ H λvs H1=>r vs H1 Q
theorem av (hc:bG X (.builtin id) r)(hg:Gl X x)(hm:X.mg x=none)(hv:sO x=some (.builtin id))(ha:PA X (e :: es) t)(hn:x ≠ "__name__" := by decide)(hdb:(x == ("__debug__" : Str))=false:=by decide)
  (he:sU (e :: es) X.env=(false,eval e X.env) :: sU es X.env:=by rfl) (hpl:(xw pos (sU es X.env)).any (·.1)=false:=by rfl):PE X (.Call (.Name x p) (e :: es) [] pos) (tCB r t):=by
 intro pins s σ H Q I h
 refine vO (eN I hg hm hv ?_ hn hdb)
 exact PyProof.Rows.callWith_builtin1 (thn (ha pos pins s σ H _ I h) λus s1 ⟨vs,H1,I1,r1,q1⟩=>hc pins s1 σ H1 vs us Q I1 r1 q1) he hpl
theorem aX (hc:bG X (.type T) r)(hg:Gl X x)(hm:X.mg x=none)(hv:sO x=some (.type T))(ha:PA X (e :: es) t)(hn:x ≠ "__name__" := by decide)(hdb:(x == ("__debug__" : Str))=false:=by decide)
  (he:sU (e :: es) X.env=(false,eval e X.env) :: sU es X.env:=by rfl) (hpl:(xw pos (sU es X.env)).any (·.1)=false:=by rfl):PE X (.Call (.Name x p) (e :: es) [] pos) (tCB r t):=by
 intro pins s σ H Q I h
 refine vO (eN I hg hm hv ?_ hn hdb)
 exact va (thn (ha pos pins s σ H _ I h) λus s1 ⟨vs,H1,I1,r1,q1⟩=>hc pins s1 σ H1 vs us Q I1 r1 q1) he hpl
end
end L2
namespace HT
open PySem PyProof.Rows
def lexLt:List Int->List Int->Bool
 | [],[]=>false
 | [],_ :: _=>true
 | _ :: _,[]=>false
 | x :: xs,y :: ys=>if x=y then lexLt xs ys else decide (x<y)
theorem bq (x y:Int)(xs ys:List Int):lexLt (x :: xs) (y :: ys)=if x=y then lexLt xs ys else decide (x<y):=rfl
theorem fQ:lexLt [] []=false:=rfl
theorem eX (y:Int)(ys:List Int):lexLt [] (y :: ys)=true:=rfl
theorem eY (x:Int)(xs:List Int):lexLt (x :: xs) []=false:=rfl
theorem il (A:sR)(s:rj)(a:Int)(t:Tok)(c:Int)(u:Tok):∃e,SeqAt.EqAt A s (.int a t) (.int c u) e/\(e=true↔a=c) :=
 ⟨(a == c),SeqAt.EqAt.int_int a t c u,by simp⟩
theorem ip (A:sR)(s:rj)(a:Int)(t:Tok)(c:Int)(u:Tok)(prog:rO)(w:sC)(E:rg->rj->Prop)(Q:rg->rj->Prop)(h:Q (.bool (decide (a<c))) s) :
  rX (sh prog w) A (richCompare .Lt (.int a t) (.int c u)) Q E s :=
 (PyProof.Rows.lt_int h:rX (sh prog w) A (uA .Lt (.int a t) (.int c u)) Q E s)
section
open PySem.SeqAt
open PySem.AutoSeq1 (wpAny_loadPart')
open PySem.MeetsSeq PySem.MeetsSeq2 PySem.MeetsSeq3
theorem fR (l b:Addr)(items items2:Array rg)(n n2:Nat)(dd dd2:Option Addr)(sl sl2:Array (Option rg))(ns ms:List Int)(hi:uc items.toList ns)(hj:uc items2.toList ms) :
  Meets (Builtin.«tuple.__lt__» ⟨[.ref l,.ref b],[]⟩)
   (λ_ R s=>s.heap.get? l=some { cls :=.type "tuple",dict:=dd,data :=.seq items n,slots:=sl }/\s.heap.get? b=some { cls :=.type "tuple",dict:=dd2,data :=.seq items2 n2,slots:=sl2 } ∧
    R (.ok (.ret (.bool (lexLt ns ms)))) s) :=
 .of_wp λprog w A R s h=>by
  obtain ⟨hp,g,d,tk,os⟩:=s;obtain ⟨hl,hb,h⟩:=h
  have f2:=wV
  have z1:items.size=ns.length:=by rw[<- hi.length];simp
  have z2:items2.size=ms.length:=by rw[<- hj.length];simp
  wp_walk using wpAny_loadPart' hl,wpAny_loadPart' hb,vx _ (λrest b s'=>b.1=none/\s'=⟨hp,g,d,tk,os⟩/\∃(vs ws:List rg) (ns' ms':List Int),rest=vs.zip ws ∧
   uc vs ns'/\uc ws ms'/\ns'.length+items2.size=ms'.length+items.size/\R (.ok (.ret (.bool (lexLt ns' ms')))) ⟨hp,g,d,tk,os⟩) _
  case turn =>
   rintro ⟨y,x⟩ rest b s' ⟨hb',rfl,vs,ws,ns',ms',hz,hvi,hwi,hlen,hR⟩
   cases hvi with
   | nil=>rw[yx] at hz;cases hz
   | cons a t hvi' =>
    cases hwi with
    | nil=>rw[yl] at hz;cases hz
    | cons c u hwi' =>
     rw[uI] at hz
     injection hz with hyx hrest
     injection hyx with hy hx
     subst hy hx
     rw[bq] at hR
     simp only[rL] at hlen
     obtain ⟨e,he,hiff⟩:=il A.in1 ⟨hp,g,d,tk,os⟩ a t c u
     refine rd (he prog w _ _ ?_)
     cases e with
     | true =>
      rw[if_pos (hiff.mp rfl)] at hR
      wp_walk
      exact ⟨rfl,rfl,_,_,_,_,hrest,hvi',hwi',by omega,hR⟩
     | false =>
      rw[if_neg (λq=>absurd (hiff.mpr q) rR)] at hR
      have hri:=ip A.in1 ⟨hp,g,d,tk,os⟩ a t c u prog w
      wp_walk using hri
      exact ⟨_,rfl,by simpa using hR⟩
  case fin =>
   rintro ⟨b1,b2⟩ s' ⟨hb',rfl,vs,ws,ns',ms',hz,hvi,hwi,hlen,hR⟩
   simp only at hb'
   subst hb'
   have hv:lexLt ns' ms'=decide (items.size<items2.size):=by
    cases hvi with
    | nil =>
     cases hwi with
     | nil =>
      simp only[uh] at hlen
      rw[fQ]
      exact (decide_eq_false (by omega)).symm
     | cons c u hw =>
      simp only[uh,rL] at hlen
      rw[eX]
      exact (decide_eq_true (by omega)).symm
    | cons a t hv =>
     cases hwi with
     | nil =>
      simp only[uh,rL] at hlen
      rw[eY]
      exact (decide_eq_false (by omega)).symm
     | cons c u hw =>
      rw[uI] at hz
      cases hz
   rw[hv] at hR
   wp_walk
   exact ⟨_,rfl,by simpa [Builtin.Tuple.tupleCompareSizes] using hR⟩
  case h =>
   exact ⟨rfl,rfl,items.toList,items2.toList,ns,ms,rfl,hi,hj,by omega,h⟩
end
section
variable  {prog:rO}{w:sC}{A:sR}{E:rg->rj->Prop}{s:rj}
theorem i4 {l b:Addr}{items items2:Array rg}{ns ms:List Int}{Q:rg->rj->Prop}(hl:IsTup s.heap l items)(hb:IsTup s.heap b items2)(hi:uc items.toList ns)(hj:uc items2.toList ms)
  (hu:A.units<cLine) (h:Q (.bool (lexLt ns ms)) s):rX (sh prog w) A (uA .Lt (.ref l) (.ref b)) Q E s:=by
 obtain ⟨⟨cls,dd,data,sl⟩,ho,hc,n,hd⟩:=id hl
 obtain ⟨⟨cls2,dd2,data2,sl2⟩,ho2,hc2,n2,hd2⟩:=id hb
 simp only at hc hd hc2 hd2
 subst hc hd hc2 hd2
 exact xC (op :=.Lt) ⟨_,ho,rfl⟩ ⟨_,ho2,rfl⟩ PySem.F.slot_tuple_lt PySem.F.entry_tuple_lt (PySem.F.args_tuple_lt_2 _ _) (fR l b items items2 n n2 dd dd2 sl sl2 ns ms hi hj)
  ⟨ho,ho2,show Value.bool (lexLt ns ms)≠Value.notImplemented/\Q (.bool (lexLt ns ms)) s from ⟨(λx=>nomatch x),h⟩⟩ hu
def sIx (n d:Nat):Option Int->Nat
 | none=>d
 | some v=>if v<0 then (v+(n:Int)).toNat else min v.toNat n
end
end HT
namespace L2
open PySem PySem.Spec PyProof.Rows
abbrev TO:=St->Hp->(Option Int->Hp->Prop)->Prop
def PO (X:Cx)(e:Option Expr)(t:TO):Prop :=
 ∀(pins:List (Addr×Obj)) (s:rj) (σ:St) (H:Hp) (Q:Option Int->Hp->Prop),Inv X pins σ H s->t σ H Q →
  rX (sh X.prog X.w) X.A (evalPart e X.env) (λu s'=>∃o H',Inv X pins σ H' s'/\IsPart u o/\Q o H') X.xe s
def nF:TO:=λ_ H Q=>Q none H
def qS (t:TE):TO:=λσ H Q=>t σ H λx H1=>∃i,x = .int i/\Q (some i) H1
theorem intsAre_of {ns:List Int}:∀{us:List rg},Vals (ns.map V.int) us->uc us ns:=by
 induction ns with
 | nil=>intro us r;rw[zw] at r;cases r;exact .nil
 | cons n ns ih =>
  intro us r
  rw[sI] at r
  cases r with
  | cons r1 r2 =>
   obtain ⟨t,e⟩:=r1
   subst e
   exact .cons n t (ih r2)
section
variable  {X:Cx}{e:Expr}{te:TE}{lo hi:Option Expr}{tl th:TO}{pos p2:Pos}
theorem jU:PO X none nF:=by
 intro pins s σ H Q I h
 rw[evalPart_none]
 exact rp ⟨none,H,I,.none,h⟩
theorem jV (h:PE X e te):PO X (some e) (qS te):=by
 intro pins s σ H Q I hw
 rw[evalPart_some]
 refine thn (h pins s σ H _ I hw) λu s1 ⟨x,H1,I1,r1,q1⟩ =>?_
 obtain ⟨i,rfl,q⟩:=q1
 obtain ⟨t,rfl⟩:=r1
 exact ⟨some i,H1,I1,.int i t,q⟩
def SlR (X:Cx)(r:V->Option Int->Option Int->Hp->VK->Prop):Prop :=
 ∀(pins:List (Addr×Obj)) (s:rj) (σ:St) (H:Hp) (x:V) (v vl vu:rg) (lo hi:Option Int) (sl:Addr) (Q:VK),Inv X pins σ H s->RelV x v->s.heap.IsSliceOf sl vl vu .none->IsPart vl lo->IsPart vu hi->r x lo hi H Q →
  ∃T id,typeLookup (.type T) "__getitem__" = pure (some (.builtin id))/\s.TypeIs v T/\rX (sh X.prog X.w) X.A (getItem v (.ref sl)) (EP X pins σ Q) X.xe s
def tSl (r:V->Option Int->Option Int->Hp->VK->Prop)(te:TE)(tl th:TO):TE:=λσ H Q=>te σ H λx H1=>tl σ H1 λl H2=>th σ H2 λu H3=>r x l u H3 Q
theorem iq {r:V->Option Int->Option Int->Hp->VK->Prop}(hr:SlR X r)(he:PE X e te)(hl:PO X lo tl)(hu:PO X hi th):PE X (.Subscript e (.Slice lo hi none p2) pos) (tSl r te tl th):=by
 intro pins s σ H Q I h
 refine Subscript_ (thn (he pins s σ H _ I h) λv s1 ⟨x,H1,I1,r1,q1⟩ =>?_)
 refine wpAny_Slice (thn (hl pins s1 σ H1 _ I1 q1) λvl s2 ⟨l,H2,I2,pl,q2⟩=>thn (hu pins s2 σ H2 _ I2 q2) λvu s3 ⟨u,H3,I3,pu,q3⟩ =>?_)
 rw[evalPart_none]
 refine rp ?_
 have I4:Inv X pins σ H3 { s3 with heap:=s3.heap.push { cls :=.type "slice",data :=.fields #[vl,vu,.none] } }:=I3.kept (t':=s3.toks) λb ob q=>rf _ q
 obtain ⟨T,id,hT,ht,hg⟩:=hr pins { s3 with heap:=s3.heap.push { cls :=.type "slice",data :=.fields #[vl,vu,.none] } } σ H3 x v vl vu l u s3.heap.objs.size Q I4 r1 (zA ..) pl pu q3
 show rX (sh X.prog X.w) X.A (subscriptTail e (.Slice lo hi none p2) v (.ref s3.heap.objs.size)) (EP X pins σ Q) X.xe { s3 with heap:=s3.heap.push { cls :=.type "slice",data :=.fields #[vl,vu,.none] } }
 exact tail_any (ops:=[.ref s3.heap.objs.size,v]) ht hT hg (by with_unfolding_all rfl)
def gK (xs:List V)(lo hi:Option Int):List V:=(xs.drop (HT.sIx xs.length 0 lo)).take (HT.sIx xs.length xs.length hi-HT.sIx xs.length 0 lo)
theorem ir (xs:List V)(lo hi:Option Int):(gK xs lo hi).length<=xs.length:=by
 unfold gK
 rw[sA,uE]
 omega
def rLtT (K:rk):R2:=λx y H Q=>∃a b ns ms,x = .ref a/\y = .ref b/\SqT K H a (ns.map V.int)/\SqT K H b (ms.map V.int)/\Q (.bl (HT.lexLt ns ms)) H
theorem pV (hu:X.A.units<cLine):OpR X (uA .Lt) (rLtT X.K):=by
 intro pins s σ H x y v u Q I rx ry h
 obtain ⟨a,b,ns,ms,rfl,rfl,ha,hb,q⟩:=h
 cases rx
 cases ry
 obtain ⟨its,r1,p1,_⟩:=I.tuple ha
 obtain ⟨its2,r2,p2,_⟩:=I.tuple hb
 have i1:uc its.toArray.toList ns:=intsAre_of r1
 have i2:uc its2.toArray.toList ms:=intsAre_of r2
 exact HT.i4 p1 p2 i1 i2 hu ⟨.bl (HT.lexLt ns ms),H,I,rfl,q⟩
end
open PySem PySem.Spec PyProof.Rows
def ixN (n:Nat)(i:Int):Option Nat:=if 0<=i then (if i<n then some i.toNat else none) else if -(n:Int)<=i then some (i+n).toNat else none
def atI {α:Type}(xs:List α)(i:Int):Option α:=(ixN xs.length i).bind λj=>xs[j]?
theorem jW {n:Nat}{i:Int}{j:Nat}(h:ixN n i=some j):seqIndex? i n=some j/\j<n /\ -(n:Int)<=i/\i<n:=by
 unfold ixN at h
 by_cases h0:0<=i
 ·rw[if_pos h0] at h
  by_cases h1:i<n
  ·rw[if_pos h1] at h
   have e:i.toNat=j:=r9 h
   exact ⟨by rw[yZ h0 h1,e],by omega,by omega,h1⟩
  ·rw[if_neg h1] at h;cases h
 ·rw[if_neg h0] at h
  by_cases h1 : -(n:Int)<=i
  ·rw[if_pos h1] at h
   have e:(i+n).toNat=j:=r9 h
   exact ⟨by rw[yG (by omega) h1,e],by omega,h1,by omega⟩
  ·rw[if_neg h1] at h;cases h
theorem jX {α:Type}{xs:List α}{i:Int}{v:α}(h:atI xs i=some v):∃j,seqIndex? i xs.length=some j/\xs[j]? = some v/\j<xs.length /\ -(xs.length:Int)<=i/\i<xs.length:=by
 unfold atI at h
 cases e:ixN xs.length i with
 | none=>rw[e] at h;cases h
 | some j =>
  rw[e] at h
  obtain ⟨h1,h2,h3,h4⟩:=jW e
  exact ⟨j,h1,h,h2,h3,h4⟩
theorem jY {α:Type}{xs:List α}{j:Nat}{v:α}(h:xs[j]? = some v):atI xs (j:Int)=some v:=by
 have hj:j<xs.length:=(rE.mp h).1
 have e:ixN xs.length (j:Int)=some j:=by
  unfold ixN
  rw[if_pos (by omega),if_pos (by omega)];simp
 unfold atI;rw[e];exact h
theorem ml {α:Type}(xs:List α)(v:α):atI (xs++[v]) (-1)=some v:=by
 have hl:(xs++[v]).length=xs.length+1:=by simp
 have e:ixN (xs++[v]).length (-1)=some xs.length:=by
  unfold ixN
  rw[hl,if_neg (by decide),if_pos (by omega)]
  congr 1
  omega
 unfold atI
 rw[e]
 show (xs++[v])[xs.length]? = some v
 simp
def nG (b:Expr):Prop:=∀o i,subscripted b false o i=operate [o,i] (getItem o i)
def IxR (X:Cx)(r:R2):Prop :=
 ∀(value slice:Expr) (pins:List (Addr×Obj)) (s:rj) (σ:St) (H:Hp) (x y:V) (v u:rg) (Q:VK),Inv X pins σ H s->RelV x v->RelV y u->r x y H Q →
  subscripted slice false v u=operate [v,u] (getItem v u)->rX (sh X.prog X.w) X.A (subscriptTail value slice v u) (EP X pins σ Q) X.xe s
def MtR (X:Cx)(id:String)(r:V->List V->Hp->VK->Prop):Prop :=
 ∀(pins:List (Addr×Obj)) (s:rj) (σ:St) (H:Hp) (x:V) (xs:List V) (v:rg) (us:List rg) (Q:VK),Inv X pins σ H s->RelV x v->Vals xs us->r x xs H Q →
  rX (sh X.prog X.w) X.A (call (.builtin id) (v :: us)) (EP X pins σ Q) X.xe s
section
variable  {X:Cx}{a b:Expr}{ta tb:TE}{pos:Pos}
theorem bH {r:R2}(hr:IxR X r)(ha:PE X a ta)(hb:PE X b tb)(hs:nG b):PE X (.Subscript a b pos) (tOp r ta tb):=by
 intro pins s σ H Q I h
 exact Subscript_ (pR ha hb I h λv u s2 x y H2 I2 rx ry q=>hr a b pins s2 σ H2 x y v u Q I2 rx ry q (hs _ _))
def rIxL (K:rk):R2:=λx y H Q=>∃p xs i v,x = .ref p/\y = .int i/\SqL K H p xs/\atI xs i=some v/\Q v H
def rIxT (K:rk):R2:=λx y H Q=>∃p xs i v,x = .ref p/\y = .int i/\SqT K H p xs/\atI xs i=some v/\Q v H
theorem bX:IxR X (rIxL X.K):=by
 intro value slice pins s σ H x y v u Q I rx ry h hs
 obtain ⟨p,xs,i,z,rfl,rfl,hq,he,q⟩:=h
 cases rx
 obtain ⟨t,rfl⟩:=ry
 obtain ⟨its,r,pl,hz⟩:=I.list hq
 obtain ⟨j,h1,h2,h3,h4,h5⟩:=jX he
 obtain ⟨w,ew,rw'⟩:=r.get h2
 have hl:=r.length
 have hn:=eU
 have fin:EP X pins σ Q w s:=⟨z,H,I,rw',q⟩
 by_cases h0:0<=i
 ·have hj:i.toNat=j:=by
   rw[yZ h0 h5] at h1
   exact r9 h1
  exact item_listR pl.isList h0 (by omega) (by rw[hj];simpa using ew) fin hs
 ·have hj:(i+(its.toArray.size:Int)).toNat=j:=by
   rw[yG (by omega) h4] at h1
   rw[rW, <- hl]
   exact r9 h1
  exact xD (x:=w) pl.isList.typeIs slot_list_getitem.lookup
   (wpAny_getItem_list_neg (Q:=λr s'=>r=w/\EP X pins σ Q r s') pl.isList (by omega) (by rw[rW] <;> omega) (by omega) (by rw[hj];simpa using ew) ⟨rfl,fin⟩) hs
theorem bY:IxR X (rIxT X.K):=by
 intro value slice pins s σ H x y v u Q I rx ry h hs
 obtain ⟨p,xs,i,z,rfl,rfl,hq,he,q⟩:=h
 cases rx
 obtain ⟨t,rfl⟩:=ry
 obtain ⟨its,r,pl,hz⟩:=I.tuple hq
 obtain ⟨j,h1,h2,h3,h4,h5⟩:=jX he
 obtain ⟨w,ew,rw'⟩:=r.get h2
 have hl:=r.length
 have hn:=eU
 have fin:EP X pins σ Q w s:=⟨z,H,I,rw',q⟩
 exact xD (x:=w) pl.typeIs slot_tuple_getitem.lookup
  (getItem_tuple (j:=j) (Q:=λr s'=>r=w/\EP X pins σ Q r s') pl (by omega) (by omega) (by rw[rW, <- hl];exact h1) (by simpa using ew) ⟨rfl,fin⟩) hs
theorem i5 (its:List rg)(n j:Nat)(u:rg):uH (·.setIfInBounds j u) { cls :=.type "list",data :=.seq its.toArray n }={ cls :=.type "list",data :=.seq (its.set j u).toArray n }:=by
 simp[uH]
theorem Inv.lst {pins:List (Addr×Obj)}{σ:St}{H:Hp}{s:rj}{p:Addr}{xs:List V}(I:Inv X pins σ H s)(h:H p=some (.lst xs)) :
  ∃(its:List rg) (n:Nat),Vals xs its/\s.heap.get? p=some { cls :=.type "list",data :=.seq its.toArray n }/\xs.length<=rN:=by
 obtain ⟨z,its,n,r,e⟩:=I.hok p _ h
 exact ⟨its,n,r,e,z⟩
theorem Inv.pW {pins:List (Addr×Obj)}{σ:St}{H:Hp}{s:rj}{p:Addr}{xs ys:List V}{its its':List rg}{n n':Nat}{f:Obj->Obj}(I:Inv X pins σ H s)(h:H p=some (.lst xs))
  (ho:s.heap.get? p=some { cls :=.type "list",data :=.seq its.toArray n }) (hf:f { cls :=.type "list",data :=.seq its.toArray n }={ cls :=.type "list",data :=.seq its'.toArray n' }) (r:Vals ys its') (hz:ys.length<=rN) (t:Nat) :
  Inv X pins σ (upd H p (.lst ys)) { s with heap:=s.heap.update p f,toks:=t }:=by
 have e:(s.heap.update p f).get? p=some { cls :=.type "list",data :=.seq its'.toArray n' }:=by
  rw[ui f ho (by rw[hf] <;> rfl),hf]
 refine I.write (x:=p) (e:=p) (by rw[h];trivial) (.inl rfl) (λb u hb q=>(tH _ _ (vy hb)).trans q) ⟨_,e⟩ ?_
 exact ⟨hz,its',n',r,e⟩
def qT:V->V->V->Hp->(Hp->Prop)->Prop:=λo i v H Q=>∃p xs k j,o = .ref p/\i = .int k/\H p=some (.lst xs)/\ixN xs.length k=some j/\Q (upd H p (.lst (xs.set j v)))
theorem set_list:qF X qT:=by
 intro pins s σ H o i v ov iv u Q I ro ri rv h
 obtain ⟨p,xs,k,j,rfl,rfl,hp,hj,q⟩:=h
 cases ro
 obtain ⟨t,rfl⟩:=ri
 obtain ⟨its,n,r,ho,hz⟩:=I.lst hp
 obtain ⟨h1,h2,h3,h4⟩:=jW hj
 have hl:=r.length
 have hn:=eU
 have I':Inv X pins σ (upd H p (.lst (xs.set j v))) { s with heap:=s.heap.update p (uH (·.setIfInBounds j u)) } :=
  I.pW hp ho (i5 its n j u) (r.set rv j) (by rw[List.length_set];exact hz) s.toks
 by_cases h0:0<=k
 ·have hk:k.toNat=j:=by
   rw[yZ h0 h4] at h1
   exact r9 h1
  exact PySem.W.ki_setAt ho h0 (by omega) (by rw[rW, <- hl];exact h4) (by rw[hk];exact ⟨_,I',q⟩)
 ·have hk:(k+(its.toArray.size:Int)).toNat=j:=by
   rw[yG (by omega) h3] at h1
   rw[rW, <- hl]
   exact r9 h1
  exact PySem.W.ki_setBack ho (by omega) (by rw[rW, <- hl];exact h3) (by omega) (by rw[hk];exact ⟨_,I',q⟩)
theorem gL (lo hi:Option Int)(n:Nat):(sliceBounds lo hi none n).1=((HT.sIx n 0 lo:Nat):Int)/\(sliceBounds lo hi none n).2.1=((HT.sIx n n hi:Nat):Int)/\(sliceBounds lo hi none n).2.2=1:=by
 refine ⟨?_,?_,rfl⟩
 ·cases lo with
  | none=>simp[sliceBounds,HT.sIx]
  | some i =>
   simp only[sliceBounds,HT.sIx,yK,show (1:Int)>0 by decide,if_true]
   by_cases h:i<0
   ·simp only[h,if_true] <;> omega
   ·simp only[h,if_false] <;> omega
 ·cases hi with
  | none=>simp[sliceBounds,HT.sIx]
  | some i =>
   simp only[sliceBounds,HT.sIx,yK,show (1:Int)>0 by decide,if_true]
   by_cases h:i<0
   ·simp only[h,if_true] <;> omega
   ·simp only[h,if_false] <;> omega
theorem fS (its:List rg)(lo hi:Option Int):slicePick its.toArray lo hi none=((its.drop (HT.sIx its.length 0 lo)).take (HT.sIx its.length its.length hi-HT.sIx its.length 0 lo)).toArray:=by
 obtain ⟨h1,h2,h3⟩:=gL lo hi its.toArray.size
 unfold slicePick
 rw[h1,h2,h3]
 simp only[sliceRange_one,pick_run,rW] <;> rfl
def rSlL (K:rk):V->Option Int->Option Int->Hp->VK->Prop:=λx lo hi H Q=>∃a xs,x = .ref a/\SqL K H a xs/\∀p,H p=none->Q (.ref p) (upd H p (.lst (gK xs lo hi)))
theorem jZ:SlR X (rSlL X.K):=by
 intro pins s σ H x v vl vu lo hi sl Q I rx hs pl pu h
 obtain ⟨a,xs,rfl,hx,q⟩:=h
 cases rx
 obtain ⟨its,r,ht,hz⟩:=I.list hx
 have hlen:=r.length
 refine ⟨"list",_,slot_list_getitem.lookup,ht.isList.typeIs,?_⟩
 refine wpAny_getItem_list_slice ht.isList hs pl pu .none (by simp) ?_ (by rw[rW] <;> omega)
 rw[fS, <- hlen]
 refine ⟨.ref s.heap.objs.size,_,I.laid (t':=s.toks) (o :=.lst (gK xs lo hi)) (λb ob q=>rf _ q) (rA _) ?_,rfl,q _ (I.hok.fresh (rA _))⟩
 exact ⟨su (ir xs lo hi) hz,_,0,(r.drop (HT.sIx xs.length 0 lo)).take (HT.sIx xs.length xs.length hi-HT.sIx xs.length 0 lo),rz _ rfl⟩
theorem ba:bG X (.builtin "len") (λxs H Q=>∃p ys,xs=[.ref p]/\(SqL X.K H p ys\/SqT X.K H p ys)/\Q (.int ys.length) H):=by
 intro pins s σ H xs us Q I r h
 obtain ⟨p,ys,rfl,hq,q⟩:=h
 obtain ⟨u,rfl,rx⟩:=vals1 r
 cases rx
 have hn:=eU
 rcases hq with hq | hq
 ·obtain ⟨its,r',pl,hz⟩:=I.list hq
  have hlen:=r'.length
  exact Calls.call_len_list pl.isList (by simp only[rW] <;> omega) ⟨.int ys.length,H,I.tok _,⟨s.toks+1,by rw[rW,hlen]⟩,q⟩
 ·obtain ⟨its,r',pl,hz⟩:=I.tuple hq
  have hlen:=r'.length
  exact len_tuple pl (by simp only[rW] <;> omega) ⟨.int ys.length,H,I.tok _,⟨s.toks+1,by rw[rW,hlen]⟩,q⟩
theorem dw:bG X (.builtin "len") (λxs H Q=>∃z,xs=[.str z]/\z.length<=rN/\Q (.int z.length) H):=by
 intro pins s σ H xs us Q I r h
 obtain ⟨z,rfl,hz,q⟩:=h
 obtain ⟨u,rfl,t,rfl⟩:=vals1 r
 have hn:=eU
 exact len_str (by omega) ⟨.int z.length,H,I.tok _,⟨_,rfl⟩,q⟩
theorem bZ:bG X (.type "tuple") (λxs H Q=>∃p ys,xs=[.ref p]/\((SqL X.K H p ys/\∀l,H l=none->Q (.ref l) (upd H l (.tup ys)))\/(SqT X.K H p ys/\Q (.ref p) H))):=by
 intro pins s σ H xs us Q I r h
 obtain ⟨p,ys,rfl,h⟩:=h
 obtain ⟨u,rfl,rx⟩:=vals1 r
 cases rx
 rcases h with ⟨hq,q⟩ | ⟨hq,q⟩
 ·obtain ⟨its,r',pl,hz⟩:=I.list hq
  have hlen:=r'.length
  refine call_tuple_list pl.isList (λh' kp =>?_) (by simp only[rW] <;> omega)
  have I1:Inv X pins σ H { s with heap:=h' }:=I.kept (t':=s.toks) kp
  have I2:Inv X pins σ (upd H h'.objs.size (.tup ys)) { s with heap:=h'.push { cls :=.type "tuple",data :=.seq its.toArray } } :=
   I1.laid (t':=s.toks) (λb o e=>rf _ e) (rA _) (show aR X.prog X.w _ _ _ (.tup ys) from ⟨hz,its,r',de.new _ _⟩)
  exact ⟨.ref h'.objs.size,_,I2,rfl,q _ (I1.hok.fresh (rA _))⟩
 ·obtain ⟨its,r',pl,hz⟩:=I.tuple hq
  exact call_tuple_same pl ⟨.ref p,H,I,rfl,q⟩
def tyV (K:rk)(T:String)(x:V)(H:Hp):Prop:=match x with
 | .str _=>T = "str"
 | .int _=>T = "int"
 | .ref p=>(T = "list" /\ ∃xs,SqL K H p xs)\/(T = "tuple" /\ ∃o,K.lookup p=some o/\o.cls = .type "tuple" /\ o.dict=none) ∨
   (T = "dict" /\ ((∃kvs,H p=some (.dK kvs))\/∃kvs,H p=some (.dT kvs)))\/(T = "set" /\ ∃S n,H p=some (.set S n))
 | _=>False
theorem pX {pins:List (Addr×Obj)}{σ:St}{H:Hp}{s:rj}{T:String}{x:V}{v:rg}(I:Inv X pins σ H s)(r:RelV x v)(ty:tyV X.K T x H) :
  s.TypeIs v T/\∀a,v = .ref a->∃ob,s.heap.get? a=some ob/\ob.dict=none:=by
 cases x with
 | str z =>
  obtain ⟨t,rfl⟩:=r
  cases (show T = "str" from ty)
  exact ⟨w5 s z t,λ_ e=>nomatch e⟩
 | int i =>
  obtain ⟨t,rfl⟩:=r
  cases (show T = "int" from ty)
  exact ⟨typeIs_int s i t,λ_ e=>nomatch e⟩
 | ref p =>
  cases r
  rcases ty with ⟨rfl,xs,hq⟩ | ⟨rfl,o,hk,hc,hd⟩ | ⟨rfl,hk⟩ | ⟨rfl,S,n,hk⟩
  ·obtain ⟨its,_,pl,_⟩:=I.list hq
   refine ⟨pl.isList.typeIs,λa e =>?_⟩
   cases e
   obtain ⟨o,n,e,c,hd,_⟩:=pl
   exact ⟨o,e,hd⟩
  ·refine ⟨⟨o,I.kIn p o hk,hc⟩,λa e =>?_⟩
   cases e
   exact ⟨o,I.kIn _ o hk,hd⟩
  ·have z:∃o,s.heap.get? p=some o/\o.ExactDict:=by
    rcases hk with ⟨kvs,hk⟩ | ⟨kvs,hk⟩
    ·obtain ⟨_,_,_,_,o,_,_,e,ex,_⟩:=I.hok p _ hk
     exact ⟨o,e,ex⟩
    ·obtain ⟨_,_,_,_,o,_,_,e,ex,_⟩:=I.hok p _ hk
     exact ⟨o,e,ex⟩
   obtain ⟨o,e,ex⟩:=z
   refine ⟨⟨o,e,ex.1⟩,λa e2 =>?_⟩
   cases e2
   exact ⟨o,e,ex.2.1⟩
  ·obtain ⟨o,_,_,_,e,ex,_⟩:=I.hok p _ hk
   refine ⟨⟨o,e,ex.1⟩,λa e2 =>?_⟩
   cases e2
   exact ⟨o,e,ex.2.1⟩
 | _=>exact False.elim ty
def tBM (K:rk)(T:String)(r:V->List V->Hp->VK->Prop)(to:TE)(t:TA):TE:=λσ H Q=>to σ H λx H1=>tyV K T x H1/\t σ H1 λxs H2=>r x xs H2 Q
variable  {o e:Expr}{es:List Expr}{to:TE}{t:TA}{name:Str}{apos cpos:Pos}{T id:String}{r:V->List V->Hp->VK->Prop}
theorem j0 (pa:PlainAttrs T)(slot:Slot T name id)(hty:typeOf (.builtin id)=pure (.type "method_descriptor"))(hm:MtR X id r)(ho:PE X o to)(ha:PA X (e :: es) t)
  (hbase:attributeBase o name X.env (eval o X.env)=eval o X.env:=by rfl)
  (hfew:((xw cpos (sU (e :: es) X.env)).all (λx => !x.1) && (backToKw cpos (keywordEach [] X.env)).all (λx=>x.1.isSome)
   && decide ((e :: es).length+([]:List Keyword).length+(if ([]:List Keyword).isEmpty then 0 else 1)<30))=true:=by rfl)
  (hline:(apos.endLine == cpos.line)=true:=by rfl) (hs:sU (e :: es) X.env=(false,eval e X.env) :: sU es X.env:=by rfl) (hplain:(xw cpos (sU es X.env)).any (·.1)=false:=by rfl) :
  PE X (.Call (.Attribute o name apos) (e :: es) [] cpos) (tBM X.K T r to t):=by
 intro pins s σ H Q I h
 refine xE hbase hfew hline rfl (thn (ho pins s σ H _ I h) λv s1 ⟨x,H1,I1,r1,ty,q1⟩ =>?_)
 obtain ⟨h1,h2⟩:=pX I1 r1 ty
 refine ⟨T,id,pa,slot,hty,h1,h2,?_⟩
 have hA:=ha cpos pins s1 σ H1 _ I1 q1
 rw[hs] at hA ⊢
 refine xy (by show (false || (xw cpos (sU es X.env)).any (·.1))=false;rw[hplain] <;> rfl) (x4 ?_)
 exact thn hA λus s2 ⟨vs,H2,I2,r2,q2⟩=>hm pins s2 σ H2 x vs v us Q I2 r1 r2 q2
end
open PySem PySem.Spec PyProof.Rows
def MtM (X:Cx)(id:String)(r:V->List V->Hp->VK->Prop):Prop :=
 ∀(pins:List (Addr×Obj)) (s:rj) (σ:St) (H:Hp) (x:V) (xs:List V) (v:rg) (us:List rg) (Q:VK),Inv X pins σ H s->RelV x v->Vals xs us->r x xs H Q →
  rX (sh X.prog X.w) X.A (call (.builtin id) (v :: us)) (EP X pins σ Q) X.xe s
theorem Vals.one:∀{x:V} {us:List rg},Vals [x] us->∃u,us=[u]/\RelV x u
 | _,_,.cons r .nil=>⟨_,rfl,r⟩
section
variable  {X:Cx}{pins:List (Addr×Obj)}{σ:St}{H:Hp}{s:rj}{l b:Addr}{xs ys zs:List V}
theorem Inv.lset {its its':List rg}{n:Nat}{f:Array rg->Array rg}{t':Nat}(I:Inv X pins σ H s)(hH:H l=some (.lst xs))
  (e:s.heap.get? l=some { cls :=.type "list",data :=.seq its.toArray n }) (hf:f its.toArray=its'.toArray) (hv:Vals ys its') (hz:ys.length<=rN) :
  Inv X pins σ (upd H l (.lst ys)) { s with heap:=s.heap.update l (uH f),toks:=t' }:=by
 have q:=PySem.IsL.update e f
 rw[hf] at q
 refine I.write (x:=l) (e:=l) (by rw[hH];exact trivial) (.inl rfl) (λb' u hb hu=>(tH s.heap (uH f) (vy hb)).trans hu) ⟨_,q⟩ ?_
 exact ⟨hz,its',_,hv,q⟩
theorem Inv.lnew {its:List rg}{t':Nat}(I:Inv X pins σ H s)(hv:Vals ys its)(hz:ys.length<=rN) :
  Inv X pins σ (upd H s.heap.objs.size (.lst ys)) { s with heap:=s.heap.push { cls :=.type "list",data :=.seq its.toArray },toks:=t' } :=
 I.laid (λ_ _ q=>rf _ q) (rA _) ⟨hz,its,0,hv,rz _ rfl⟩
theorem Inv.fresh (I:Inv X pins σ H s):H s.heap.objs.size=none:=I.hok.fresh (rA _)
theorem Inv.lstM (I:Inv X pins σ H s)(hH:H l=some (.lst xs)):xs.length<=rN/\∃(its:List rg) (n:Nat),Vals xs its/\xs.length=its.length/\s.heap.get? l=some { cls :=.type "list",data :=.seq its.toArray n }:=by
 obtain ⟨z,its,n,r,e⟩:=I.hok l _ hH
 exact ⟨z,its,n,r,r.length,e⟩
end
section
variable  {X:Cx}
def nH:V->List V->Hp->VK->Prop:=λx vs H Q=>∃l xs y,x = .ref l/\vs=[y]/\H l=some (.lst xs)/\xs.length<rN/\Q .non (upd H l (.lst (xs++[y])))
theorem cT:MtM X "list.append" nH:=by
 intro pins s σ H x vs v us Q I rx rv h
 obtain ⟨l,xs,y,rfl,rfl,hH,hz,q⟩:=h
 cases rx
 obtain ⟨u,rfl,ru⟩:=rv.one
 obtain ⟨z,its,n,r,hl,e⟩:=I.lstM hH
 refine xY F.slot_list_append ⟨_,e,rfl⟩ F.entry_list_append (F.args_list_append_2 _ _) (PySem.list_append l its.toArray n u (by rw[rW];omega)) ⟨e,?_⟩
 refine ⟨.non,_,I.lset (its':=its++[u]) hH e (by simp) (r.append (.cons ru .nil)) ?_,rfl,q⟩
 rw[rC,sL]
 omega
end
section
variable  {prog:rO}{w:sC}{A:sR}{E:rg->rj->Prop}{s:rj}
end
section
variable  {X:Cx}
end
end L2
namespace Att
open PySem PySem.W PySem.Calls PyProof.Rows
theorem eE {P:Params}{h:Heap}:∀(ns:List Int) (vs:List rg),WellAll P h vs (ns.map WData.int)->uc vs ns:=by
 intro ns
 induction ns with
 | nil =>
  intro vs w
  rw[zw] at w
  cases w
  exact .nil
 | cons n ns ih =>
  intro vs w
  rw[sI] at w
  cases w with
  | cons a b =>
   cases a
   exact .cons _ _ (ih _ b)
theorem kR {l:OpenLaw}{n:Nat}(hn:l.most=some n){P:Params}{h:Heap}{args:List WData}{vals:List rg}
  (hpre:l.row.toRowW.claim.pre args=true) (hwl:WellAll P h vals args) :
  ∃a vs ns,vals=[si a]/\args=[WData.list (ns.map WData.int)]/\h.get? a=some { cls :=.type "list",data :=.seq vs.toArray }/\uc vs ns/\ns.length<=n:=by
 have hsh:WShape.hasAll [] args [.list .int]=true:=(pre_splitW hpre).1
 have hc:l.pre.holds [] { args:=args }=true:=(pre_splitW hpre).2
 obtain ⟨d,r,rfl,h1,h2⟩:=hasAllW_cons hsh
 obtain rfl:=hasAllW_nil h2
 obtain ⟨xs,rfl,h3⟩:=hasW_list h1
 obtain ⟨ns,rfl⟩:=items_int h3
 have hlen:ns.length<=n:=by
  unfold OpenLaw.pre at hc
  have h4:(WTm.not (.lt (.lit (.int (n:Int))) (.len (.arg 0)))).holds [] { args:=[.list (ns.map .int)] }=true:=by
   have h4:=(holds_andW hc).1
   rw[hn] at h4
   exact h4
  have h5:=condW_of h4 (w_not (w_lt w_lit (w_len_list (w_arg rfl))))
  rw[rn] at h5
  refine v7 λq =>?_
  have q':(n:Int)<((ns.length:Nat):Int):=by omega
  first
   | (rw[decide_eq_true q'] at h5;exact absurd h5 (by decide))
   | (simp at h5;omega)
 cases hwl with
 | cons w1 w2 =>
  cases w2
  cases w1 with
  | list ho hall=>exact ⟨_,_,ns,rfl,rfl,ho,eE ns _ hall,hlen⟩
theorem kS (l:OpenLaw)(args:List WData):l.row.toRowW.claim.post args (.bool true) args=true :=
 postW_of (r:=l.row.toRowW) (X:=(true == true))
  (show WShape.has [] (.bool true) .bool=true by first | rfl | decide | simp[WShape.has,WShape.arms,WShape.armsAll])
  (show (WTm.eq .res (.lit (.bool true))).value [] { args:=args,res:=some (.bool true),after:=args }=some (.bool (true == true)) from w_eq_bool (w_res rfl) w_lit) rfl
theorem iu {l:OpenLaw}{n:Nat}{q:rO}{loose:List Str}{XP:(Str->Option rg)->Heap->Prop}{YP:sC->Heap->Prop}{d:DefRec}
  (hn:l.most=some n) (hdf:d.params.defaults=[])
  (call:∀(w:sC) (s₀ s₁:rj) (mg mb:Str->Option rg) (fa:Addr) (o:Obj) (pm cd doc:rg) (a:Addr) (vs:List rg) (ns:List Int),
   Ground q loose [] XP w s₀ mg mb s₁.heap->YP w s₁.heap →
   s₁.heap.get? fa=some o->o.data = .func (docDef d.name d.params d.body d.scope pm cd doc)->s₁.heap.CodeRec cd d.name->mg d.name=some (.ref fa) →
   s₁.heap.get? a=some { cls :=.type "list",data :=.seq vs.toArray }->uc vs ns->ns.length<=n->s₁.gens = #[] →
   xX (sh l.prog w) callerA (.call (.ref fa) ⟨[.ref a],[]⟩) (λr s'=>r = .ok (.ret (.bool true))/\OldK s₁.heap s'.heap/\s'.os=s₁.os/\AllBare s'.gens) s₁) :
  WalkO q loose XP YP l.row.toRowW d [] (λf vs=>PySem.call f vs):=by
 intro w s₀ s₁ mg mb G Y fa o pm cd doc dV kV ho hd hcd hD hmg hg args vals as hpre hlay hrd hwl hlo
 obtain rfl:dV = .none:=Dflts.none hD hdf
 obtain rfl:kV = .none:=Dflts.noKw hD
 obtain ⟨a,vs,ns,rfl,rfl,hobj,hints,hlen⟩:=kR hn hpre hwl
 refine enter_call (vG (call w s₀ s₁ mg mb fa o pm cd doc a vs ns G Y ho (fd_plain hd) hcd hmg hobj hints hlen hg) λr s' hq =>?_)
 obtain ⟨rfl,h2,h3,h4⟩:=hq
 exact ⟨.inl ⟨.bool true,.bool true,[],rfl,λ_=>rfl,.bool true,kS l _,λ_=>⟨List.Pairwise.nil,λ_ hm=>(nomatch hm)⟩⟩,h2,h3,h4⟩
section
variable  {prog:rO}{w:sC}{A:sR}{E:rg->rj->Prop}{s:rj}{K:Frag}
def ledger (h:Heap)(L d:Addr):List (Addr×Obj):=(um h.objs.size).filterMap λa=>if a=L\/a=d then none else (h.get? a).map λo=>(a,o)
end
end Att
namespace L2
open PySem PySem.Spec PyProof.Rows
theorem gi:∀{vs:List rg} {ns:List Int},uc vs ns->Vals (ns.map V.int) vs
 | _,_,.nil =>.nil
 | _,_,.cons n t h =>.cons ⟨t,rfl⟩ (gi h)
def pY (H:Hp):Prop:=∀b,H b=none\/∃o xs,H b=some (.frz o (.lst xs))
theorem mq {P:rO}{w:sC}{K:rk}{mg mb:Str->Option rg}{CX:CXT}{k:Nat}{fa a:Addr}{fd:sV}{x:Str}{sp:Sp}{s₁:rj}{vs:List rg}{ns:List Int}
  (KX:K.In s₁.heap) (hns:s₁.heap.Ns sr mg) (hb:s₁.heap.Ns builtinsNs mb) (hbb:∀x:Str,x ≠ "__name__" -> mb x=sO x) (hlim:s₁.heap.NoLimit) (hg:s₁.gens = #[])
  (ha:s₁.heap.get? a=some { cls :=.type "list",data :=.seq vs.toArray }) (hi:uc vs ns) (hl:ns.length<=rN) (hr:cg k callerA)
  (F:∀base:Heap,K.In base->base.Ns sr mg->bE P w K mg base CX k fa fd [x] sp) (hbind:∀(s:rj) (u:rg),BindsTo s fd ⟨[u],[]⟩ [(x,u)])
  (hsp:∀H:Hp,pY H->SqL K H a (ns.map V.int)->sp [.ref a] H (λv _=>v = .bl true) λ_ _ _=>False)
  (hCX:∀H e s',CX [] H s₁ (λ_ _ _=>False) e s'->False) :
  xX (sh P w) callerA (.call (.ref fa) ⟨[.ref a],[]⟩) (λr s'=>r = .ok (.ret (.bool true))/\OldK s₁.heap s'.heap/\s'.os=s₁.os/\AllBare s'.gens) s₁:=by
 have rv:=gi hi
 have lenV:=hi.length
 have core:∀H:Hp,pY H->SqL K H a (ns.map V.int)->HOk P w H s₁.heap->(∀b,H b≠none->b=a)->(H a≠none->K.lookup a=none) →
   xX (sh P w) callerA (.call (.ref fa) ⟨[.ref a],[]⟩) (λr s'=>r = .ok (.ret (.bool true))/\OldK s₁.heap s'.heap/\s'.os=s₁.os/\AllBare s'.gens) s₁:=by
  intro H hO hS hok hA hK
  have base_of:∀{b:Addr} {o:Obj},s₁.heap.get? b=some o->H b=none->(gE s₁.heap H).get? b=some o:=λe n=>lY e n
  have noA:∀{b:Addr} {o:Obj} {es:Array DictEntry} {ep:Nat},s₁.heap.get? b=some o->o.data = .dict es ep->H b=none:=λ{b o es ep} e d=>by
   cases q:H b with
   | none=>rfl
   | some u =>
    have e':b=a:=hA b (by rw[q];simp)
    subst e'
    rw[ha] at e;cases e
    have d':Data.seq vs.toArray _=Data.dict es ep:=d
    cases d'
  have nsK:∀{b:Addr} {m:Str->Option rg},s₁.heap.Ns b m->(gE s₁.heap H).Ns b m:=λ{b m} ⟨o,es,ep,e,d,r⟩=>⟨o,es,ep,base_of e (noA e d),d,r⟩
  have hKb:K.In (gE s₁.heap H):=λb o e=>base_of (KX b o e) (by
   cases q:H b with
   | none=>rfl
   | some u =>
    have e':b=a:=hA b (by rw[q];simp)
    subst e'
    rw[hK (by rw[q];simp)] at e;cases e)
  have hM:Mod K mg (gE s₁.heap H):=⟨hKb,nsK hns,⟨mb,nsK hb,hbb⟩,let ⟨mc,h1,h2⟩:=hlim;⟨mc,nsK h1,h2⟩⟩
  have e0:nD P w K mg (gE s₁.heap H) callerA [] s₁ H:=⟨rfl,hM,λb o e=>nz e,Nat.le_of_eq (kG _ _),trivial,λb hb=>absurd (show b∈([]:List Addr) from hb) (by simp),hok,.of_eq hg⟩
  refine vG ((F _ hKb (nsK hns)).run callerA [] s₁ H ⟨[.ref a],[]⟩ [.ref a] [.ref a] _ _ hr e0 (hbind s₁ (.ref a)) (.cons rfl .nil) (hsp H hO hS)) λr s' h =>?_
  cases r with
  | error e=>exact (hCX H e s' h).elim
  | ok fl =>
   cases fl with
   | next=>exact False.elim h
   | brk=>exact False.elim h
   | cont=>exact False.elim h
   | ret u =>
    obtain ⟨v,H',os,bare,un,hok',r',q⟩:=h
    have q':v = .bl true:=q
    subst q'
    obtain rfl:u=Value.bool true:=r'
    refine ⟨rfl,OldK.of_keep λb o e =>?_,os,bare⟩
    cases q:H b with
    | none=>exact un.keep b o e q (by intro z;exact absurd (show b∈([]:List Addr) from z) (by simp)) (by simp)
    | some u =>
     rcases hO b with z | ⟨ob,xs,z⟩
     ·rw[q] at z;cases z
     ·have z2:=un.frzs b ob _ z
      obtain ⟨e1,_⟩:=hok b _ z
      obtain ⟨e2,_⟩:=hok' b _ z2
      rw[e] at e1;cases e1
      exact e2
 cases hk:K.lookup a with
 | some o =>
  have e:=KX a o hk
  rw[ha] at e
  cases e
  refine core (λ_=>none) (λ_ =>.inl rfl) (.inr ⟨_,vs.toArray,_,hk,rfl,rfl,rfl,by rw[rW,lenV];exact hl,by simpa using rv⟩) (λb u z=>by have z':(none:Option HO)=some u:=z;cases z') (λb z=>absurd rfl z) λz=>absurd rfl z
 | none =>
  refine core (λb=>if b=a then some (.frz { cls :=.type "list",data :=.seq vs.toArray } (.lst (ns.map V.int))) else none) (λb =>?_) (.inl (.inr ⟨{ cls :=.type "list",data :=.seq vs.toArray },if_pos rfl⟩)) (λb u z =>?_) (λb z =>?_) λ_=>hk
  ·by_cases hb:b=a
   ·exact .inr ⟨_,_,if_pos hb⟩
   ·exact .inl (if_neg hb)
  ·by_cases hb:b=a
   ·have z':=(if_pos hb).symm.trans z
    cases z'
    subst hb
    exact ⟨ha,by rw[rn];exact hl,vs,_,rv,ha⟩
   ·have z':=(if_neg hb).symm.trans z
    cases z'
  ·by_cases hb:b=a
   ·exact hb
   ·exact absurd (if_neg hb) z
open PySem PySem.Spec PyProof.Rows
theorem nI {l:PySem.W.OpenLaw}{n k:Nat}{q:rO}{loose:List Str}{XP:(Str->Option rg)->Heap->Prop}{YP:sC->Heap->Prop}{d:DefRec}{K:Params->rk}{CX:sC->CXT}{sp:sC->Sp}{x:Str}
  (hn:l.most=some n) (hn2:n<=rN) (hdf:d.params.defaults=[]) (hr:cg k callerA)
  (hY:∀(w:sC) (h:Heap),YP w h->(K w.params).In h)
  (F:∀(w:sC) (mg:Str->Option rg) (fa:Addr) (h:Heap),(K w.params).In h->h.Ns sr mg->mg d.name=some (.ref fa) →
   ∃fd:sV,(∀(s:rj) (u:rg),BindsTo s fd ⟨[u],[]⟩ [(x,u)]) ∧
    ∀base:Heap,(K w.params).In base->base.Ns sr mg->bE l.prog w (K w.params) mg base (CX w) k fa fd [x] (sp w))
  (hsp:∀(w:sC) (H:Hp) (a:Addr) (ns:List Int),ns.length<=n->pY H->SqL (K w.params) H a (ns.map V.int)->sp w [.ref a] H (λv _=>v = .bl true) λ_ _ _=>False)
  (hCX:∀(w:sC) (H:Hp) (s:rj) (e:rg) (s':rj),CX w [] H s (λ_ _ _=>False) e s'->False) :
  PySem.W.WalkO q loose XP YP l.row.toRowW d [] (λf vs=>PySem.call f vs):=by
 refine Att.iu hn hdf λw s₀ s₁ mg mb fa o pm cd doc a vs ns G Y ho hd hcd hmg hobj hints hlen hg =>?_
 have KX:=hY w _ Y
 obtain ⟨fd,hb,hF⟩:=F w mg fa _ KX G.T.g hmg
 exact mq KX G.T.g G.T.b G.T.builtins G.T.nolimit hg hobj hints (su hlen hn2) hr hF hb (λH hO hS=>hsp w H a ns hlen hO hS) λH e s'=>hCX w H s₁ e s'
open PySem PySem.Spec PyProof.Rows
def bO (s:Stmt):Arguments:=match s with
 | .FunctionDef _ a _ _ _ _ _ _ _ _=>a
 | _=>{ posonlyargs:=[],args:=[],vararg:=none,kwonlyargs:=[],kw_defaults:=[],kwarg:=none,defaults:=[] }
def bI (s:Stmt):List Stmt:=match s with
 | .FunctionDef _ _ b _ _ _ _ _ _ _=>b
 | _=>[]
def aq (s:Stmt):Scope:=match s with
 | .FunctionDef _ _ _ _ _ _ sc _ _ _=>sc
 | _=>{ kind :=.function,names:=[],isGenerator:=false,isCoroutine:=false }
abbrev CX0:CXT:=λ_ _ _ _ _ _=>False
abbrev E0:XK:=λ_ _ _=>False
theorem oR {X:Cx}:Passes CX0 X E0:=λ_ _ _ _ _ _ _ h=>h.elim
structure Fun (K:rk)(x qual:Str)(st:Stmt)(f:Addr)(fd:sV):Prop where
 ex:∃(oc:rg) (od:Option Addr) (kV doc pm:rg) (an:Option Addr) (cdv ct:rg) (osl:Array (Option rg)),
  fd=PySem.W.fnOf x qual (bO st) (bI st) (aq st) .none kV doc pm an cdv ct/\K.lookup f=some ⟨oc,od,.func fd,osl⟩/\PySem.W.codeIn K cdv qual=true
 kp:PySem.W.keepIn K (.ref f)=true
section
variable  {P:rO}{w:sC}{K:rk}{mg:Str->Option rg}{base:Heap}
theorem Fun.ok {x qual:Str}{st:Stmt}{f:Addr}{fd:sV}{N ps:List Str}{k:Nat}{sp:Sp}(F:Fun K x qual st f fd)(S:aJ N ps (aq st))(len:∀vs H Q E,sp vs H Q E->vs.length=ps.length)
  (hbody:∀(cdv:rg) (A:sR) (outer:List Env) (s:rj) (H:Hp) (vs:List V) (Q:VK) (E:XK),cg k (A.deeper (envOfC qual (aq st) s.heap.objs.size f cdv))->sp vs H Q E →
   ∃t,PSs (kP CX0 P w K mg base N qual (aq st) f cdv A outer s H E).nox (bI st) t/\t { nx:=λ_ H'=>Q .non H',rt:=Q } (start N vs) H):bE P w K mg base CX0 (k+1) f fd ps sp:=by
 obtain ⟨oc,od,kV,doc,pm,an,cdv,ct,osl,rfl,lk,hcd⟩:=F.ex
 refine qR lk hcd S len λA outer s H vs Q E hr hsp =>?_
 obtain ⟨t,h,q⟩:=hbody cdv A outer s H vs Q E hr hsp
 exact ⟨t,h.nox,q⟩
theorem Fun.binds {x qual:Str}{st:Stmt}{f:Addr}{fd:sV}{ps:List Str}(F:Fun K x qual st f fd)
  (h:∀(kV doc pm:rg) (an:Option Addr) (cdv ct:rg) (us:List rg),us.length=ps.length->bindArgs (PySem.W.fnOf x qual (bO st) (bI st) (aq st) .none kV doc pm an cdv ct) ⟨us,[]⟩=pure (ps.zip us)):Binds K fd ps []:=by
 obtain ⟨oc,od,kV,doc,pm,an,cdv,ct,osl,rfl,lk,hcd⟩:=F.ex
 exact .all (h kV doc pm an cdv ct)
theorem i6 {x qual:Str}{st:Stmt}{f:Addr}{oc:rg}{od an:Option Addr}{osl:Array (Option rg)}{kV doc pm cdv ct:rg}(l:K.lookup f=some ⟨oc,od,.func (PySem.W.fnOf x qual (bO st) (bI st) (aq st) .none kV doc pm an cdv ct),osl⟩)
  (c:PySem.W.codeIn K cdv qual=true) (k:PySem.W.keepIn K (.ref f)=true):Fun K x qual st f (PySem.W.fnOf x qual (bO st) (bI st) (aq st) .none kV doc pm an cdv ct):=⟨⟨oc,od,kV,doc,pm,an,cdv,ct,osl,rfl,l,c⟩,k⟩
end
theorem kT {n:Nat}(h:n<=1000):n<rN:=uJ h (by decide)
section
variable  {X:Cx}
theorem pv (i:Nat){x:Str}{pos:Pos}(hN:X.N[i]? = some x:=by rfl)(hv:Vis X.env.scope x:=by first | exact Or.inl rfl | exact Or.inr (Or.inl rfl) | exact Or.inr (Or.inr rfl))(hd:(x == ("__debug__" : Str))=false:=by decide)
  (hcd:(x == ("__classdict__" : Str))=false:=by decide):PE X (.Name x pos) (qz i):=pK hN hv hd hcd
end
theorem bF {A B:Prop}(h:B):if false=true then A else B:=by
 rw[if_neg rR]
 exact h
theorem eZ {A B:Prop}(h:A):if true=true then A else B:=by
 rw[if_pos rfl]
 exact h
theorem qU {c A B:Prop}[Decidable c](h1:c->A)(h2:¬ c->B):if c then A else B:=by
 by_cases h:c
 ·rw[if_pos h]
  exact h1 h
 ·rw[if_neg h]
  exact h2 h
def aM (H H':Hp):Prop:=∀b o,H b=some o->H' b=some o
theorem aM.refl (H:Hp):aM H H:=λ_ _ h=>h
theorem aM.trans {H H1 H2:Hp}(a:aM H H1)(b:aM H1 H2):aM H H2:=λc o h=>b c o (a c o h)
theorem aM.free {H H':Hp}(e:aM H H'){l:Addr}(h:H' l=Option.none):H l=Option.none:=by
 cases q:H l with
 | none=>rfl
 | some o =>
  rw[e l o q] at h
  cases h
end L2
set_option maxHeartbeats 4000000
namespace L2
open PySem PySem.Spec PyProof.Rows
def j3 (on:List (Str×NameKind))(N:List Str)(sc:Scope)(N':List Str)(ix:List (Option Nat)):Bool :=
 decide (sc.kind = .function) &&
 sc.names.all (λy=>match y.2 with
  | .local=>decide (sc.names.lookup y.1=some .local)
  | .cell=>false
  | .free=>decide (on.lookup y.1=some .cell) || decide (on.lookup y.1=some .free)
  | _=>true) &&
 decide (ix.length=N'.length) &&
 (ix.zip N').all (λp=>match p.1 with
  | none=>true
  | some j=>decide (N[j]? = some p.2) && decide (sc.names.lookup p.2=some .free))
theorem d8 {ns:List (Str×NameKind)}{y:Str}{k:NameKind}(h:ns.lookup y=some k):(y,k)∈ns:=uy h
structure e6 (on:List (Str×NameKind))(N:List Str)(sc:Scope)(N':List Str)(ix:List (Option Nat)):Prop where
 kind:sc.kind = .function
 locs:∀y∈sc.names,y.2 = .local->sc.names.lookup y.1=some .local
 nocell:∀y∈sc.names,y.2 ≠ .cell
 frees:∀y∈sc.names,y.2 = .free->on.lookup y.1=some .cell\/on.lookup y.1=some .free
 len:ix.length=N'.length
 slot:∀(i j:Nat) (y:Str),ix[i]? = some (some j)->N'[i]? = some y->N[j]? = some y/\sc.names.lookup y=some .free
theorem e6.of {on:List (Str×NameKind)}{N:List Str}{sc:Scope}{N':List Str}{ix:List (Option Nat)}(h:j3 on N sc N' ix=true):e6 on N sc N' ix:=by
 unfold j3 at h
 rw[uF,uF,uF] at h
 obtain ⟨⟨⟨h1,h2⟩,h3⟩,h4⟩:=h
 rw[vt] at h2 h4
 refine ⟨of_decide_eq_true h1,λy hy e =>?_,λy hy e =>?_,λy hy e =>?_,of_decide_eq_true h3,λi j y e1 e2 =>?_⟩
 ·have q:=h2 y hy
  rw[e] at q
  exact of_decide_eq_true q
 ·have q:=h2 y hy
  rw[e] at q
  cases q
 ·have q:=h2 y hy
  rw[e] at q
  exact ((Bool.or_eq_true _ _).mp q).imp of_decide_eq_true of_decide_eq_true
 ·have q:=h4 (some j,y) (rT (i:=i) (by rw[wL];exact ⟨e1,e2⟩))
  dsimp only at q
  rw[uF] at q
  exact ⟨of_decide_eq_true q.1,of_decide_eq_true q.2⟩
theorem d9 {α β:Type}(f:α -> β -> β)(b:α -> β -> Sem (ForInStep β)):∀(l:List α) (c:β),(∀x∈l,∀d,b x d=pure (.yield (f x d)))->forIn l c b=pure (l.foldl (λd x=>f x d) c)
 | [],c,_=>rfl
 | x :: l,c,h=>by
  rw[xG,h x rK,pure_bind]
  exact d9 f b l (f x c) λy hy=>h y (r6 _ hy)
def aA (env:Env)(l:List (Str×NameKind))(c:List (Str×Addr)):List (Str×Addr) :=
 l.foldl (λd y=>if y.2 = .free then (y.1,(env.cells.lookup y.1).getD 0) :: d else d) c
theorem i7 {sc:Scope}{env:Env}(h:∀y∈sc.names,y.2 = .free->∃c,env.cells.lookup y.1=some c):closureFor sc env=pure (aA env sc.names []):=by
 simp only[closureFor]
 unfold aA
 rw[d9 (λy d=>if y.2 = .free then (y.1,(env.cells.lookup y.1).getD 0) :: d else d)]
 ·rfl
 ·rintro ⟨n,k⟩ hy d
  by_cases hk:k = .free
  ·subst hk
   obtain ⟨c,e⟩:=h _ hy rfl
   have e':env.cells.lookup n=some c:=e
   simp only[beq_self_eq_true,if_true,cellOf,e',Option.getD_some]
   rfl
  ·have hb:(k == NameKind.free)=false:=by simpa using hk
   simp only[hb,rJ,if_false,hk]
theorem bP {env:Env}{y:Str}{c:Addr}:∀(l:List (Str×NameKind)) (d:List (Str×Addr)),(∀z∈l,z.2 = .free->∃c,env.cells.lookup z.1=some c)->(aA env l d).lookup y=some c →
  d.lookup y=some c\/env.cells.lookup y=some c
 | [],d,_,h =>.inl h
 | (n,k) :: l,d,hf,h=>by
  have h':(aA env l (if k = .free then (n,(env.cells.lookup n).getD 0) :: d else d)).lookup y=some c:=h
  have ih:=bP l _ (λz hz=>hf z (r6 _ hz)) h'
  by_cases hk:k = .free
  ·subst hk
   rw[if_pos rfl] at ih
   rcases ih with q | q
   ·rw[vv] at q
    cases hx:(y == n) with
    | true =>
     rw[hx] at q
     obtain ⟨c',e⟩:=hf (n,.free) rK rfl
     have e':env.cells.lookup n=some c':=e
     have q':some ((env.cells.lookup n).getD 0)=some c:=q
     rw[e'] at q'
     have en:y=n:=eq_of_beq hx
     rw[en,e']
     exact .inr q'
    | false =>
     rw[hx] at q
     exact .inl q
   ·exact .inr q
  ·rw[if_neg hk] at ih
   exact ih
theorem cq {env:Env}{y:Str}:∀(l:List (Str×NameKind)) (d:List (Str×Addr)),((y,NameKind.free)∈l\/∃c,d.lookup y=some c)->∃c,(aA env l d).lookup y=some c
 | [],d,h=>by
  rcases h with h | h
  ·cases h
  ·exact h
 | (n,k) :: l,d,h=>by
  show ∃c,(aA env l (if k = .free then (n,(env.cells.lookup n).getD 0) :: d else d)).lookup y=some c
  refine cq l _ ?_
  have old:(∃c,d.lookup y=some c)->∃c,(if k = .free then (n,(env.cells.lookup n).getD 0) :: d else d).lookup y=some c:=λ⟨c,e⟩=>by
   by_cases hk:k = .free
   ·rw[if_pos hk,vv]
    cases hx:(y == n) with
    | true=>exact ⟨_,rfl⟩
    | false=>exact ⟨c,e⟩
   ·rw[if_neg hk];exact ⟨c,e⟩
  rcases h with h | h
  ·rcases sv.mp h with q | q
   ·cases q
    rw[if_pos rfl,vv,beq_self_eq_true]
    exact .inr ⟨_,rfl⟩
   ·exact .inl q
  ·exact .inr (old h)
theorem e7 {c:Str->NameKind->Bool}{y:Str}:∀l:List (Str×NameKind),(l.map λz=>if c z.1 z.2=true then (z.1,NameKind.cell) else (z.1,z.2)).lookup y=(l.lookup y).map λk=>if c y k=true then NameKind.cell else k
 | []=>rfl
 | (n,k) :: l=>by
  have ih:=e7 (c:=c) (y:=y) l
  rw[sI]
  have e:(if c n k=true then (n,NameKind.cell) else (n,k))=(n,if c n k=true then NameKind.cell else k):=by split <;> rfl
  show List.lookup y ((if c n k=true then (n,NameKind.cell) else (n,k)) :: _)=_
  rw[e,vv,vv]
  cases hx:(y == n) with
  | true =>
   have en:y=n:=eq_of_beq hx
   subst en
   rfl
  | false=>exact ih
def blk (X:Cx)(sc:Scope)(cl:List (Str×Addr))(C:Addr)(N':List Str)(s:rj)(H:Hp)(fp:List Addr):Cx :=
 { X with N:=N',s₀:=s,H₀:=H,env:=compEnvC sc cl C X.env,outer:=X.stack,ex:=fp,fn:=λ_=>false,pn:=[],xe:=λ_ _=>False }
def PF (X:Cx)(ifs:List Expr)(t:TT):Prop :=
  ∀(pins:List (Addr×Obj)) (s:rj) (σ:St) (H:Hp) (Q:Bool->Hp->Prop),Inv X pins σ H s->t σ H Q →
    rX (sh X.prog X.w) X.A (forIn ifs true λc r=>if r=true then do let ok ← isTrue c X.env (eval c X.env);pure (ForInStep.yield ok) else pure (ForInStep.yield r)) (TP X pins σ Q) X.xe s
theorem i8 {X:Cx}:PF X [] (λ_ H Q=>Q true H):=λ_ _ _ H _ I h=>wpAny_tests_nil ⟨H,I,h⟩
def inner (ix:List (Option Nat))(σ:St):St:=ix.map λo=>match o with | none=>none | some j=>(σ[j]?).join
def j4 (J:It)(g:TG)(tc:TT)(te:TE)(τ:St)(Q:VK)(H1:Hp):Prop:=∃W:Nat->Nat->St->List V->Hp->Prop,(∃m,W 0 m τ [] H1)/\∀i m τ ys H,W i m τ ys H →
 (J.stop i H/\ys.length<=rN/\∀l,H l=none->Q (.ref l) (upd H l (.lst ys))) ∨
 (J.go i H/\∀x H',J.yld i H x H'->g x τ H' λτ2 H2=>tc τ2 H2 λb H3=>if b=true then te τ2 H3 λy H4=>ys.length<rN/\∃m',m'<m/\W (i+1) m' τ2 (ys++[y]) H4 else ∃m',m'<m/\W (i+1) m' τ2 ys H3)
def oS (ix:List (Option Nat))(wi:TI)(g:TG)(tc:TT)(te:TE):TE:=λσ H Q=>wi σ H λJ H1=>j4 J g tc te (inner ix σ) Q H1
section
variable  {X:Cx}{sc:Scope}{N':List Str}{ix:List (Option Nat)}{pins:List (Addr×Obj)}{σ:St}{H:Hp}{s:rj}
theorem pZ (I:Inv X pins σ H s)(K:e6 X.env.scope.names X.N sc N' ix){C:Addr}{fp:List Addr}(hC:s.heap.objs.size<=C)(f:∀b∈fp,eD X pins H b)(fl:∀b∈fp,b<s.heap.objs.size) :
  (blk X sc (aA X.env sc.names []) C N' s H fp).Ok:=by
 have hcl:∀y∈sc.names,y.2 = .free->∃c,X.env.cells.lookup y.1=some c:=λy hy e=>I.ok.has y.1 (K.frees y hy e)
 have up:∀y c,(aA X.env sc.names []).lookup y=some c->X.env.cells.lookup y=some c:=λy c e=>by
  rcases bP sc.names [] hcl e with q | q
  ·cases q
  ·exact q
 have nfs:∀b∈fp,b∉frs X.stack:=λb hb z=>by
  rcases sv.mp (I.gF b z) with q | q
  ·exact (f b hb).2.1 q
  ·exact (f b hb).2.2.1 q
 refine ⟨I.ok.mod,K.kind,I.ok.glob,I.ok.blt,hC,λy z c h1 h2=>I.ok.inj y z c (up _ _ h1) (up _ _ h2),λy hy =>?_,(λy c h=>nomatch h),I.ok.hd,I.ok.frames,.inl rfl,λb hb =>?_,λb o e=>I.bs b o e,su I.ok.bsz I.sz,λb o e hb =>?_,nfs,I.stack,I.jK⟩
 ·have hy':(relabel sc X.env).names.lookup y=some .cell\/(relabel sc X.env).names.lookup y=some .free:=hy
  have em:=e7 (c:=λn k=>k == .free && X.env.scope.kind == .function && X.env.kindOf n == some .cell) (y:=y) sc.names
  have em':(relabel sc X.env).names.lookup y=_:=em
  rw[em'] at hy'
  cases hq:sc.names.lookup y with
  | none=>rw[hq] at hy';rcases hy' with q | q <;> cases q
  | some k =>
   have km:=d8 hq
   have hk:k = .free:=by
    rw[hq] at hy'
    simp only[xH,Option.some.injEq] at hy'
    by_cases hc:(k == .free && X.env.scope.kind == .function && X.env.kindOf y == some .cell)=true
    ·rw[uF,uF] at hc
     exact by simpa using hc.1.1
    ·rw[if_neg hc] at hy'
     rcases hy' with q | q
     ·exact absurd q (K.nocell _ km)
     ·exact q
   subst hk
   exact cq sc.names [] (.inl km)
 ·exact ⟨rQ (rF (fl b hb) hC),λy c e=>(f b hb).2.2.2.2.1 y c (up y c e)⟩
 ·rcases (f b hb).2.2.2.1 with q | q
  ·exact I.ok.noex b o e q
  ·exact absurd (rF (rB e) (su I.ok.bsz q)) (tN _)
theorem nJ (I:Inv X pins σ H s)(K:e6 X.env.scope.names X.N sc N' ix){C:Addr}{fp:List Addr}(hC:s.heap.objs.size<=C)(f:∀b∈fp,eD X pins H b)(fl:∀b∈fp,b<s.heap.objs.size)
  {h1:Heap} {t:Nat} {m:Str->Option rg} (k:∀b o,s.heap.get? b=some o->h1.get? b=some o) (ns:h1.Ns C m) :
  Inv (blk X sc (aA X.env sc.names []) C N' s H fp) [] (inner ix σ) H { s with heap:=h1,toks:=t }:=by
 have hcl:∀y∈sc.names,y.2 = .free->∃c,X.env.cells.lookup y.1=some c:=λy hy e=>I.ok.has y.1 (K.frees y hy e)
 have up:∀y c,(aA X.env sc.names []).lookup y=some c->X.env.cells.lookup y=some c:=λy c e=>by
  rcases bP sc.names [] hcl e with q | q
  ·cases q
  ·exact q
 refine ⟨pZ I K hC f fl,rfl,I.bare,Un.kept k,⟨m,ns,λi y v e1 e2 e3 =>?_⟩,λy c e =>?_,I.hok.fresh hC,λy c e=>I.freeC y c (up y c e),(λp hp=>nomatch hp),I.hok.kept k,?_⟩
 ·have e2':(ix.map λo=>match o with | none=>none | some j=>(σ[j]?).join)[i]? = some (some v):=e2
  rw[sf] at e2'
  cases hi:ix[i]? with
  | none=>rw[hi] at e2';cases e2'
  | some o =>
   cases o with
   | none=>rw[hi] at e2';cases e2'
   | some j =>
    rw[hi] at e2'
    have e4:(σ[j]?).join=some v:=r9 e2'
    have e5:σ[j]? = some (some v):=by
     cases hj:σ[j]? with
     | none=>rw[hj] at e4;cases e4
     | some z=>rw[hj] at e4;rw[show z=some v from e4]
    obtain ⟨n1,n2⟩:=K.slot i j y hi e1
    have mem:=d8 n2
    have kc:X.env.kindOf y=some .cell\/X.env.kindOf y=some .free:=K.frees _ mem rfl
    obtain ⟨m',_,hl⟩:=I.loc
    obtain ⟨u,r,l⟩:=hl j y v n1 e5 (.inr kc)
    refine ⟨u,r,?_⟩
    rcases l with ⟨q,_⟩ | ⟨_,c,q,z⟩
    ·rcases kc with kc | kc <;> (rw[kc] at q;cases q)
    ·obtain ⟨c',hc'⟩:=cq (env:=X.env) (y:=y) sc.names [] (.inl mem)
     have:=up y c' hc'
     rw[q] at this
     cases this
     refine .inr ⟨?_,c,hc',z.keeps k⟩
     have em:=e7 (c:=λn k=>k == .free && X.env.scope.kind == .function && X.env.kindOf n == some .cell) (y:=y) sc.names
     have em':(relabel sc X.env).names.lookup y=_:=em
     rcases kc with kc | kc
     ·left
      show (relabel sc X.env).names.lookup y=some .cell
      rw[em',n2]
      simp only[xH,kc,I.ok.kind]
      rfl
     ·right
      show (relabel sc X.env).names.lookup y=some .free
      rw[em',n2]
      simp only[xH,kc,I.ok.kind]
      rfl
 ·obtain ⟨v,z⟩:=I.cell y c (up y c e)
  exact ⟨v,z.keeps k⟩
 ·show (ix.map _).length=N'.length
  rw[rn]
  exact K.len
end
open PySem PySem.Spec PyProof.Rows
theorem i9 {prog:rO}{w:sC}{A:sR}{R:Result->rj->Prop}{s:rj}{elt target iter:Expr}{ifs:List Expr}{sc:Scope}{pos:Pos}{it acc:rg}{env:Env}(J:Nat->rj->Prop)
    (turn:∀n s,J n s->rX (sh prog w) A (pyNext it) (λr s1=>match r with
      | none=>R (.ok .next) s1
      | some v=>rX (sh prog w) A (letOwnedTupleGo target it v) (λ_ s2=>rX (sh prog w) A (assign target env v) (λ_ s3 =>
          rX (sh prog w) A (forIn ifs true λc r=>if r=true then do let ok ← isTrue c env (eval c env);pure (ForInStep.yield ok) else pure (ForInStep.yield r)) (λok s4 =>
            if ok=true then rX (sh prog w) A (eval elt env) (λx s5=>rX (sh prog w) A (call (.builtin "list.append") [acc,x]) (λ_ s6=>∃m,m<n/\J m s6) (λ_ _=>False) s5) (λ_ _=>False) s4
            else ∃m,m<n/\J m s4) (λ_ _=>False) s3) (λ_ _=>False) s2) (λ_ _=>False) s1) (λ_ _=>False) s)
    (n:Nat) (h:J n s):xX (sh prog w) A (.compLoop (.ListComp elt [⟨target,iter,ifs,0⟩] sc pos) 0 it acc env) R s:=by
  refine codeAny_loop rfl J (λk t q =>?_) n h
  show rX _ A (Sem.onRaise (compTurn (.ListComp elt [⟨target,iter,ifs,0⟩] sc pos) 0 it acc env) (λx=>do noteFrame x env;theTreesLotGoes x)) _ _ t
  refine wpAny_noted ?_
  rw[compTurn_list]
  have no:∀{E:rg->rj->Prop} (x:rg) (t:rj),False->E x t:=λ_ _ z=>z.elim
  refine rd (wpAny_standAt (rd (vi (turn k t q) (λr s1 h1 =>?_) no)))
  cases r with
  | none=>exact rp h1
  | some v =>
    refine rd (vi h1 (λ_ s2 h2=>rd (vi h2 (λ_ s3 h3=>rd (vi h3 (λok s4 h4 =>?_) no)) no)) no)
    cases ok with
    | false=>exact rp ⟨rfl,h4⟩
    | true=>exact rd (rd (vi h4 (λx s5 h5=>rd (vi h5 (λ_ s6 h6=>rp (rp ⟨rfl,h6⟩)) no)) no))
section
variable  {X:Cx}
def nK (X:Cx)(pins:List (Addr×Obj))(σ:St)(Q:VK)(use:Option (rg->Sem Unit))(Q2:rg->rj->Prop):Prop :=
 ∀(s4:rj) (H3:Hp) (acc C:Addr) (ys:List V) (oC:Obj),Inv X (pins++[(C,oC)]) σ (upd H3 acc (.lst ys)) s4->(∃m,s4.heap.Ns C m)->X.s₀.heap.objs.size<=C->(∀x c,X.env.cells.lookup x=some c->c≠C)->(∀p∈X.pn++pins,p.1≠C)->Q (.ref acc) (upd H3 acc (.lst ys)) →
  compPost (sh X.prog X.w) X.A X.xe use Q2 (.ref acc) C (.ok .next) s4
theorem kU {elt target iter:Expr}{ifs:List Expr}{sc:Scope}{pos ps:Pos}{wi:TI}{g:TG}{tc:TT}{te:TE}{N':List Str}{ix:List (Option Nat)}{use:Option (rg->Sem Unit)}{Q2:rg->rj->Prop}
  {pins:List (Addr×Obj)} {s:rj} {σ:St} {H:Hp} {Q:VK}
  (hcalm:X.calm=true) (hi:PI X target iter wi) (hk:j3 X.env.scope.names X.N sc N' ix=true)
  (hg:∀cl C s H fp,PG (blk X sc cl C N' s H fp) target g) (hc:∀cl C s H fp,PF (blk X sc cl C N' s H fp) ifs tc) (he:∀cl C s H fp,PE (blk X sc cl C N' s H fp) elt te)
  (hs:∀x,foldedSetIterable iter X.env x=pure x) (fin:nK X pins σ Q use Q2) (I:Inv X pins σ H s) (h:oS ix wi g tc te σ H Q) :
  rX (sh X.prog X.w) X.A (comprehension (.ListComp elt [⟨target,iter,ifs,0⟩] sc pos) sc X.env ps (newList []) false (eval iter X.env) use) Q2 X.xe s:=by
 have K:=e6.of hk
 have hcl:∀y∈sc.names,y.2 = .free->∃c,X.env.cells.lookup y.1=some c:=λy hy e=>I.ok.has y.1 (K.frees y hy e)
 refine wpAny_comprehension_free rfl hs (i7 hcl) K.kind K.locs (thn (hi pins s σ H _ I h) λv s1 h1=>thn h1 λitv s2 h2 =>?_)
 obtain ⟨it,fp,tn,J,H2,e,I2,T,st2,f2,W,⟨m0,w0⟩,turn⟩:=h2
 subst e
 refine uw (wpAny_newFunctionEnv K.nocell (by intro y hy;simp at hy) (λh1 ns1 sb1 =>?_) K.kind)
 dsimp only at ns1 sb1 ⊢
 generalize hP:s2.heap.push { cls :=.type "list",dict:=none,data :=.seq ([]:List rg).toArray }=G at ns1 sb1 ⊢
 have sG:G.objs.size=s2.heap.objs.size+1:=by rw[<- hP,tR]
 have fl:∀b∈fp,b<s2.heap.objs.size:=λb hb=>by
  obtain ⟨o,e,_⟩:=T.obj _ _ st2 b hb
  exact rB e
 have hC:s2.heap.objs.size<=G.objs.size:=by rw[sG];exact Nat.le_succ _
 have aC:s2.heap.objs.size≠G.objs.size:=by rw[sG];exact rQ (u3 _)
 have old:∀b o,s2.heap.get? b=some o->h1.get? b=some o:=λb o e=>by
  have lt:=rB e
  have ne:b≠G.objs.size:=rQ (rF lt hC)
  rw[sb1.2 b ne]
  exact rf _ (hP ▸ rf _ e)
 have accO:h1.PlainList s2.heap.objs.size #[]:=⟨_,by
  rw[sb1.2 _ aC]
  exact rf _ (hP ▸ rz _ rfl)⟩
 have IB:=nJ (t:=s2.toks+([]:List (Str×rg)).length) I2 K hC f2 fl old ns1
 have up:∀y c,(aA X.env sc.names []).lookup y=some c->X.env.cells.lookup y=some c:=λy c e=>by
  rcases bP sc.names [] hcl e with q | q
  ·cases q
  ·exact q
 have accNotCell:∀y c,(aA X.env sc.names []).lookup y=some c->c≠s2.heap.objs.size:=λy c e z=>by
  obtain ⟨v,q⟩:=I2.cell y c (up y c e)
  exact absurd q.lt (by rw[z];exact tN _)
 have accFs:s2.heap.objs.size∉frs X.stack:=λz=>by
  rcases sv.mp (I2.gF _ z) with q | q
  ·exact absurd I2.lt (by rw[<- q];exact tN _)
  ·exact I2.pJ (rA _) q
 have accFp:s2.heap.objs.size∉fp:=λz=>absurd (fl _ z) (tN _)
 have stat:∀{H':Hp} {ob:Obj},(∀b∈fp,H' b=none)->∀b∈fp,eD (blk X sc (aA X.env sc.names []) G.objs.size N' s2 H2 fp) [(s2.heap.objs.size,ob)] H' b:=λ{H' ob} hn b hb=>by
  refine ⟨hn b hb,rQ (rF (fl b hb) hC),IB.ok.exfs b hb,.inl hb,λy c e=>(f2 b hb).2.2.2.2.1 y c (up y c e),λp hp z =>?_⟩
  have ep:p=(s2.heap.objs.size,ob):=by simpa [blk] using hp
  subst ep
  exact accFp (by rw[show s2.heap.objs.size=b from z];exact hb)
 have accPin:∀{pl:List (Addr×Obj)} {σ':St} {H':Hp} {s':rj} {its:Array rg} {n:Nat},Inv (blk X sc (aA X.env sc.names []) G.objs.size N' s2 H2 fp) pl σ' H' s'->s'.heap.get? s2.heap.objs.size=some { cls :=.type "list",data :=.seq its n } →
   H' s2.heap.objs.size=none->Inv (blk X sc (aA X.env sc.names []) G.objs.size N' s2 H2 fp) [(s2.heap.objs.size,{ cls :=.type "list",data :=.seq its n })] σ' H' s':=λ{pl σ' H' s' its n} J' e nn=>J'.dt λp hp=>by
  have ep:p=(s2.heap.objs.size,({ cls :=.type "list",data :=.seq its n }:Obj)):=by simpa [blk] using hp
  subst ep
  exact ⟨e,nn,aC,accFs,λv z=>nomatch z⟩
 have loop:xX (sh X.prog X.w) X.A (.compLoop (.ListComp elt [⟨target,iter,ifs,0⟩] sc pos) 0 (.ref it) (.ref s2.heap.objs.size) (compEnvC sc (aA X.env sc.names []) G.objs.size X.env))
   (compPost (sh X.prog X.w) X.A X.xe use Q2 (.ref s2.heap.objs.size) G.objs.size) { s2 with heap:=h1,toks:=s2.toks+([]:List (Str×rg)).length }:=by
  refine i9 (λn s'=>∃i ys its nn σ' H',Inv (blk X sc (aA X.env sc.names []) G.objs.size N' s2 H2 fp) [(s2.heap.objs.size,{ cls :=.type "list",data :=.seq its nn })] σ' H' s'/\Vals ys its.toList/\tn i s'.heap/\(∀b∈fp,H' b=none)/\W i n σ' ys H')
   (λn s3 h3 =>?_) m0 ?_
  ·obtain ⟨i,ys,its,nn,σ3,H3,I3,r3,st3,fr3,w3⟩:=h3
   obtain ⟨e3,a3,_,_,_⟩:=I3.pin (s2.heap.objs.size,{ cls :=.type "list",data :=.seq its nn }) (by simp[blk])
   rcases turn i n σ3 ys H3 w3 with ⟨stop,zl,q3⟩ | ⟨go,step⟩
   ·refine thn (T.done (blk X sc (aA X.env sc.names []) G.objs.size N' s2 H2 fp) rfl rfl rfl hcalm i _ s3 σ3 H3 _ I3 (stat fr3) st3 stop) λr s4 ⟨hr,I4⟩ =>?_
    subst hr
    obtain ⟨e4,a4,_,_,_⟩:=I4.pin (s2.heap.objs.size,{ cls :=.type "list",data :=.seq its nn }) (by simp[blk])
    obtain ⟨m4,n4,_⟩:=I4.loc
    obtain ⟨oC,es4,ep4,c4,d4,r4⟩:=id n4
    have ltA:∀b o,s2.heap.get? b=some o->b≠s2.heap.objs.size:=λb o e=>rQ (rB e)
    have B:=I4.base
    have hok:HOk X.prog X.w (upd H3 s2.heap.objs.size (.lst ys)) s4.heap:=λb o e=>by
     by_cases hb:b=s2.heap.objs.size
     ·subst hb
      rw[ag] at e
      cases e
      exact ⟨zl,its.toList,nn,r3,e4⟩
     ·rw[au hb] at e
      refine (I4.hok b o e).ib (λc u hc q=>q) (λc q =>?_) (λc xs q =>?_)
      ·rw[au (ak q a4)];exact q
      ·rw[au (ak q a4)];exact q
    have I5:Inv X pins σ (upd H3 s2.heap.objs.size (.lst ys)) s4:=by
     refine I2.qy (ch:=fp) I4.os ⟨λb o e n hb hx=>B.keep b o e n hb hx,λb o e n hb hx=>B.slot b o e n hb hx,λb o e n hx =>?_,λb o e hx=>B.there b o e hx,λb xs e =>?_,λb o u e =>?_,λb ps e =>?_⟩ hok I4.bare (λb hb =>?_)
     ·rw[au (ltA b o e)];exact B.free b o e n hx
     ·have q:=B.tups b xs e
      rw[au (ak q a4)];exact q
     ·have q:=B.frzs b o u e
      rw[au (ak q a4)];exact q
     ·obtain ⟨more,q⟩:=B.tbls b ps e
      exact ⟨more,by rw[au (ak q a4)];exact q⟩
     ·obtain ⟨g0,g1,g2,g3,g4,g5⟩:=f2 b hb
      exact ⟨g3,g1,g4,g5⟩
    have cL:G.objs.size≠X.env.locals:=uU (rF I2.lt hC)
    have I6:Inv X (pins++[(G.objs.size,oC)]) σ (upd H3 s2.heap.objs.size (.lst ys)) s4:=I5.dt λp hp=>by
     rcases rV.mp hp with q | q
     ·exact I5.pin p (rS _ q)
     ·have ep:p=(G.objs.size,oC):=by simpa using q
      subst ep
      exact ⟨c4,by rw[au (vy aC)];exact I4.free,cL,I2.pJ hC,λv z=>by rw[d4] at z;cases z⟩
    refine fin s4 H3 s2.heap.objs.size G.objs.size ys oC I6 ⟨m4,n4⟩ (su I2.sz hC) (λy c e z =>?_) (λp hp z =>?_) (q3 _ a4)
    ·obtain ⟨v,q⟩:=I2.cell y c e
     exact absurd (rF q.lt hC) (by rw[z];exact tN _)
    ·exact absurd (rF (rB (I2.pin p hp).1) hC) (by rw[z];exact tN _)
   ·refine thn (T.item (blk X sc (aA X.env sc.names []) G.objs.size N' s2 H2 fp) rfl rfl rfl hcalm i _ s3 σ3 H3 _ I3 (stat fr3) st3 go) λr s4 ⟨u,hr,h4⟩ =>?_
    subst hr
    refine thn h4 λ_ s5 ⟨x,H5,I5,r5,y5,st5,fr5⟩ =>?_
    have I5':=I5.pinned (stat fr5) (T.obj _ _ st5)
    refine thn (hg _ _ _ _ _ _ s5 σ3 H5 x u _ I5' r5 (step x H5 y5)) λ_ s6 ⟨σ6,H6,I6,q6⟩ =>?_
    refine thn (hc _ _ _ _ _ _ s6 σ6 H6 _ I6 q6) λok s7 ⟨H7,I7,q7⟩ =>?_
    have back:∀{σ7:St} {H7:Hp} {s7:rj},Inv (blk X sc (aA X.env sc.names []) G.objs.size N' s2 H2 fp) ([(s2.heap.objs.size,{ cls :=.type "list",data :=.seq its nn })]++df fp s5.heap) σ7 H7 s7->tn (i+1) s7.heap/\∀b∈fp,H7 b=none:=λJ7 =>
     ⟨T.keep _ _ _ st5 λb hb o e=>(J7.pin (b,o) (rS _ (rS _ (bS hb e)))).1,λb hb=>by
      obtain ⟨o,e,d⟩:=T.obj _ _ st5 b hb
      exact (J7.pin (b,o) (rS _ (rS _ (bS hb e)))).2.1⟩
    cases ok with
    | false =>
     rw[if_neg (by decide)] at q7
     obtain ⟨m',lm,w7⟩:=q7
     show ∃m,m<n/\_
     exact ⟨m',lm,i+1,ys,its,nn,σ6,H7,I7.cG,r3,(back I7).1,(back I7).2,w7⟩
    | true =>
     rw[if_pos rfl] at q7
     refine thn (he _ _ _ _ _ _ s7 σ6 H7 _ I7 q7) λz s8 ⟨y,H8,I8,r8,lz,m',lm,w8⟩ =>?_
     obtain ⟨e8,a8,_,_,_⟩:=I8.pin (s2.heap.objs.size,{ cls :=.type "list",data :=.seq its nn }) (by simp[blk])
     have sz:its.size<=rN:=by
      have l:ys.length=its.size:=r3.length.trans rh
      rw[<- l]
      exact vC lz
     refine wpAny_list_append_plain ⟨nn,e8⟩ (λh' pl' sb' =>?_) sz
     obtain ⟨n9,e9⟩:=pl'
     have I8p:Inv (blk X sc (aA X.env sc.names []) G.objs.size N' s2 H2 fp) (df fp s5.heap) σ6 H8 s8:=I8.dt λp hp=>I8.pin p (rS _ (rS _ hp))
     have I9:=I8p.turned (it:=s2.heap.objs.size) (h':=h') (t':=s8.toks) (λb o ne e=>by rw[sb'.2 b ne];exact e) a8 aC (.inr (rA _)) (λy c e=>accNotCell y c e) (λp hp z=>by
      have hp':p∈df fp s5.heap:=by simpa [blk] using hp
      exact accFp (by rw[<- z];exact (f9 hp').1))
     have b9:tn (i+1) h'/\∀b∈fp,H8 b=none :=
      ⟨T.keep _ _ _ st5 λb hb o e=>(I9.pin (b,o) (rS _ (bS hb e))).1,(back I8).2⟩
     exact ⟨m',lm,i+1,ys++[y],its.push z,n9,σ6,H8,accPin I9 e9 a8,by rw[t8];exact r3.append (.cons r8 .nil),b9.1,b9.2,w8⟩
  ·obtain ⟨n0,e0⟩:=accO
   exact ⟨0,[], #[],n0,_,H2,accPin IB e0 (I2.hok.fresh (rA _)),.nil,T.keep _ _ _ st2 λb hb o e=>old b o e,λb hb=>(f2 b hb).1,w0⟩
 exact codeAny_compStart_list loop (T.self _ 0 _ _ _ (T.keep _ _ _ st2 λb hb o e=>old b o e) loop)
theorem gM {elt target iter:Expr}{ifs:List Expr}{sc:Scope}{pos:Pos}{wi:TI}{g:TG}{tc:TT}{te:TE}(N':List Str)(ix:List (Option Nat))
  (hcalm:X.calm=true) (hi:PI X target iter wi) (hk:j3 X.env.scope.names X.N sc N' ix=true)
  (hg:∀cl C s H fp,PG (blk X sc cl C N' s H fp) target g) (hc:∀cl C s H fp,PF (blk X sc cl C N' s H fp) ifs tc) (he:∀cl C s H fp,PE (blk X sc cl C N' s H fp) elt te)
  (hs:∀x,foldedSetIterable iter X.env x=pure x:=by intro _;rfl):PE X (.ListComp elt [⟨target,iter,ifs,0⟩] sc pos) (oS ix wi g tc te):=by
 intro pins s σ H Q I h
 rw[eval_ListComp]
 refine kU hcalm hi hk hg hc he hs (λs4 H3 acc C ys oC I4 ns hC hc hp q =>?_) I h
 obtain ⟨m,ns⟩:=ns
 refine ⟨m,ns,λh' sb=>⟨.ref acc,_,?_,rfl,q⟩⟩
 obtain ⟨_,n0,n1,n2,_⟩:=I4.pin (C,oC) (by simp)
 exact (I4.cG).turned (it:=C) (h':=h') (t':=s4.toks) (λb o ne e=>by rw[sb.2 b ne];exact e) n0 n1 (.inr hC) hc hp
end
open PySem PySem.Spec PyProof.Rows
section
variable  {X:Cx}
def qV (K:rk):R2:=λx y H Q=>∃l b xs zs,x = .ref l/\y = .ref b/\SqL K H l xs/\SqL K H b zs/\xs.length+zs.length<=rN/\∀p,H p=none->Q (.ref p) (upd H p (.lst (xs++zs)))
theorem nL:OpR X (binaryOp .Add) (qV X.K):=by
 intro pins s σ H x y v u Q I rx ry h
 obtain ⟨l,b,xs,zs,rfl,rfl,hH,hB,hz,q⟩:=h
 cases rx
 cases ry
 obtain ⟨its,r,e,z⟩:=I.list hH
 obtain ⟨its2,r2,e2,z2⟩:=I.list hB
 obtain ⟨⟨c1,d1,da1,sl1⟩,n,e,k1,k2,k3⟩:=e
 obtain ⟨⟨c2,d2,da2,sl2⟩,n2,e2,g1,g2,g3⟩:=e2
 simp only at k1 k3 g1 g3
 subst k1 k3 g1 g3
 have l1:=r.length
 have l2:=r2.length
 have ea:its.toArray++its2.toArray=(its++its2).toArray:=by simp
 refine concat_meets ⟨_,e,rfl⟩ ⟨_,e2,rfl⟩ noFill_list_add seq_list_add PySem.F.slot_list_add PySem.F.entry_list_add
  (PySem.F.args_list_add_2 _ _) (list_addW l b its.toArray its2.toArray n n2 d1 d2 sl1 sl2 (by rw[rW,rW];omega)) ⟨e,e2,?_⟩
 rw[ea]
 exact ⟨.ref _,_,I.lnew (t':=s.toks) (r.append r2) (by rw[rC];omega),rfl,q _ I.fresh⟩
theorem a9:bG X (.builtin "isinstance") (λxs H Q=>∃x T t b,xs=[x,.ty T]/\cH X.K H x t/\PySem.W.kitOne X.K t (.type T)=some b/\Q (.bl b) H):=by
 intro pins s σ H xs us Q I r h
 obtain ⟨x,T,t,b,rfl,ty,e,q⟩:=h
 obtain ⟨u,w',rfl,ru,rw'⟩:=vals2 r
 cases (show w'=uG T from rw')
 exact kO I ru ty e λtk=>⟨.bl b,H,I.tok tk,rfl,q⟩
end
def oT (k:Nat)(tc:TT)(te:TE)(τ:St)(Pv:Nat->List V->Hp->Prop)(i:Nat)(x:V)(ys:List V)(H:Hp):Prop :=
 ∀(R1:V->Hp->Prop) (R0:Hp->Prop),(∀y H4,Pv (i+1) (ys++[y]) H4->R1 y H4)->(∀H3,Pv (i+1) ys H3->R0 H3)->tc (τ.set k (some x)) H λb H3=>if b=true then te (τ.set k (some x)) H3 R1 else R0 H3
theorem ja {K:rk}{a:Addr}{xs:List V}{k:Nat}{tc:TT}{te:TE}{τ:St}{H:Hp}{Q:VK}(Pv:Nat->List V->Hp->Prop)(h0:Pv 0 [] H)(hz:xs.length<=rN)
  (hl:∀i ys H,i<=xs.length->Pv i ys H->SqL K H a xs) (hs:∀i x ys H,xs[i]? = some x->ys.length<=i->Pv i ys H->oT k tc te τ Pv i x ys H)
  (hd:∀ys H,ys.length<=xs.length->Pv xs.length ys H->∀l,H l=none->Q (.ref l) (upd H l (.lst ys))) :
  j4 (Itl K a) (f7 k) tc te τ Q H:=by
 refine ⟨λi m σ ys H=>m=xs.length-i/\i<=xs.length/\(∀x,σ.set k (some x)=τ.set k (some x))/\ys.length<=i/\Pv i ys H,⟨xs.length,by simp,sM _,λ_=>rfl,rA _,h0⟩,?_⟩
 rintro i m σ ys H ⟨rfl,hi,hτ,hy,p⟩
 have q:=hl i ys H hi p
 by_cases hlt:i<xs.length
 ·refine .inr ⟨⟨xs,xs[i],q,by simp[hlt]⟩,λx H' y =>?_⟩
  obtain ⟨e,y⟩:=y
  subst e
  show tc (σ.set k (some x)) _ _
  rw[hτ x]
  have hσ:∀z,(τ.set k (some x)).set k (some z)=τ.set k (some z):=λz=>by rw[xI]
  refine hs i x ys _ (y xs q) hy p _ _ (λy4 H4 p4=>⟨by omega,xs.length-(i+1),by omega,rfl,hlt,hσ,by rw[rC,sL];omega,p4⟩) λH3 p3=>⟨xs.length-(i+1),by omega,rfl,hlt,hσ,by omega,p3⟩
 ·have e:i=xs.length:=by omega
  subst e
  exact .inl ⟨⟨xs,q,rA _⟩,by omega,hd ys H hy p⟩
structure Cal (P:rO)(w:sC)(K:rk)(mg:Str->Option rg)(base:Heap)(k:Nat)(x:Str)(ps:List Str)(sp:Sp):Prop where
 ex:∃f fd,bE P w K mg base CX0 k f fd ps sp/\mg x=some (.ref f)/\PySem.W.keepIn K (.ref f)=true/\Binds K fd ps []
theorem aH {X:Cx}{j k:Nat}{x:Str}{ps:List Str}{sp:Sp}{e:Expr}{es:List Expr}{t:TA}{p pos:Pos}(C:Cal X.prog X.w X.K X.mg X.base k x ps sp)(hr:cg j X.A)(hj:k<=j)(hg:Gl X x)(ha:PA X (e :: es) t)
  (hdb:(x == ("__debug__" : Str))=false:=by decide) (he:sU (e :: es) X.env=(false,eval e X.env) :: sU es X.env:=by rfl) (hpl:(xw pos (sU es X.env)).any (·.1)=false:=by rfl) :
  PE X (.Call (.Name x p) (e :: es) [] pos) (oQ sp [] E0 t):=by
 obtain ⟨f,fd,F,m,kp,b⟩:=C.ex
 exact nE F (hr.mono hj) hg m kp b .nil oR ha hdb he hpl
theorem ah {H:Hp}{p:Addr}(h:H p=none)(o:HO):aM H (upd H p o):=λb u q=>by rw[au (ak q h)];exact q
theorem small {n:Nat}(h:n<=1000):n<=rN:=vC (kT h)
open PySem PySem.Spec PyProof.Rows
section
variable  {X:Cx}
theorem iw {its:List rg}{bs:List Bool}(h:Vals (bs.map V.bl) its){prog:rO}{w:sC}{A:sR}:TruthOf prog w A (λi v=>its.toArray[i]? = some v) (λi=>bs.getD i false):=by
 intro i v s Q E hv q
 have l:=h.length
 rw[rn] at l
 have hi:i<its.length:=by
  rw[sF] at hv
  exact (rE.mp hv).1
 have e:(bs.map V.bl)[i]? = some (.bl (bs.getD i false)):=by
  rw[sf,vk,tm (by omega)]
  rfl
 obtain ⟨u,e1,e2⟩:=h.get e
 rw[sF,e1] at hv
 have ev:u=v:=r9 hv
 subst ev
 cases (show u=Value.bool _ from e2)
 exact t9 q
theorem all_range (bs:List Bool):((um bs.length).all λi=>bs.getD i false)=bs.all id:=by
 rw[vH,vt,vt]
 constructor
 ·intro h x hx
  obtain ⟨i,e⟩:=sH.mp hx
  have hi:i<bs.length:=(rE.mp e).1
  have q:=h i (tI.mpr hi)
  rw[vk,e] at q
  exact q
 ·intro h i hi
  have hi':=tI.mp hi
  rw[vk,tm hi']
  exact h _ (List.getElem_mem hi')
theorem iy (hc:X.calm=true):bG X (.builtin "all") (λxs H Q=>∃(p:Addr) (bs:List Bool),xs=[.ref p]/\SqL X.K H p (bs.map V.bl)/\Q (.bl (bs.all id)) H):=by
 intro pins s σ H xs us Q I r h
 obtain ⟨p,bs,rfl,hs,q⟩:=h
 obtain ⟨u,rfl,ru⟩:=vals1 r
 cases (show u=si p from ru)
 obtain ⟨its,rv,pl,hz⟩:=I.list hs
 have l:=rv.length
 rw[rn] at l
 have hpl:p<s.heap.objs.size:=by obtain ⟨o,_,e,_⟩:=pl;exact rB e
 refine call_all_walk (vX pl.isList ?_)
 have hd:X.A.in1.handled=none:=I.ok.hd hc
 refine ⟨s.heap.objs.size,_,_,_,_,_,_,rfl,Walks.list hd s.heap.objs.size p (rQ hpl) its.toArray,⟨⟨_,rz _ rfl,rfl,rfl⟩,?_⟩,iw rv,λh' tk k =>?_⟩
 ·exact pl.isList.at λo e=>rf _ e
 ·have e:((um its.toArray.size).all λi=>bs.getD i false)=bs.all id:=by rw[rW, <- l,all_range]
  rw[e]
  refine ⟨.bl (bs.all id),H,I.kept (t':=tk) (λb o eb=>k b o ?_ (rf _ eb)),rfl,q⟩
  intro hb
  have:b=s.heap.objs.size:=by simpa using hb
  exact absurd (rB eb) (by rw[this];exact tN _)
theorem cH.kit {pins:List (Addr×Obj)}{σ:St}{H:Hp}{s:rj}{x:V}{u t:rg}(I:Inv X pins σ H s)(rx:RelV x u)(ty:cH X.K H x t)(hn:∀a C dx fs,H a=some (.ins C dx fs)->x ≠ .ref a) :
  ∃P:Heap->Prop,PySem.W.KitX X.K u t P/\P s.heap/\u ≠ .builtin "__main__.__loader__#opaque" := by
 cases ty with
 | non=>cases (show u=tX from rx);exact ⟨_,yv,True.intro,λz=>nomatch z⟩
 | bl y=>cases (show u=Value.bool y from rx);exact ⟨_,yw,True.intro,λz=>nomatch z⟩
 | int i=>obtain ⟨t,q⟩:=(show ∃t,u=vp i t from rx);cases q;exact ⟨_,yI,True.intro,λz=>nomatch z⟩
 | str y=>obtain ⟨t,q⟩:=(show ∃t,u=Value.str y t from rx);cases q;exact ⟨_,yJ,True.intro,λz=>nomatch z⟩
 | flt y=>obtain ⟨t,q⟩:=(show ∃t,u=Value.float y t from rx);cases q;exact ⟨_,yi,True.intro,λz=>nomatch z⟩
 | @lst a xs ea =>
  cases (show u=si a from rx)
  obtain ⟨_,_,n,_,h1⟩:=(show aR X.prog X.w H s.heap a (.lst xs) from I.hok a _ ea)
  exact ⟨_,vS,⟨_,h1,rfl⟩,λz=>nomatch z⟩
 | @frz a ob xs ea =>
  cases (show u=si a from rx)
  obtain ⟨_,_,_,n,_,h1⟩:=(show aR X.prog X.w H s.heap a (.frz ob (.lst xs)) from I.hok a _ ea)
  exact ⟨_,vS,⟨_,h1,rfl⟩,λz=>nomatch z⟩
 | @tup a xs ea =>
  cases (show u=si a from rx)
  obtain ⟨_,_,_,p⟩:=(show aR X.prog X.w H s.heap a (.tup xs) from I.hok a _ ea)
  obtain ⟨o,h1,h2,_⟩:=p
  exact ⟨_,yj,⟨o,h1,h2.1⟩,λz=>nomatch z⟩
 | @dK a kvs ea =>
  cases (show u=si a from rx)
  obtain ⟨_,_,vs,_,p⟩:=(show aR X.prog X.w H s.heap a (.dK kvs) from I.hok a _ ea)
  obtain ⟨o,es,ep,h1,h2,_⟩:=p
  exact ⟨_,vT,⟨o,h1,h2.1⟩,λz=>nomatch z⟩
 | @dT a kvs ea =>
  cases (show u=si a from rx)
  obtain ⟨_,_,xs,_,o,es,ep,h1,h2,_⟩:=(show aR X.prog X.w H s.heap a (.dT kvs) from I.hok a _ ea)
  exact ⟨_,vT,⟨o,h1,h2.1⟩,λz=>nomatch z⟩
 | @ins a C dx fs ea cl ha hn' htk hm=>exact absurd rfl (hn a C dx fs ea)
theorem iz:∀{Ts:List String} {us:List rg},Vals (Ts.map V.ty) us->us=Ts.map uG
 | [],_,r=>by cases r;rfl
 | T :: Ts,_,r=>by
  cases r with
  | cons h t=>rw[sI, <- iz t,show _=uG T from h]
theorem dy:bG X (.builtin "isinstance") (λxs H Q=>∃(x:V) (p:Addr) (Ts:List String) (t:rg) (b:Bool),xs=[x,.ref p]/\SqT X.K H p (Ts.map V.ty)/\cH X.K H x t/\(∀a C dx fs,H a=some (.ins C dx fs)->x ≠ .ref a) ∧
  PySem.W.kitAny X.K t (Ts.map uG)=some b/\Q (.bl b) H):=by
 intro pins s σ H xs us Q I r h
 obtain ⟨x,p,Ts,t,b,rfl,hs,ty,hn,e,q⟩:=h
 obtain ⟨u,w',rfl,ru,rw'⟩:=vals2 r
 cases (show w'=si p from rw')
 obtain ⟨its,rv,⟨⟨c,dd,da,sl⟩,eo,ec,n,ed⟩,_⟩:=I.tuple hs
 have ei:=iz rv
 simp only at ec ed
 subst ec ed
 obtain ⟨P,Z,hP,hne⟩:=cH.kit I ru ty hn
 rw[<- ei] at e
 exact PySem.W.kia_tup Z I.kIn hP eo e hne λtk=>⟨.bl b,H,I.tok tk,rfl,q⟩
end
open PySem PySem.Spec PyProof.Rows
def oU (K:rk)(k l:Nat):TG:=qH K 2 (l4 (f7 k) (l4 (f7 l) qG))
def qW (k l:Nat)(tc:TT)(te:TE)(τ:St)(Pv:Nat->List V->Hp->Prop)(i:Nat)(a b:V)(ys:List V)(H:Hp):Prop :=
 ∀(R1:V->Hp->Prop) (R0:Hp->Prop),(∀y H4,Pv (i+1) (ys++[y]) H4->R1 y H4)->(∀H3,Pv (i+1) ys H3->R0 H3)->tc ((τ.set k (some a)).set l (some b)) H λc H3=>if c=true then te ((τ.set k (some a)).set l (some b)) H3 R1 else R0 H3
open PySem PySem.Spec PyProof.Rows
section
variable  {X:Cx}{K:rk}
end
open PySem PySem.Spec PyProof.Rows
theorem Inv.jb {X:Cx}{pins:List (Addr×Obj)}{σ:St}{H:Hp}{s:rj}{h':Heap}{t':Nat}{ch:List Addr}{T:Addr}{o:HO}(I:Inv X pins σ H s)(f:∀b∈ch,eD X pins H b)
  (k:∀b ob,b∉ch->s.heap.get? b=some ob->h'.get? b=some ob) (th:∀b∈ch,∃ob,h'.get? b=some ob) (hT:s.heap.objs.size<=T) (new:aR X.prog X.w (upd H T o) h' T o):Inv X pins σ (upd H T o) { s with heap:=h',toks:=t' }:=by
 have hn:H T=none:=I.hok.fresh hT
 have nT:∀b ob,s.heap.get? b=some ob->b≠T:=λb ob e=>rQ (rF (rB e) hT)
 refine I.step (g':=s.gens) (d':=s.drawn) (ch:=ch) (λb hb =>?_) (λb ob _ _ hc e _=>k b ob hc e) (λb ob _ _ hc e _=>⟨ob.slots,k b ob hc e⟩) (λb ob _ e n=>by rw[au (nT b ob e)];exact n)
  (λb ob hc e=>⟨ob,k b ob hc e⟩) (λb xs e=>by rw[au (ak e hn)];exact e) (λb ob u e=>by rw[au (ak e hn)];exact e) (λb ps e=>⟨#[],by rw[au (ak e hn),e];simp⟩) (λm hm =>?_) (λb u e =>?_) I.bare
 ·obtain ⟨g0,g1,g2,g3,g4,g5⟩:=f b hb
  exact ⟨g3,g1,g4,g5⟩
 ·obtain ⟨ob,es,ep,ho,r⟩:=hm
  exact ⟨ob,es,ep,k _ ob (λz=>(f _ z).2.1 rfl) ho,r⟩
 ·by_cases hb:b=T
  ·subst hb
   rw[ag] at e
   cases e
   exact new
  ·rw[au hb] at e
   refine (I.hok b u e).ib (λc v hc q=>k c v ?_ q) (λc q=>by rw[au (ak q hn)];exact q) λc xs q=>by rw[au (ak q hn)];exact q
   intro z
   have n0:=(f c z).1
   rcases hc with hc | hc
   ·rw[hc,e] at n0;cases n0
   ·rw[hc] at n0;cases n0
open PySem PySem.Spec PyProof.Rows
open PySem.AutoSeq1 (wpAny_loadPart')
section
variable  {prog:rO}{w:sC}{A:sR}{E:rg->rj->Prop}{s:rj}
theorem jf {it t:Addr}{i:Nat}{items:Array rg}{x:rg}{Q:rg->rj->Prop}(hi:s.heap.IsTupleIter it t i)(hl:s.heap.IsTuple t items)(hx:items[i]? = some x)
  (q:∀h',h'.IsTupleIter it t (i+1)->Heap.SameBut it s.heap h'->Q x { s with heap:=h' }):rX (sh prog w) A (Builtin.SmallTypes.nextOf (.ref it)) Q E s:=by
 obtain ⟨o,eo,oc,od⟩:=id hi
 obtain ⟨ol,el,_,nl,dl⟩:=hl
 unfold Builtin.SmallTypes.nextOf
 refine rd (uv (name:=Str.ofString "__next__") hi.typeIs uD (uo uD hi.typeIs wt ?_ (wm _)))
 show rX _ _ (field (.ref it) 0 >>= _) _ _ s;refine rd (uz eo od (x :=.ref t) rfl ?_)
 show rX _ _ (if (si t == tX)=true then _ else _) _ _ s;rw[if_neg (show ¬ ((si t == tX)=true) from rR)]
 show rX _ _ (field (.ref it) 1 >>= _) _ _ s;refine rd (uz eo od (x :=.int i 0) rfl ?_)
 show rX _ _ (seqItems? (.ref t) >>= _) _ _ s;refine rd (uf el dl ?_)
 simp only[ve,hx];refine rd (wpAny_setField eo od (by simp) (rp ⟨x,rfl,rp (q _ ?_ (wu ..))⟩))
 exact ⟨_,ui _ eo (Obj.isFreed_of_fields (ym od _)),(Obj.cls_mapFields ..).trans oc,by rw[ym od];simp[wJ]⟩
theorem fe {it t:Addr}{i:Nat}{items:Array rg}{Q:rg->rj->Prop}(hh:A.handled=none)(hi:s.heap.IsTupleIter it t i)(hl:s.heap.IsTuple t items)(hx:items[i]? = none)
  (q:∀h' e,Heap.ExtBut it s.heap h'->(∃o,h'.get? e=some o/\o.cls = .type "StopIteration")->E (.ref e) { s with heap:=h' }):rX (sh prog w) A (Builtin.SmallTypes.nextOf (.ref it)) Q E s:=by
 obtain ⟨o,eo,oc,od⟩:=id hi
 obtain ⟨ol,el,_,nl,dl⟩:=hl
 unfold Builtin.SmallTypes.nextOf
 refine rd (uv (name:=Str.ofString "__next__") hi.typeIs uD (uo uD hi.typeIs wt ?_ (wm _)))
 show rX _ _ (field (.ref it) 0 >>= _) _ _ s;refine rd (uz eo od (x :=.ref t) rfl ?_)
 show rX _ _ (if (si t == tX)=true then _ else _) _ _ s;rw[if_neg (show ¬ ((si t == tX)=true) from rR)]
 show rX _ _ (field (.ref it) 1 >>= _) _ _ s;refine rd (uz eo od (x :=.int i 0) rfl ?_)
 show rX _ _ (seqItems? (.ref t) >>= _) _ _ s;refine rd (uf el dl ?_)
 simp only[ve,hx];refine rd (vj (rd (wpAny_setField eo od (by simp) ?_)))
 show rX _ _ (newExc (.type "StopIteration") [] >>= _) _ _ _;refine rd ?_
 simp only[newExc,newTuple];refine rd (uw ?_ (by size_fits))
 refine rd (m:=firstArgMember _ _) (y3 (a:=tX) (by first | rfl | (simp only[firstArgMember];rfl)) ?_);refine uw ?_ (by size_fits)
 simp only[raiseNew];refine rd (wpAny_handled ?_)
 first | (rw[show A.in1.handled=none from hh]) | (rw[hh])
 refine rd (rp (wpAny_throw ?_));exact q _ _ (((wu ..).extBut.push _).push _) ⟨_,rz _ rfl,rfl⟩
end
end L2
namespace Srt
open PySem PyProof.Rows
def gal:Bool->rG->Array rG->Nat->Nat->Nat->StateT se Sem (Option Nat):=sortPriv% PySem.Builtin.gallop
def mLo:Array rG->Array rG->StateT se Sem (Array rG):=sortPriv% PySem.Builtin.mergeLo
def mHi:Array rG->Array rG->StateT se Sem (Array rG):=sortPriv% PySem.Builtin.mergeHi
def mAt:Nat->StateT se Sem Bool:=sortPriv% PySem.Builtin.mergeAt
def oV:StateT se Sem Unit:=sortPriv% PySem.Builtin.sortRuns
def p5:Nat->Nat->StateT se Sem (Option Nat):=sortPriv% PySem.Builtin.countRun
def mv:Nat->Nat->Nat->StateT se Sem Bool:=sortPriv% PySem.Builtin.binarySort
theorem p6 (lf:Bool)(ky:rG)(ar:Array rG)(bs n ht:Nat):gal lf ky ar bs n ht=(do
    let far (i:Nat):StateT se Sem (Option Bool):=do
      let z ← elem' ar (bs+i)
      if lf then lt' z ky else return (← lt' ky z).map (!·)
    let mut la:=0;let mut of:=1
    let mut lo:=0;let mut hi:=0
    let some rt ← far ht | return none
    if rt then
      let mx:=n-ht
      for _ in [0:n] do
        if of≥mx then break
        let some mo ← far (ht+of)
          | return none
        if !mo then break
        la:=of;of:=2*of+1
      lo:=ht+la+1;hi:=ht+min of mx
    else
      let mx:=ht+1
      for _ in [0:n] do
        if of≥mx then break
        let some fd ← far (ht-of)
          | return none
        if fd then break
        la:=of;of:=2*of+1
      lo:=ht+1-min of mx;hi:=ht-la
    for _ in [0:n] do
      if lo≥hi then break
      let md:=lo+(hi-lo)/2
      let some mo ← far md | return none
      if mo then lo:=md+1 else hi:=md
    return some hi):=rfl
section
variable  {prog:rO}{w:sC}{A:sR}{E:rg->rj->Prop}{s:rj}
theorem mw {lf:Bool}{ky:rG}{ar:Array rG}{bs n ht:Nat}{st:se}{Q:Option Nat->se->Prop}(p:Nat->Bool)
    (hf:∀i,i<n->∀(Q:Option Bool->se->Prop),Q (some (p i)) st->wpS (sh prog w) A E s (do let z ← elem' ar (bs+i);if lf then lt' z ky else return (← lt' ky z).map (!·)) Q st)
    (hp:∀i j,i<=j->j<n->p j=true->p i=true) (hh:ht<n)
    (h:∀k,k<=n->(∀i,i<k->p i=true)->(∀i,k<=i->i<n->p i=false)->Q (some k) st):wpS (sh prog w) A E s (gal lf ky ar bs n ht) Q st:=by
  rw[p6]
  dsimp only
  refine rD (hf ht hh _ ?_)
  dsimp only
  cases hr:p ht with
  | true =>
    rw[if_pos rfl]
    refine rD (ug (sS (I:=λx c st'=>st=st'/\∃la of,c=(none,la,of)/\la<of/\x+1<=of/\ht+la<n/\p (ht+la)=true)
      (Q:=λc st'=>st=st'/\∃la of,c=(none,la,of)/\la<of/\ht+la<n/\p (ht+la)=true/\(n-ht<=of\/(ht+of<n/\p (ht+of)=false))) ?step ?fin ⟨rfl,0,1,rfl,by omega,by omega,by omega,by simpa using hr⟩) ?post)
    case fin =>
      rintro c st' ⟨rfl,la,of,rfl,b1,b2,b3,b4⟩
      exact ⟨rfl,la,of,rfl,b1,b3,b4,.inl (by omega)⟩
    case step =>
      rintro x c st' _ hx ⟨rfl,la,of,rfl,b1,b2,b3,b4⟩
      dsimp only
      by_cases hge:of≥n-ht
      · rw[if_pos hge]
        exact rH ⟨rfl,la,of,rfl,b1,b3,b4,.inl hge⟩
      · rw[if_neg hge]
        refine rD (hf _ (by omega) _ ?_)
        dsimp only
        cases hm:p (ht+of) with
        | true =>
          simp only[tE,rJ,if_false]
          exact rH ⟨rfl,of,2*of+1,rfl,by omega,by omega,by omega,hm⟩
        | false =>
          simp only[x9,if_true]
          exact rH ⟨rfl,la,of,rfl,b1,b3,b4,.inr ⟨by omega,hm⟩⟩
    case post =>
      rintro c st' ⟨rfl,la,of,rfl,b1,b3,b4,b5⟩
      have h1:(ht+la+1)<=(ht+min of (n-ht)):=by omega
      have h2:(ht+min of (n-ht))<=n:=by omega
      have h3:∀i,i<(ht+la+1)->p i=true:=λi hi=>hp i (ht+la) (by omega) b3 b4
      have h4:∀i,(ht+min of (n-ht))<=i->i<n->p i=false:=λi hi hn=>by
        rcases b5 with b5 | ⟨b5,b6⟩
        · omega
        · cases hpi:p i with
          | false=>rfl
          | true=>rw[hp (ht+of) i (by omega) hn hpi] at b6;cases b6
      dsimp only
      refine rD (ug (sS (I:=λx c st'=>st=st'/\∃lo hi,c=(none,lo,hi)/\lo<=hi/\hi<=n/\hi-lo<=n-x/\(∀i,i<lo->p i=true)/\(∀i,hi<=i->i<n->p i=false))
        (Q:=λc st'=>st=st'/\∃k,c=(none,k,k)/\k<=n/\(∀i,i<k->p i=true)/\(∀i,k<=i->i<n->p i=false)) ?step ?fin ⟨rfl,(ht+la+1),(ht+min of (n-ht)),rfl,h1,h2,by omega,h3,h4⟩) ?post)
      case fin =>
        rintro c st' ⟨rfl,lo,hi,rfl,a1,a2,a3,a4,a5⟩
        have e:lo=hi:=by omega
        subst e
        exact ⟨rfl,lo,rfl,a2,a4,a5⟩
      case post =>
        rintro c st' ⟨rfl,k,rfl,a2,a4,a5⟩
        exact rH (h k a2 a4 a5)
      case step =>
        rintro x c st' _ hx ⟨rfl,lo,hi,rfl,a1,a2,a3,a4,a5⟩
        dsimp only
        by_cases hge:lo≥hi
        · rw[if_pos hge]
          have e:lo=hi:=by omega
          subst e
          exact rH ⟨rfl,lo,rfl,a2,a4,a5⟩
        · rw[if_neg hge]
          refine rD (hf _ (by omega) _ ?_)
          dsimp only
          cases hm:p (lo+(hi-lo)/2) with
          | true =>
            rw[if_pos rfl]
            exact rH ⟨rfl,_,_,rfl,by omega,a2,by omega,λi hi'=>hp i _ (by omega) (by omega) hm,a5⟩
          | false =>
            rw[if_neg (by simp)]
            refine rH ⟨rfl,_,_,rfl,by omega,by omega,by omega,a4,λi hi' hn =>?_⟩
            cases hpi:p i with
            | false=>rfl
            | true=>rw[hp _ i hi' hn hpi] at hm;cases hm
  | false =>
    rw[if_neg (by simp)]
    refine rD (ug (sS (I:=λx c st'=>st=st'/\∃la of,c=(none,la,of)/\la<of/\x+1<=of/\la<=ht/\p (ht-la)=false)
      (Q:=λc st'=>st=st'/\∃la of,c=(none,la,of)/\la<of/\la<=ht/\p (ht-la)=false/\(ht+1<=of\/(of<=ht/\p (ht-of)=true))) ?step ?fin ⟨rfl,0,1,rfl,by omega,by omega,by omega,by simpa using hr⟩) ?post)
    case fin =>
      rintro c st' ⟨rfl,la,of,rfl,b1,b2,b3,b4⟩
      exact ⟨rfl,la,of,rfl,b1,b3,b4,.inl (by omega)⟩
    case step =>
      rintro x c st' _ hx ⟨rfl,la,of,rfl,b1,b2,b3,b4⟩
      dsimp only
      by_cases hge:of≥ht+1
      · rw[if_pos hge]
        exact rH ⟨rfl,la,of,rfl,b1,b3,b4,.inl hge⟩
      · rw[if_neg hge]
        refine rD (hf _ (by omega) _ ?_)
        dsimp only
        cases hm:p (ht-of) with
        | true =>
          rw[if_pos rfl]
          exact rH ⟨rfl,la,of,rfl,b1,b3,b4,.inr ⟨by omega,hm⟩⟩
        | false =>
          rw[if_neg (by simp)]
          exact rH ⟨rfl,of,2*of+1,rfl,by omega,by omega,by omega,hm⟩
    case post =>
      rintro c st' ⟨rfl,la,of,rfl,b1,b3,b4,b5⟩
      have h1:(ht+1-min of (ht+1))<=(ht-la):=by omega
      have h2:(ht-la)<=n:=by omega
      have h3:∀i,i<(ht+1-min of (ht+1))->p i=true:=λi hi=>by
        rcases b5 with b5 | ⟨b5,b6⟩
        · omega
        · exact hp i (ht-of) (by omega) (by omega) b6
      have h4:∀i,(ht-la)<=i->i<n->p i=false:=λi hi hn=>by
        cases hpi:p i with
        | false=>rfl
        | true=>rw[hp (ht-la) i hi hn hpi] at b4;cases b4
      dsimp only
      refine rD (ug (sS (I:=λx c st'=>st=st'/\∃lo hi,c=(none,lo,hi)/\lo<=hi/\hi<=n/\hi-lo<=n-x/\(∀i,i<lo->p i=true)/\(∀i,hi<=i->i<n->p i=false))
        (Q:=λc st'=>st=st'/\∃k,c=(none,k,k)/\k<=n/\(∀i,i<k->p i=true)/\(∀i,k<=i->i<n->p i=false)) ?step ?fin ⟨rfl,(ht+1-min of (ht+1)),(ht-la),rfl,h1,h2,by omega,h3,h4⟩) ?post)
      case fin =>
        rintro c st' ⟨rfl,lo,hi,rfl,a1,a2,a3,a4,a5⟩
        have e:lo=hi:=by omega
        subst e
        exact ⟨rfl,lo,rfl,a2,a4,a5⟩
      case post =>
        rintro c st' ⟨rfl,k,rfl,a2,a4,a5⟩
        exact rH (h k a2 a4 a5)
      case step =>
        rintro x c st' _ hx ⟨rfl,lo,hi,rfl,a1,a2,a3,a4,a5⟩
        dsimp only
        by_cases hge:lo≥hi
        · rw[if_pos hge]
          have e:lo=hi:=by omega
          subst e
          exact rH ⟨rfl,lo,rfl,a2,a4,a5⟩
        · rw[if_neg hge]
          refine rD (hf _ (by omega) _ ?_)
          dsimp only
          cases hm:p (lo+(hi-lo)/2) with
          | true =>
            rw[if_pos rfl]
            exact rH ⟨rfl,_,_,rfl,by omega,a2,by omega,λi hi'=>hp i _ (by omega) (by omega) hm,a5⟩
          | false =>
            rw[if_neg (by simp)]
            refine rH ⟨rfl,_,_,rfl,by omega,by omega,by omega,a4,λi hi' hn =>?_⟩
            cases hpi:p i with
            | false=>rfl
            | true=>rw[hp _ i hi' hn hpi] at hm;cases hm
end
open PySem PyProof.Rows
structure Cmp (prog:rO)(w:sC)(A:sR)(s:rj)(O:wA)(key:rG->O.α)(U:rG->Prop)(κ:SortKind):Prop where
 lt:∀(E:rg->rj->Prop) (st:se) (x y:rG) (Q:Option Bool->se->Prop),kindOf st=κ -> U x->U y->Q (some (O.blt (key x) (key y))) st->wpS (sh prog w) A E s (lt' x y) Q st
section
variable  {prog:rO}{w:sC}{A:sR}{E:rg->rj->Prop}{s:rj}{O:wA}{key:rG->O.α}{U:rG->Prop}{κ:SortKind}
theorem aD {ar:Array rG}{i:Nat}{z:rG}{st:se}{Q:rG->se->Prop}(h:ar[i]? = some z)(hq:Q z st):wpS (sh prog w) A E s (elem' ar i) Q st:=by
 rw[elem'_eq,h]
 exact rH hq
theorem p7 (C:Cmp prog w A s O key U κ){ky:rG}{ar:Array rG}{bs n ht:Nat}{st:se}{Q:Option Nat->se->Prop}(g:Nat->rG)(hk:kindOf st=κ)(uk:U ky)
  (hg:∀i,i<n->ar[bs+i]? = some (g i)) (hu:∀i,i<n->U (g i)) (hs:∀i j,i<=j->j<n->O.kle (key (g i)) (key (g j))) (hh:ht<n)
  (h:∀k,k<=n->(∀i,i<k->O.kle (key (g i)) (key ky))->(∀i,k<=i->i<n->O.klt (key ky) (key (g i)))->Q (some k) st):wpS (sh prog w) A E s (gal false ky ar bs n ht) Q st:=by
 refine mw (λi => !O.blt (key ky) (key (g i))) (λi hi R hr =>?_) (λi j hij hj hp =>?_) hh (λk hk' h1 h2=>h k hk' (λi hi =>?_) λi hi hn =>?_)
 ·refine rD (aD (hg i hi) ?_)
  rw[if_neg (by simp)]
  exact rD (C.lt _ st ky (g i) _ hk uk (hu i hi) (rH hr))
 ·have a1:O.blt (key ky) (key (g j))=false:=by simpa using hp
  have a2:O.kle (key (g i)) (key ky):=sk (hs i j hij hj) a1
  have a3:O.blt (key ky) (key (g i))=false:=a2
  simp[a3]
 ·have a1:=h1 i hi
  exact (by simpa using a1:O.blt (key ky) (key (g i))=false)
 ·have a1:=h2 i hi hn
  exact (by simpa using a1:O.blt (key ky) (key (g i))=true)
theorem p9 (C:Cmp prog w A s O key U κ){ky:rG}{ar:Array rG}{bs n ht:Nat}{st:se}{Q:Option Nat->se->Prop}(g:Nat->rG)(hk:kindOf st=κ)(uk:U ky)
  (hg:∀i,i<n->ar[bs+i]? = some (g i)) (hu:∀i,i<n->U (g i)) (hs:∀i j,i<=j->j<n->O.kle (key (g i)) (key (g j))) (hh:ht<n)
  (h:∀k,k<=n->(∀i,i<k->O.klt (key (g i)) (key ky))->(∀i,k<=i->i<n->O.kle (key ky) (key (g i)))->Q (some k) st):wpS (sh prog w) A E s (gal true ky ar bs n ht) Q st:=by
 refine mw (λi=>O.blt (key (g i)) (key ky)) (λi hi R hr =>?_) (λi j hij hj hp =>?_) hh (λk hk' h1 h2=>h k hk' (λi hi=>h1 i hi) λi hi hn=>h2 i hi hn)
 ·refine rD (aD (hg i hi) ?_)
  rw[if_pos rfl]
  exact C.lt _ st (g i) ky _ hk (hu i hi) uk hr
 ·exact KeyOrd.klt_of_kle_of_klt (hs i j hij hj) hp
end
open PySem PyProof.Rows
section
variable  {O:wA}(key:rG->O.α)
def Le (p q:rG):Prop:=O.kle (key p) (key q)
structure MW (a b o:Array rG)(x y:Nat):Prop where
 hx:x<=a.size
 hy:y<=b.size
 perm:(o.toList++(a.toList.drop x++b.toList.drop y)).Perm (a.toList++b.toList)
 sorted:o.toList.Pairwise (Le key)
 below:∀p∈o.toList,∀z∈a.toList.drop x++b.toList.drop y,Le key p z
def cb (a b r:Array rG):Prop:=r.toList.Perm (a.toList++b.toList)/\r.toList.Pairwise (Le key)
variable  {key}
theorem MW.fin {a b o:Array rG}{x y:Nat}(m:MW key a b o x y){t:List rG}{r:Array rG}(hr:r.toList=o.toList++t)(ht:t.Perm (a.toList.drop x++b.toList.drop y))(hs:t.Pairwise (Le key)):cb key a b r:=by
 unfold cb
 rw[hr]
 exact ⟨(tP _ ht).trans m.perm,tj.mpr ⟨m.sorted,hs,λp hp q hq=>m.below p hp q (ht.mem_iff.mp hq)⟩⟩
theorem MW.take {a b o:Array rG}{x y x' y':Nat}(m:MW key a b o x y){t:List rG}{r:Array rG}(hr:r.toList=o.toList++t)(hx:x'<=a.size)(hy:y'<=b.size)
  (ht:(t++(a.toList.drop x'++b.toList.drop y')).Perm (a.toList.drop x++b.toList.drop y)) (hs:t.Pairwise (Le key)) (hb:∀p∈t,∀z∈a.toList.drop x'++b.toList.drop y',Le key p z):MW key a b r x' y':=by
 have sub:∀z,z∈t\/z∈a.toList.drop x'++b.toList.drop y'->z∈a.toList.drop x++b.toList.drop y:=λz hz=>ht.mem_iff.mp (rV.mpr hz)
 refine ⟨hx,hy,?_,?_,?_⟩
 ·rw[hr,rZ]
  exact (tP _ ht).trans m.perm
 ·rw[hr]
  exact tj.mpr ⟨m.sorted,hs,λp hp q hq=>m.below p hp q (sub q (.inl hq))⟩
 ·rw[hr]
  intro p hp z hz
  rcases rV.mp hp with h | h
  ·exact m.below p h z (sub z (.inr hz))
  ·exact hb p h z hz
theorem drop_cons {α:Type}{l:List α}{i:Nat}{z:α}(h:l[i]? = some z):l.drop i=z :: l.drop (i+1):=by
 obtain ⟨hi,e⟩:=rE.mp h
 rw[List.drop_eq_getElem_cons hi,e]
theorem drop_take {α:Type}(l:List α)(i k:Nat):l.drop i=(l.drop i).take k++l.drop (i+k):=by
 rw[<- zd,uj]
theorem aj {a:Array rG}{i:Nat}{z:rG}(h:a[i]? = some z):a.toList[i]? = some z:=by rw[rq];exact h
theorem MW.ef {a b o:Array rG}{x y:Nat}{z:rG}(m:MW key a b o x y)(h:a[x]? = some z)(ha:a.toList.Pairwise (Le key))(hb:∀t∈b.toList.drop y,Le key z t):MW key a b (o.push z) (x+1) y:=by
 have e:=drop_cons (aj h)
 have hx:x<a.size:=(tZ.mp h).1
 have pa:(z :: a.toList.drop (x+1)).Pairwise (Le key):=by rw[<- e];exact ha.sublist (sQ _ _)
 refine m.take (t:=[z]) (by rw[t8]) hx m.hy (by rw[e];exact vo _) (uu _ _) λp hp t ht =>?_
 have ep:p=z:=by simpa using hp
 subst ep
 rcases rV.mp ht with q | q
 ·exact (yn.mp pa).1 t q
 ·exact hb t q
theorem MW.gj {a b o:Array rG}{x y:Nat}{z:rG}(m:MW key a b o x y)(h:b[y]? = some z)(hb:b.toList.Pairwise (Le key))(ha:∀t∈a.toList.drop x,Le key z t):MW key a b (o.push z) x (y+1):=by
 have e:=drop_cons (aj h)
 have hy:y<b.size:=(tZ.mp h).1
 have pb:(z :: b.toList.drop (y+1)).Pairwise (Le key):=by rw[<- e];exact hb.sublist (sQ _ _)
 refine m.take (t:=[z]) (by rw[t8]) m.hx hy (by rw[e,List.singleton_append];exact yL.symm) (uu _ _) λp hp t ht =>?_
 have ep:p=z:=by simpa using hp
 subst ep
 rcases rV.mp ht with q | q
 ·exact ha t q
 ·exact (yn.mp pb).1 t q
theorem ext_toList (a:Array rG)(x k:Nat):(a.extract x (x+k)).toList=(a.toList.drop x).take k:=by
 rw[uq,tL,uV]
theorem cU (a:Array rG)(x:Nat):(a.extract x a.size).toList=a.toList.drop x:=by
 rw[uq,tL]
 exact sN (by rw[uE,rh];exact rA _)
theorem ao {l:List rG}(h:l.Pairwise (Le key)){i j:Nat}{p q:rG}(hi:l[i]? = some p)(hj:l[j]? = some q)(hij:i<=j):Le key p q:=by
 by_cases e:i=j
 ·subst e
  rw[hi] at hj
  cases hj
  exact tT _
 ·obtain ⟨h1,e1⟩:=rE.mp hi
  obtain ⟨h2,e2⟩:=rE.mp hj
  have:=uK.mp h i j h1 h2 (by omega)
  rw[e1,e2] at this
  exact this
theorem aB {l:List rG}{i:Nat}{t:rG}(h:t∈l.drop i):∃j,i<=j/\l[j]? = some t:=by
 obtain ⟨n,e⟩:=sH.mp h
 rw[u9] at e
 exact ⟨i+n,by omega,e⟩
theorem eA {l:List rG}{i k:Nat}{t:rG}(h:t∈(l.drop i).take k):∃j,j<k/\l[i+j]? = some t:=by
 obtain ⟨n,e⟩:=sH.mp h
 rw[tU] at e
 split at e
 ·rw[u9] at e
  exact ⟨n,by omega,e⟩
 ·cases e
theorem MW.my {a b o:Array rG}{x y k:Nat}(m:MW key a b o x y)(hk:x+k<=a.size)(ha:a.toList.Pairwise (Le key))(hb:∀j p,j<k->a.toList[x+j]? = some p->∀t∈b.toList.drop y,Le key p t):MW key a b (o++a.extract x (x+k)) (x+k) y:=by
 refine m.take (t:=(a.toList.drop x).take k) (by rw[so,ext_toList]) hk m.hy ?_ ?_ λp hp t ht =>?_
 ·rw[<- rZ, <- drop_take]
 ·exact ha.sublist ((sW _ _).trans (sQ _ _))
 ·obtain ⟨j,hj,e⟩:=eA hp
  rcases rV.mp ht with q | q
  ·obtain ⟨i,hi,e2⟩:=aB q
   exact ao ha e e2 (by omega)
  ·exact hb j p hj e t q
theorem MW.mz {a b o:Array rG}{x y k:Nat}(m:MW key a b o x y)(hk:y+k<=b.size)(hb:b.toList.Pairwise (Le key))(ha:∀j p,j<k->b.toList[y+j]? = some p->∀t∈a.toList.drop x,Le key p t):MW key a b (o++b.extract y (y+k)) x (y+k):=by
 refine m.take (t:=(b.toList.drop y).take k) (by rw[so,ext_toList]) m.hx hk ?_ ?_ λp hp t ht =>?_
 ·rw[drop_take b.toList y k]
  have e:((b.toList.drop y).take k++b.toList.drop (y+k)).take k=(b.toList.drop y).take k:=by rw[<- drop_take]
  rw[e]
  refine (List.perm_append_comm_assoc _ _ _)
 ·exact hb.sublist ((sW _ _).trans (sQ _ _))
 ·obtain ⟨j,hj,e⟩:=eA hp
  rcases rV.mp ht with q | q
  ·exact ha j p hj e t q
  ·obtain ⟨i,hi,e2⟩:=aB q
   exact ao hb e e2 (by omega)
theorem MW.kW {a b o:Array rG}{x y:Nat}(m:MW key a b o x y)(ha:a.toList.Pairwise (Le key))(hy:y=b.size):cb key a b (o++a.extract x a.size++b.extract y b.size):=by
 subst hy
 have e:b.toList.drop b.size=[]:=xA (by rw[rh];exact rA _)
 refine m.fin (t:=a.toList.drop x) (by rw[so,so,cU,cU,e,tK]) (by rw[e,tK]) (ha.sublist (sQ _ _))
theorem MW.kX {a b o:Array rG}{x y:Nat}(m:MW key a b o x y)(hb:b.toList.Pairwise (Le key))(hx:x=a.size):cb key a b (o++a.extract x a.size++b.extract y b.size):=by
 subst hx
 have e:a.toList.drop a.size=[]:=xA (by rw[rh];exact rA _)
 refine m.fin (t:=b.toList.drop y) (by rw[so,so,cU,cU,e,tK]) (by rw[e,vI]) (hb.sublist (sQ _ _))
theorem MW.last {a b o:Array rG}{x y:Nat}(m:MW key a b o x y)(ha:a.toList.Pairwise (Le key))(hb:b.toList.Pairwise (Le key))(hx:x+1=a.size)(hl:∀p q,p∈b.toList->a[a.size-1]? = some q->Le key p q):cb key a b (o++b.extract y b.size++a.extract x a.size):=by
 refine m.fin (t:=b.toList.drop y++a.toList.drop x) (by rw[so,so,cU,cU,rZ]) vb ?_
 refine tj.mpr ⟨hb.sublist (sQ _ _),ha.sublist (sQ _ _),λp hp q hq=>hl p q (uL hp) ?_⟩
 obtain ⟨i,hi,e⟩:=aB hq
 rw[rq] at e
 have hi2:i<a.size:=(tZ.mp e).1
 rw[show a.size-1=i by omega]
 exact e
theorem MW.size {a b o:Array rG}{x y:Nat}(m:MW key a b o x y):o.size+(a.size-x)+(b.size-y)=a.size+b.size:=by
 have e:=m.perm.length_eq
 simp only[rC,uE,rh] at e
 omega
end
structure Sm (st st':se):Prop where
 k:kindOf st'=kindOf st
 a:rM st'=rM st
 p:rY st'=rY st
 f:failedOf st'=failedOf st
theorem Sm.refl (st:se):Sm st st:=⟨rfl,rfl,rfl,rfl⟩
theorem Sm.mg {st st':se}(h:Sm st st')(n:Nat):Sm st (SortSt.mk' (kindOf st') (rM st') (rY st') n (failedOf st')):=⟨h.k,h.a,h.p,h.f⟩
open PySem PyProof.Rows
section
variable  {prog:rO}{w:sC}{A:sR}{E:rg->rj->Prop}{s:rj}{O:wA}{key:rG->O.α}{U:rG->Prop}{κ:SortKind}
theorem aE {a:Array rG}{i:Nat}(h:i<a.size):∃z,a[i]? = some z:=⟨a[i],by simp[h]⟩
theorem aU {a:Array rG}{i:Nat}{z:rG}(h:a[i]? = some z):z∈a.toList:=sH.mpr ⟨i,by rw[rq];exact h⟩
theorem ltq {x n:Nat}(h:x<=n)(c:¬ (x == n)=true):x<n:=yo h λz=>c (beq_iff_eq.mpr z)
abbrev LoC:=Option (Array rG)×Array rG×Nat×Nat×Nat×Nat×Nat
def nM (a b o:Array rG)(x y mg ac bc:Nat):StateT se Sem (ForInStep LoC):=do
  let z ← elem' a x
  if (x+1+1 == a.size)=true then pure (.done (some (o.push z++b.extract y b.size++a.extract (x+1) a.size),o.push z,x+1,y,mg,ac,bc))
  else if (decide (ac<7) && decide (bc<7))=true then pure (.done (none,o.push z,x+1,y,mg,ac,bc))
  else pure (.yield (none,o.push z,x+1,y,mg,ac,bc))
def nN (a b o:Array rG)(x y mg ac bc:Nat):StateT se Sem (ForInStep LoC):=do
  let z ← elem' b y
  if (y+1 == b.size)=true then pure (.done (some (o.push z++a.extract x a.size++b.extract (y+1) b.size),o.push z,x,y+1,mg,ac,bc))
  else do
    let z2 ← elem' a x
    let __x ← gal true z2 b (y+1) (b.size-(y+1)) 0
    match __x with
    | some k =>
      if k>0 then
        if (y+1+k == b.size)=true then pure (.done (some (o.push z++b.extract (y+1) (y+1+k)++a.extract x a.size++b.extract (y+1+k) b.size),o.push z++b.extract (y+1) (y+1+k),x,y+1+k,mg,ac,k))
        else nM a b (o.push z++b.extract (y+1) (y+1+k)) x (y+1+k) mg ac k
      else nM a b (o.push z) x (y+1) mg ac k
    | _=>pure (.done (some (o.push z++a.extract x a.size++b.extract (y+1) b.size),o.push z,x,y+1,mg,ac,bc))
def kY (a b p:Array rG)(x y ac bc mg:Nat):StateT se Sem (ForInStep LoC):=do
  modify (λs=>SortSt.mk' (kindOf s) (rM s) (rY s) mg (failedOf s))
  let z ← elem' b y
  let __x ← gal false z a x (a.size-x) 0
  match __x with
  | some k =>
    if k>0 then
      if (x+k+1 == a.size)=true then pure (.done (some (p++a.extract x (x+k)++b.extract y b.size++a.extract (x+k) a.size),p++a.extract x (x+k),x+k,y,mg,k,bc))
      else if (x+k == a.size)=true then pure (.done (some (p++a.extract x (x+k)++a.extract (x+k) a.size++b.extract y b.size),p++a.extract x (x+k),x+k,y,mg,k,bc))
      else nN a b (p++a.extract x (x+k)) (x+k) y mg k bc
    else nN a b p x y mg k bc
  | _=>pure (.done (some (p++a.extract x a.size++b.extract y b.size),p,x,y,mg,ac,bc))
def LoQ (key:rG->O.α)(a b:Array rG)(st:se)(n:Nat)(r:ForInStep LoC)(st':se):Prop:=match r with
 | .done c=>Sm st st'/\((∃r p x y mg ac bc,c=(some r,p,x,y,mg,ac,bc)/\cb key a b r)\/∃p x y mg ac bc,c=(none,p,x,y,mg,ac,bc)/\MW key a b p x y/\x+1<a.size/\y<b.size/\n<=p.size)
 | .yield c=>Sm st st'/\∃p x y mg ac bc,c=(none,p,x,y,mg,ac,bc)/\MW key a b p x y/\x+1<a.size/\y<b.size/\n<=p.size
theorem LoQ.out {a b:Array rG}{st st':se}{n:Nat}{r:Array rG}{c:Array rG×Nat×Nat×Nat×Nat×Nat}(sm:Sm st st')(f:cb key a b r):LoQ key a b st n (.done (some r,c)) st':=by
 obtain ⟨p,x,y,mg,ac,bc⟩:=c
 exact ⟨sm,.inl ⟨_,_,_,_,_,_,_,rfl,f⟩⟩
theorem j5 {a b:Array rG}{st st':se}(ha:a.toList.Pairwise (Le key))(hb:b.toList.Pairwise (Le key))(hl:∀p q,p∈b.toList->a[a.size-1]? = some q->Le key p q)
  {o:Array rG} {x y mg ac bc n:Nat} {za:rG} (sm:Sm st st') (ea:a[x]? = some za) (m4:MW key a b (o.push za) (x+1) y) (hx:x+1<a.size) (hy:y<b.size) (hn:n<=o.size):wpS (sh prog w) A E s (nM a b o x y mg ac bc) (LoQ key a b st n) st':=by
 unfold nM
 refine rD (aD ea ?_)
 by_cases d5:(x+1+1 == a.size)=true
 ·rw[if_pos d5]
  exact rH (LoQ.out sm (m4.last ha hb (beq_iff_eq.mp d5) hl))
 rw[if_neg d5]
 have hx2:x+1+1<a.size:=ltq hx d5
 have hn':n<=(o.push za).size:=by rw[uO];exact vU hn
 split
 ·exact rH ⟨sm,.inr ⟨_,_,_,_,_,_,rfl,m4,hx2,hy,hn'⟩⟩
 ·exact rH ⟨sm,_,_,_,_,_,_,rfl,m4,hx2,hy,hn'⟩
theorem j6 (C:Cmp prog w A s O key U κ){a b:Array rG}{st st':se}(hκ:kindOf st=κ)(ua:∀p∈a.toList,U p)(ub:∀p∈b.toList,U p)
  (ha:a.toList.Pairwise (Le key)) (hb:b.toList.Pairwise (Le key)) (hl:∀p q,p∈b.toList->a[a.size-1]? = some q->Le key p q)
  {o:Array rG} {x y mg ac bc n:Nat} {zb:rG} (sm:Sm st st') (eb:b[y]? = some zb) (mk:MW key a b o x y) (bl:∀t∈a.toList.drop x,Le key zb t) (hx1:x+1<a.size) (hy:y<b.size) (hn:n<=o.size):wpS (sh prog w) A E s (nN a b o x y mg ac bc) (LoQ key a b st n) st':=by
 unfold nN
 refine rD (aD eb ?_)
 have m2:=mk.gj eb hb bl
 by_cases d3:(y+1 == b.size)=true
 ·rw[if_pos d3]
  exact rH (LoQ.out sm (m2.kW ha (beq_iff_eq.mp d3)))
 rw[if_neg d3]
 have hy1:y+1<b.size:=ltq hy d3
 have hxa:x<a.size:=wW hx1
 obtain ⟨za,ea⟩:=aE hxa
 refine rD (aD ea ?_)
 refine rD (p9 C (λi=>(b[y+1+i]?).getD za) (sm.k.trans hκ) (ua _ (aU ea)) (λi hi =>?_) (λi hi =>?_) (λi j hij hj =>?_) (yy hy1) λk1 hk1 g1 g2 =>?_)
 ·obtain ⟨z,e⟩:=aE (show y+1+i<b.size by omega)
  rw[e];rfl
 ·obtain ⟨z,e⟩:=aE (show y+1+i<b.size by omega)
  rw[e];exact ub _ (aU e)
 ·obtain ⟨z,e⟩:=aE (show y+1+i<b.size by omega)
  obtain ⟨z',e'⟩:=aE (show y+1+j<b.size by omega)
  rw[e,e'];exact ao hb (aj e) (aj e') (wx hij _)
 dsimp only at g1 g2 ⊢
 have tb:∀j q,j<k1->b.toList[y+1+j]? = some q->∀t∈a.toList.drop x,Le key q t:=λj q hj e t ht=>by
  have z:=g1 j hj
  rw[rq] at e
  rw[e] at z
  obtain ⟨n,hn,e2⟩:=aB ht
  exact sk (sZ z) (ao ha (aj ea) e2 hn)
 have hk1':y+1+k1<=b.size:=by omega
 have m3:=m2.mz (k:=k1) hk1' hb tb
 have bl2:∀t∈b.toList.drop (y+1+k1),Le key za t:=λt ht=>by
  obtain ⟨n,hn,e2⟩:=aB ht
  rw[rq] at e2
  have hn2:n<b.size:=(tZ.mp e2).1
  have z:=g2 (n-(y+1)) (by omega) (by omega)
  rw[show y+1+(n-(y+1))=n by omega,e2] at z
  exact z
 have hn1:n<=(o.push zb).size:=by rw[uO];exact vU hn
 by_cases k2:k1>0
 ·rw[if_pos k2]
  by_cases d4:(y+1+k1 == b.size)=true
  ·rw[if_pos d4]
   exact rH (LoQ.out sm (m3.kW ha (beq_iff_eq.mp d4)))
  rw[if_neg d4]
  exact j5 ha hb hl sm ea (m3.ef ea ha bl2) hx1 (ltq hk1' d4) (su hn1 (by rw[uP];exact tO _ _))
 ·rw[if_neg k2]
  obtain rfl:k1=0:=u5 k2
  exact j5 ha hb hl sm ea (m2.ef ea ha bl2) hx1 hy1 hn1
theorem j7 (C:Cmp prog w A s O key U κ){a b:Array rG}{st st':se}(hκ:kindOf st=κ)(ua:∀p∈a.toList,U p)(ub:∀p∈b.toList,U p)
  (ha:a.toList.Pairwise (Le key)) (hb:b.toList.Pairwise (Le key)) (hl:∀p q,p∈b.toList->a[a.size-1]? = some q->Le key p q)
  {p:Array rG} {x y ac bc n:Nat} (mg:Nat) (sm:Sm st st') (m:MW key a b p x y) (hx:x+1<a.size) (hy:y<b.size) (hn:n<=p.size):wpS (sh prog w) A E s (kY a b p x y ac bc mg) (LoQ key a b st n) st':=by
 unfold kY
 obtain ⟨zb,eb⟩:=aE hy
 refine rD (ux ?_)
 refine rD (aD eb ?_)
 refine rD (p7 C (λi=>(a[x+i]?).getD zb) ((sm.mg _).k.trans hκ) (ub _ (aU eb)) (λi hi =>?_) (λi hi =>?_) (λi j hij hj =>?_) (yy (wW hx)) λk hk h1 h2 =>?_)
 ·obtain ⟨z,e⟩:=aE (show x+i<a.size by omega)
  rw[e];rfl
 ·obtain ⟨z,e⟩:=aE (show x+i<a.size by omega)
  rw[e];exact ua _ (aU e)
 ·obtain ⟨z,e⟩:=aE (show x+i<a.size by omega)
  obtain ⟨z',e'⟩:=aE (show x+j<a.size by omega)
  rw[e,e'];exact ao ha (aj e) (aj e') (wx hij _)
 dsimp only at h1 h2 ⊢
 have ta:∀j q,j<k->a.toList[x+j]? = some q->∀t∈b.toList.drop y,Le key q t:=λj q hj e t ht=>by
  have z:=h1 j hj
  rw[rq] at e
  rw[e] at z
  obtain ⟨n,hn,e2⟩:=aB ht
  exact sk (show O.kle (key q) (key zb) from z) (ao hb (aj eb) e2 hn)
 have hk':x+k<=a.size:=by omega
 have mk:=m.my (k:=k) hk' ha ta
 have bl:∀t∈a.toList.drop (x+k),Le key zb t:=λt ht=>by
  obtain ⟨n,hn,e2⟩:=aB ht
  rw[rq] at e2
  have hn2:n<a.size:=(tZ.mp e2).1
  have z:=h2 (n-x) (by omega) (by omega)
  rw[show x+(n-x)=n by omega,e2] at z
  exact sZ z
 by_cases k0:k>0
 ·rw[if_pos k0]
  by_cases d1:(x+k+1 == a.size)=true
  ·rw[if_pos d1]
   exact rH (LoQ.out (sm.mg _) (mk.last ha hb (beq_iff_eq.mp d1) hl))
  rw[if_neg d1]
  by_cases d2:(x+k == a.size)=true
  ·rw[if_pos d2]
   exact rH (LoQ.out (sm.mg _) (mk.kX hb (beq_iff_eq.mp d2)))
  rw[if_neg d2]
  exact j6 C hκ ua ub ha hb hl (sm.mg _) eb mk bl (ltq (ltq hk' d2) d1) hy (su hn (by rw[uP];exact tO _ _))
 ·rw[if_neg k0]
  obtain rfl:k=0:=u5 k0
  exact j6 C hκ ua ub ha hb hl (sm.mg _) eb m bl hx hy hn
theorem nO (C:Cmp prog w A s O key U κ){a b:Array rG}{st st':se}(hκ:kindOf st=κ)(ua:∀p∈a.toList,U p)(ub:∀p∈b.toList,U p)
  (ha:a.toList.Pairwise (Le key)) (hb:b.toList.Pairwise (Le key)) (hl:∀p q,p∈b.toList->a[a.size-1]? = some q->Le key p q)
  {p:Array rG} {x y ac bc n mg:Nat} (sm:Sm st st') (m:MW key a b p x y) (hx:x+1<a.size) (hy:y<b.size) (hn:n<=p.size):wpS (sh prog w) A E s (if mg>1 then kY a b p x y ac bc (mg-1) else kY a b p x y ac bc mg) (LoQ key a b st n) st':=by
 split
 ·exact j7 C hκ ua ub ha hb hl (mg-1) sm m hx hy hn
 ·exact j7 C hκ ua ub ha hb hl mg sm m hx hy hn
abbrev LoD:=Option (Array rG)×Array rG×Nat×Nat×Nat×Nat
abbrev LoE:=Option (Array rG)×Array rG×Nat×Nat×Nat
def mB (a b:Array rG)(mg:Nat)(c:LoD):StateT se Sem (ForInStep LoD):=do
  let u ← elem' b c.2.2.2.1
  let v ← elem' a c.2.2.1
  let __x ← lt' u v
  match __x with
  | some bw =>
    if bw=true then do
      let z ← elem' b c.2.2.2.1
      if (c.2.2.2.1+1 == b.size)=true then pure (.done (some (c.2.1.push z++a.extract c.2.2.1 a.size++b.extract (c.2.2.2.1+1) b.size),c.2.1.push z,c.2.2.1,c.2.2.2.1+1,0,c.2.2.2.2.2+1))
      else if c.2.2.2.2.2+1≥mg then pure (.done (none,c.2.1.push z,c.2.2.1,c.2.2.2.1+1,0,c.2.2.2.2.2+1))
      else pure (.yield (none,c.2.1.push z,c.2.2.1,c.2.2.2.1+1,0,c.2.2.2.2.2+1))
    else do
      let z ← elem' a c.2.2.1
      if (c.2.2.1+1+1 == a.size)=true then pure (.done (some (c.2.1.push z++b.extract c.2.2.2.1 b.size++a.extract (c.2.2.1+1) a.size),c.2.1.push z,c.2.2.1+1,c.2.2.2.1,c.2.2.2.2.1+1,0))
      else if c.2.2.2.2.1+1≥mg then pure (.done (none,c.2.1.push z,c.2.2.1+1,c.2.2.2.1,c.2.2.2.2.1+1,0))
      else pure (.yield (none,c.2.1.push z,c.2.2.1+1,c.2.2.2.1,c.2.2.2.2.1+1,0))
  | _=>pure (.done (some (c.2.1++a.extract c.2.2.1 a.size++b.extract c.2.2.2.1 b.size),c.2.1,c.2.2.1,c.2.2.2.1,c.2.2.2.2.1,c.2.2.2.2.2))
def qa (a b:Array rG)(c:LoC):StateT se Sem (ForInStep LoC) :=
 if c.2.2.2.2.1>1 then kY a b c.2.1 c.2.2.1 c.2.2.2.1 c.2.2.2.2.2.1 c.2.2.2.2.2.2 (c.2.2.2.2.1-1) else kY a b c.2.1 c.2.2.1 c.2.2.2.1 c.2.2.2.2.2.1 c.2.2.2.2.2.2 c.2.2.2.2.1
def jg (a b:Array rG)(c:LoE):StateT se Sem (ForInStep LoE):=do
  let d ← forIn [0:a.size+b.size] ((none,c.2.1,c.2.2.1,c.2.2.2.1,0,0):LoD) λ_ d=>mB a b c.2.2.2.2 d
  match d.1 with
  | some r=>pure (.done (some r,d.2.1,d.2.2.1,d.2.2.2.1,c.2.2.2.2))
  | none=>do
    rule "list.sort.gallop"
    let e ← forIn [0:a.size+b.size] ((none,d.2.1,d.2.2.1,d.2.2.2.1,c.2.2.2.2+1,d.2.2.2.2.1,d.2.2.2.2.2):LoC) λ_ e=>qa a b e
    match e.1 with
    | some r=>pure (.done (some r,e.2.1,e.2.2.1,e.2.2.2.1,e.2.2.2.2.1))
    | none=>do
      modify (λs=>SortSt.mk' (kindOf s) (rM s) (rY s) (e.2.2.2.2.1+1) (failedOf s))
      pure (.yield (none,e.2.1,e.2.2.1,e.2.2.2.1,e.2.2.2.2.1+1))
theorem nP (a b:Array rG):mLo a b=(do
    rule "list.sort.merge-lo"
    let z ← elem' b 0
    if (1 == b.size)=true then pure (#[z]++a.extract 0 a.size++b.extract 1 b.size)
    else if (0+1 == a.size)=true then pure (#[z]++b.extract 1 b.size++a.extract 0 a.size)
    else do
      let g ← get
      let c ← forIn [0:a.size+b.size] ((none, #[z],0,1,gallopOf g):LoE) λ_ c=>jg a b c
      match c.1 with
      | some r=>pure r
      | none=>unsupported "internal:list.sort.merge-bound"):=by
  kernel_rfl
def LdI (key:rG->O.α)(a b:Array rG)(st:se)(n:Nat)(c:LoD)(st':se):Prop:=Sm st st'/\∃o' x y ac bc,c=(none,o',x,y,ac,bc)/\MW key a b o' x y/\x+1<a.size/\y<b.size/\n<=o'.size
def LdQ (key:rG->O.α)(a b:Array rG)(st:se)(n:Nat)(c:LoD)(st':se):Prop:=Sm st st'/\((∃r o x y ac bc,c=(some r,o,x,y,ac,bc)/\cb key a b r)\/∃o' x y ac bc,c=(none,o',x,y,ac,bc)/\MW key a b o' x y/\x+1<a.size/\y<b.size/\n<=o'.size)
theorem mC (C:Cmp prog w A s O key U κ){a b:Array rG}{st st':se}(hκ:kindOf st=κ)(ua:∀p∈a.toList,U p)(ub:∀p∈b.toList,U p)
  (ha:a.toList.Pairwise (Le key)) (hb:b.toList.Pairwise (Le key)) (hl:∀p q,p∈b.toList->a[a.size-1]? = some q->Le key p q)
  {mg n m':Nat} {c:LoD} (I:LdI key a b st n c st') (hm:m'<=n+1) {Q:ForInStep LoD->se->Prop} (h:∀r st',(match r with | .done c'=>LdQ key a b st (n+1) c' st' | .yield c'=>LdI key a b st m' c' st')->Q r st'):wpS (sh prog w) A E s (mB a b mg c) Q st':=by
 obtain ⟨sm2,o',x,y,ac,bc,rfl,m,hx,hy,hz⟩:=I
 unfold mB
 obtain ⟨za,ea⟩:=aE (wW hx)
 obtain ⟨zb,eb⟩:=aE hy
 refine rD (aD eb (rD (aD ea (rD (C.lt _ st' zb za _ (sm2.k.trans hκ) (ub _ (aU eb)) (ua _ (aU ea)) ?_)))))
 dsimp only
 have sz:∀z,n+1<=(o'.push z).size:=λz=>by rw[uO];exact yM hz
 cases hlt:O.blt (key zb) (key za) with
 | true =>
  rw[if_pos rfl]
  refine rD (aD eb ?_)
  have m1:=m.gj eb hb λt ht=>by
   obtain ⟨n,hn,e⟩:=aB ht
   exact sk (sZ hlt) (ao ha (aj ea) e hn)
  by_cases c3:(y+1 == b.size)=true
  ·rw[if_pos c3]
   exact rH (h _ _ ⟨sm2,.inl ⟨_,_,_,_,_,_,rfl,m1.kW ha (beq_iff_eq.mp c3)⟩⟩)
  ·rw[if_neg c3]
   have c3':=ltq hy c3
   split
   ·exact rH (h _ _ ⟨sm2,.inr ⟨_,_,_,_,_,rfl,m1,hx,c3',sz _⟩⟩)
   ·exact rH (h _ _ ⟨sm2,_,_,_,_,_,rfl,m1,hx,c3',su hm (sz _)⟩)
 | false =>
  rw[if_neg rR]
  refine rD (aD ea ?_)
  have m1:=m.ef ea ha λt ht=>by
   obtain ⟨n,hn,e⟩:=aB ht
   exact sk (show O.kle (key za) (key zb) from hlt) (ao hb (aj eb) e hn)
  by_cases c3:(x+1+1 == a.size)=true
  ·rw[if_pos c3]
   exact rH (h _ _ ⟨sm2,.inl ⟨_,_,_,_,_,_,rfl,m1.last ha hb (beq_iff_eq.mp c3) hl⟩⟩)
  ·rw[if_neg c3]
   have c3':=ltq hx c3
   split
   ·exact rH (h _ _ ⟨sm2,.inr ⟨_,_,_,_,_,rfl,m1,c3',hy,sz _⟩⟩)
   ·exact rH (h _ _ ⟨sm2,_,_,_,_,_,rfl,m1,c3',hy,su hm (sz _)⟩)
def LeI (key:rG->O.α)(a b:Array rG)(st:se)(n:Nat)(c:LoE)(st':se):Prop:=Sm st st'/\∃o x y mg,c=(none,o,x,y,mg)/\MW key a b o x y/\x+1<a.size/\y<b.size/\n+1<=o.size
def LeQ (key:rG->O.α)(a b:Array rG)(st:se)(c:LoE)(st':se):Prop:=Sm st st'/\((∃r o x y mg,c=(some r,o,x,y,mg)/\cb key a b r)\/∃o x y mg,c=(none,o,x,y,mg)/\MW key a b o x y/\x+1<a.size/\y<b.size/\a.size+b.size+1<=o.size)
theorem kZ (C:Cmp prog w A s O key U κ){a b:Array rG}{st st':se}(hκ:kindOf st=κ)(ua:∀p∈a.toList,U p)(ub:∀p∈b.toList,U p)
  (ha:a.toList.Pairwise (Le key)) (hb:b.toList.Pairwise (Le key)) (na:0<a.size) (hl:∀p q,p∈b.toList->a[a.size-1]? = some q->Le key p q)
  {n:Nat} {c:LoE} (I:LeI key a b st n c st'):wpS (sh prog w) A E s (jg a b c) (λr st'=>match r with | .done c'=>LeQ key a b st c' st' | .yield c'=>LeI key a b st (n+1) c' st') st':=by
 obtain ⟨sm1,o,x,y,mg,rfl,m,hx,hy,hz⟩:=I
 unfold jg
 have q1:1<=a.size+b.size:=su na (tO _ _)
 refine rD (ug (sS (I:=λj c st'=>LdI key a b st (o.size+min j 1) c st') (Q:=LdQ key a b st (o.size+1)) (λj c st2 _ hj J=>mC (n:=o.size+min j 1) (m':=o.size+min (j+1) 1) C hκ ua ub ha hb hl J (by omega) λr st' k =>?_) (λc st' J =>?_) ⟨sm1,o,x,y,0,0,rfl,m,hx,hy,rA _⟩) ?_)
 ·cases r with
  | done c'=>exact k.imp id λz=>z.imp id λ⟨o',x,y,ac,bc,e,m,hx,hy,hz⟩=>⟨o',x,y,ac,bc,e,m,hx,hy,by omega⟩
  | yield c'=>exact k
 ·obtain ⟨sm,o',x,y,ac,bc,e,m,hx,hy,hz⟩:=J
  exact ⟨sm,.inr ⟨o',x,y,ac,bc,e,m,hx,hy,by omega⟩⟩
 rintro c st2 ⟨sm2,⟨r,o',x,y,ac,bc,rfl,fr⟩ | ⟨o',x,y,ac,bc,rfl,m,hx,hy,hz2⟩⟩
 ·exact rH ⟨sm2,.inl ⟨_,_,_,_,_,rfl,fr⟩⟩
 dsimp only
 refine rD (xZ (vj ⟨rfl,?_⟩))
 refine rD (ug (sS (I:=λ_ c st'=>LoQ key a b st o'.size (.yield c) st') (Q:=λc st'=>LoQ key a b st o'.size (.done c) st') (λj c st3 _ hj J =>?_) (λc st' J=>⟨J.1,.inr J.2⟩) ⟨sm2,o',x,y,_,ac,bc,rfl,m,hx,hy,rA _⟩) ?_)
 ·obtain ⟨sm3,p,x,y,mg,ac,bc,rfl,m,hx,hy,hz3⟩:=J
  refine ug (nO C hκ ua ub ha hb hl sm3 m hx hy hz3) ?_
  intro r st' h
  cases r <;> exact h
 rintro c st3 ⟨sm3,⟨r,p,x,y,mg,ac,bc,rfl,fr⟩ | ⟨p,x,y,mg,ac,bc,rfl,m,hx,hy,hz3⟩⟩
 ·exact rH ⟨sm3,.inl ⟨_,_,_,_,_,rfl,fr⟩⟩
 ·dsimp only
  exact rD (ux (rH ⟨sm3.mg _,p,x,y,_,rfl,m,hx,hy,by omega⟩))
theorem qb (C:Cmp prog w A s O key U κ){a b:Array rG}{st:se}{Q:Array rG->se->Prop}(hκ:kindOf st=κ)(ua:∀p∈a.toList,U p)(ub:∀p∈b.toList,U p)
  (ha:a.toList.Pairwise (Le key)) (hb:b.toList.Pairwise (Le key)) (na:0<a.size) (nb:0<b.size) (h0:∀p q,b[0]? = some p->a[0]? = some q->Le key p q) (hl:∀p q,p∈b.toList->a[a.size-1]? = some q->Le key p q)
  (h:∀r st',Sm st st'->cb key a b r->Q r st'):wpS (sh prog w) A E s (mLo a b) Q st:=by
 rw[nP]
 refine rD (xZ (vj ⟨rfl,?_⟩))
 obtain ⟨b0,eb0⟩:=aE nb
 obtain ⟨a0,ea0⟩:=aE na
 have a0le:∀t∈a.toList,Le key a0 t:=λt ht=>by
  obtain ⟨i,e⟩:=sH.mp ht
  exact ao ha (aj ea0) e (sM _)
 have m0:MW key a b #[] 0 0:=⟨sM _,sM _,vo _,List.Pairwise.nil,λp hp=>by cases hp⟩
 have m1:MW key a b #[b0] 0 1:=m0.gj eb0 hb λt ht=>sk (h0 _ _ eb0 ea0) (a0le t ht)
 refine rD (aD eb0 ?_)
 by_cases c1:(1 == b.size)=true
 ·rw[if_pos c1]
  exact rH (h _ st (Sm.refl st) (m1.kW ha (beq_iff_eq.mp c1)))
 rw[if_neg c1]
 by_cases c2:(0+1 == a.size)=true
 ·rw[if_pos c2]
  exact rH (h _ st (Sm.refl st) (m1.last ha hb (beq_iff_eq.mp c2) hl))
 rw[if_neg c2]
 refine rD (xk ?_)
 refine rD (ug (sS (I:=λi c st'=>LeI key a b st i c st') (Q:=LeQ key a b st) (λi c st1 _ _ J=>ug (kZ C hκ ua ub ha hb na hl J) λr st' h=>by cases r <;> exact h) (λc st' J =>?_) ⟨Sm.refl st,_,_,_,_,rfl,m1,ltq na c2,ltq nb c1,rA _⟩) ?_)
 ·obtain ⟨sm,o,x,y,mg,e,m,hx,hy,hz⟩:=J
  exact ⟨sm,.inr ⟨o,x,y,mg,e,m,hx,hy,by omega⟩⟩
 rintro c st' ⟨sm,⟨r,o,x,y,mg,rfl,fr⟩ | ⟨o,x,y,mg,rfl,m,hx,hy,hz⟩⟩
 ·exact rH (h r st' sm fr)
 ·have:=m.size
  omega
end
open PySem PyProof.Rows
section
variable  {O:wA}(key:rG->O.α)
structure MV (a b o:Array rG)(x y:Nat):Prop where
 hx:x<=a.size
 hy:y<=b.size
 perm:((a.toList.take x++b.toList.take y)++o.toList.reverse).Perm (a.toList++b.toList)
 sorted:o.toList.reverse.Pairwise (Le key)
 above:∀p∈a.toList.take x++b.toList.take y,∀q∈o.toList.reverse,Le key p q
variable  {key}
theorem MV.fin {a b o:Array rG}{x y:Nat}(m:MV key a b o x y){t:List rG}{r:Array rG}(hr:r.toList=t++o.toList.reverse)(ht:t.Perm (a.toList.take x++b.toList.take y))(hs:t.Pairwise (Le key)):cb key a b r:=by
 unfold cb
 rw[hr]
 exact ⟨(uC _ ht).trans m.perm,tj.mpr ⟨hs,m.sorted,λp hp q hq=>m.above p (ht.mem_iff.mp hp) q hq⟩⟩
theorem MV.take {a b o:Array rG}{x y x' y':Nat}(m:MV key a b o x y){t:List rG}{r:Array rG}(hr:r.toList.reverse=t++o.toList.reverse)(hx:x'<=a.size)(hy:y'<=b.size)
  (ht:((a.toList.take x'++b.toList.take y')++t).Perm (a.toList.take x++b.toList.take y)) (hs:t.Pairwise (Le key)) (hb:∀p∈a.toList.take x'++b.toList.take y',∀q∈t,Le key p q):MV key a b r x' y':=by
 have sub:∀z,z∈a.toList.take x'++b.toList.take y'\/z∈t->z∈a.toList.take x++b.toList.take y:=λz hz=>ht.mem_iff.mp (rV.mpr hz)
 refine ⟨hx,hy,?_,?_,?_⟩
 ·rw[hr, <- rZ]
  exact (uC _ ht).trans m.perm
 ·rw[hr]
  exact tj.mpr ⟨hs,m.sorted,λp hp q hq=>m.above p (sub p (.inr hp)) q hq⟩
 ·rw[hr]
  intro p hp z hz
  rcases rV.mp hz with h | h
  ·exact hb p hp z h
  ·exact m.above p (sub p (.inl hp)) z h
theorem aF {l:List rG}{k:Nat}{t:rG}(h:t∈l.take k):∃j,j<k/\l[j]? = some t:=by
 obtain ⟨n,e⟩:=sH.mp h
 rw[tU] at e
 split at e
 ·exact ⟨n,by omega,e⟩
 ·cases e
theorem gk {l:List rG}{x:Nat}{z:rG}(hx:1<=x)(h:l[x-1]? = some z):l.take x=l.take (x-1)++[z]:=by
 obtain ⟨n,rfl⟩:∃n,x=n+1:=⟨x-1,by omega⟩
 rw[Nat.add_sub_cancel] at h ⊢
 rw[vf,h]
 rfl
theorem j8 (a:Array rG)(c x:Nat)(hx:x<=a.size):(a.extract c x).toList=(a.toList.take x).drop c:=by
 rw[uq,tL,List.drop_take]
theorem cV (a:Array rG)(x:Nat):(a.extract 0 x).toList=a.toList.take x:=by
 rw[uq,tL,yb,Nat.sub_zero]
theorem MV.ef {a b o:Array rG}{x y:Nat}{z:rG}(m:MV key a b o x y)(h1:1<=x)(h:a[x-1]? = some z)(ha:a.toList.Pairwise (Le key))(hb:∀t∈b.toList.take y,Le key t z):MV key a b (o.push z) (x-1) y:=by
 have e:=gk h1 (aj h)
 refine m.take (t:=[z]) (by rw[t8,vz];rfl) (by have:=m.hx;omega) m.hy ?_ (uu _ _) λp hp q hq =>?_
 ·rw[e,rZ,rZ]
  exact tP _ vb
 ·have eq:q=z:=by simpa using hq
  subst eq
  rcases rV.mp hp with r | r
  ·obtain ⟨j,hj,e2⟩:=aF r
   exact ao ha e2 (aj h) (by omega)
  ·exact hb p r
theorem MV.gj {a b o:Array rG}{x y:Nat}{z:rG}(m:MV key a b o x y)(h1:1<=y)(h:b[y-1]? = some z)(hb:b.toList.Pairwise (Le key))(ha:∀t∈a.toList.take x,Le key t z):MV key a b (o.push z) x (y-1):=by
 have e:=gk h1 (aj h)
 refine m.take (t:=[z]) (by rw[t8,vz];rfl) m.hx (by have:=m.hy;omega) ?_ (uu _ _) λp hp q hq =>?_
 ·rw[e,rZ]
 ·have eq:q=z:=by simpa using hq
  subst eq
  rcases rV.mp hp with r | r
  ·exact ha p r
  ·obtain ⟨j,hj,e2⟩:=aF r
   exact ao hb e2 (aj h) (by omega)
theorem j9 (l:List rG){c x:Nat}(h:c<=x):l.take x=l.take c++(l.take x).drop c:=by
 have e:(l.take x).take c=l.take c:=by rw[List.take_take,yR h]
 rw[<- e,uj]
theorem ff {l:List rG}{c x:Nat}{t:rG}(h:t∈(l.take x).drop c):∃j,c<=j/\j<x/\l[j]? = some t:=by
 obtain ⟨j,hj,e⟩:=aB h
 rw[tU] at e
 split at e
 ·exact ⟨j,hj,by omega,e⟩
 ·cases e
theorem MV.my {a b o:Array rG}{x y c:Nat}(m:MV key a b o x y)(hc:c<=x)(ha:a.toList.Pairwise (Le key))(hb:∀j p,c<=j->j<x->a.toList[j]? = some p->∀t∈b.toList.take y,Le key t p):MV key a b (o++(a.extract c x).reverse) c y:=by
 refine m.take (t:=(a.toList.take x).drop c) (by rw[so,vz,uM,x5,j8 _ _ _ m.hx]) (su hc m.hx) m.hy ?_ ?_ λp hp q hq =>?_
 ·refine List.Perm.trans ?_ (uC _ (List.Perm.of_eq (j9 a.toList hc).symm))
  rw[rZ,rZ]
  exact tP _ vb
 ·exact ha.sublist ((sQ _ _).trans (sW _ _))
 ·obtain ⟨j,h1,h2,e⟩:=ff hq
  rcases rV.mp hp with r | r
  ·obtain ⟨i,hi,e2⟩:=aF r
   exact ao ha e2 e (by omega)
  ·exact hb j q h1 h2 e p r
theorem MV.mz {a b o:Array rG}{x y c:Nat}(m:MV key a b o x y)(hc:c<=y)(hb:b.toList.Pairwise (Le key))(ha:∀j p,c<=j->j<y->b.toList[j]? = some p->∀t∈a.toList.take x,Le key t p):MV key a b (o++(b.extract c y).reverse) x c:=by
 refine m.take (t:=(b.toList.take y).drop c) (by rw[so,vz,uM,x5,j8 _ _ _ m.hy]) m.hx (su hc m.hy) ?_ ?_ λp hp q hq =>?_
 ·rw[rZ, <- j9 b.toList hc]
 ·exact hb.sublist ((sQ _ _).trans (sW _ _))
 ·obtain ⟨j,h1,h2,e⟩:=ff hq
  rcases rV.mp hp with r | r
  ·exact ha j q h1 h2 e p r
  ·obtain ⟨i,hi,e2⟩:=aF r
   exact ao hb e2 e (by omega)
theorem MV.kX {a b o:Array rG}{x y:Nat}(m:MV key a b o x y)(hb:b.toList.Pairwise (Le key))(hx:x=0):cb key a b (a.extract 0 x++b.extract 0 y++o.reverse):=by
 subst hx
 refine m.fin (t:=b.toList.take y) (by rw[so,so,cV,cV,uM,vY,vI]) (by rw[vY,vI]) (hb.sublist (sW _ _))
theorem MV.kW {a b o:Array rG}{x y:Nat}(m:MV key a b o x y)(ha:a.toList.Pairwise (Le key))(hy:y=0):cb key a b (a.extract 0 x++b.extract 0 y++o.reverse):=by
 subst hy
 refine m.fin (t:=a.toList.take x) (by rw[so,so,cV,cV,uM,vY,tK]) (by rw[vY,tK]) (ha.sublist (sW _ _))
theorem MV.first {a b o:Array rG}{x y:Nat}(m:MV key a b o x y)(ha:a.toList.Pairwise (Le key))(hb:b.toList.Pairwise (Le key))(hy:y=1)(hl:∀p q,b[0]? = some p->q∈a.toList->Le key p q):cb key a b (b.extract 0 y++a.extract 0 x++o.reverse):=by
 refine m.fin (t:=b.toList.take y++a.toList.take x) (by rw[so,so,cV,cV,uM]) vb ?_
 refine tj.mpr ⟨hb.sublist (sW _ _),ha.sublist (sW _ _),λp hp q hq=>hl p q ?_ (uN hq)⟩
 obtain ⟨i,hi,e⟩:=aF hp
 rw[rq] at e
 rw[show i=0 by omega] at e
 exact e
theorem MV.size {a b o:Array rG}{x y:Nat}(m:MV key a b o x y):o.size+x+y=a.size+b.size:=by
 have e:=m.perm.length_eq
 have h1:=m.hx
 have h2:=m.hy
 simp only[rC,sA,rh,List.length_reverse] at e
 omega
end
open PySem PyProof.Rows
section
variable  {prog:rO}{w:sC}{A:sR}{E:rg->rj->Prop}{s:rj}{O:wA}{key:rG->O.α}{U:rG->Prop}{κ:SortKind}
abbrev HiC:=Option (Array rG)×Nat×Nat×Array rG×Nat×Nat×Nat
def nQ (a b:Array rG)(x y:Nat)(o:Array rG)(mg ac bc:Nat):StateT se Sem (ForInStep HiC):=do
  let z ← elem' a (x-1)
  if (x-1 == 0)=true then pure (.done (some (a.extract 0 (x-1)++b.extract 0 y++(o.push z).reverse),x-1,y,o.push z,mg,ac,bc))
  else if (decide (ac<7) && decide (bc<7))=true then pure (.done (none,x-1,y,o.push z,mg,ac,bc))
  else pure (.yield (none,x-1,y,o.push z,mg,ac,bc))
def nR (a b:Array rG)(x y:Nat)(o:Array rG)(mg ac bc:Nat):StateT se Sem (ForInStep HiC):=do
  let z ← elem' b (y-1)
  if (y-1 == 1)=true then pure (.done (some (b.extract 0 (y-1)++a.extract 0 x++(o.push z).reverse),x,y-1,o.push z,mg,ac,bc))
  else do
    let z2 ← elem' a (x-1)
    let __x ← gal true z2 b 0 (y-1) (y-1-1)
    match __x with
    | some c =>
      if y-1-c>0 then
        if (c == 1)=true then pure (.done (some (b.extract 0 c++a.extract 0 x++(o.push z++(b.extract c (y-1)).reverse).reverse),x,c,o.push z++(b.extract c (y-1)).reverse,mg,ac,y-1-c))
        else if (c == 0)=true then pure (.done (some (a.extract 0 x++b.extract 0 c++(o.push z++(b.extract c (y-1)).reverse).reverse),x,c,o.push z++(b.extract c (y-1)).reverse,mg,ac,y-1-c))
        else nQ a b x c (o.push z++(b.extract c (y-1)).reverse) mg ac (y-1-c)
      else nQ a b x (y-1) (o.push z) mg ac (y-1-c)
    | _=>pure (.done (some (a.extract 0 x++b.extract 0 (y-1)++(o.push z).reverse),x,y-1,o.push z,mg,ac,bc))
def k7 (a b:Array rG)(x y:Nat)(p:Array rG)(ac bc mg:Nat):StateT se Sem (ForInStep HiC):=do
  modify (λs=>SortSt.mk' (kindOf s) (rM s) (rY s) mg (failedOf s))
  let z ← elem' b (y-1)
  let __x ← gal false z a 0 x (x-1)
  match __x with
  | some c =>
    if x-c>0 then
      if (c == 0)=true then pure (.done (some (a.extract 0 c++b.extract 0 y++(p++(a.extract c x).reverse).reverse),c,y,p++(a.extract c x).reverse,mg,x-c,bc))
      else nR a b c y (p++(a.extract c x).reverse) mg (x-c) bc
    else nR a b x y p mg (x-c) bc
  | _=>pure (.done (some (a.extract 0 x++b.extract 0 y++p.reverse),x,y,p,mg,ac,bc))
def HiQ (key:rG->O.α)(a b:Array rG)(st:se)(n:Nat)(r:ForInStep HiC)(st':se):Prop:=match r with
 | .done c=>Sm st st'/\((∃r x y p mg ac bc,c=(some r,x,y,p,mg,ac,bc)/\cb key a b r)\/∃x y p mg ac bc,c=(none,x,y,p,mg,ac,bc)/\MV key a b p x y/\1<=x/\2<=y/\n<=p.size)
 | .yield c=>Sm st st'/\∃x y p mg ac bc,c=(none,x,y,p,mg,ac,bc)/\MV key a b p x y/\1<=x/\2<=y/\n<=p.size
theorem HiQ.out {a b:Array rG}{st st':se}{n:Nat}{r:Array rG}{c:Nat×Nat×Array rG×Nat×Nat×Nat}(sm:Sm st st')(f:cb key a b r):HiQ key a b st n (.done (some r,c)) st':=by
 obtain ⟨p,x,y,mg,ac,bc⟩:=c
 exact ⟨sm,.inl ⟨_,_,_,_,_,_,_,rfl,f⟩⟩
theorem mD {x:Nat}(c:¬ (x == 0)=true):1<=x:=Nat.pos_of_ne_zero λz=>c (beq_iff_eq.mpr z)
theorem nS {y:Nat}(h:1<=y)(c:¬ (y == 1)=true):2<=y:=yo h λz=>c (beq_iff_eq.mpr z.symm)
theorem kg {a b:Array rG}{st st':se}(hb:b.toList.Pairwise (Le key))
  {o:Array rG} {x y mg ac bc n:Nat} {za:rG} (sm:Sm st st') (ea:a[x-1]? = some za) (m4:MV key a b (o.push za) (x-1) y) (hy:2<=y) (hn:n<=o.size):wpS (sh prog w) A E s (nQ a b x y o mg ac bc) (HiQ key a b st n) st':=by
 unfold nQ
 refine rD (aD ea ?_)
 by_cases d5:(x-1 == 0)=true
 ·rw[if_pos d5]
  exact rH (HiQ.out sm (m4.kX hb (beq_iff_eq.mp d5)))
 rw[if_neg d5]
 have hx2:=mD d5
 have hn':n<=(o.push za).size:=by rw[uO];exact vU hn
 split
 ·exact rH ⟨sm,.inr ⟨_,_,_,_,_,_,rfl,m4,hx2,hy,hn'⟩⟩
 ·exact rH ⟨sm,_,_,_,_,_,_,rfl,m4,hx2,hy,hn'⟩
theorem kh (C:Cmp prog w A s O key U κ){a b:Array rG}{st st':se}(hκ:kindOf st=κ)(ua:∀p∈a.toList,U p)(ub:∀p∈b.toList,U p)
  (ha:a.toList.Pairwise (Le key)) (hb:b.toList.Pairwise (Le key)) (h0:∀p q,b[0]? = some p->q∈a.toList->Le key p q)
  {o:Array rG} {x y mg ac bc n:Nat} {zb:rG} (sm:Sm st st') (eb:b[y-1]? = some zb) (mk:MV key a b o x y) (bl:∀t∈a.toList.take x,Le key t zb) (hx1:1<=x) (hy:2<=y) (hn:n<=o.size):wpS (sh prog w) A E s (nR a b x y o mg ac bc) (HiQ key a b st n) st':=by
 unfold nR
 refine rD (aD eb ?_)
 have m2:=mk.gj (yz hy) eb hb bl
 have y1:1<=y-1:=ur hy
 have bx1:=mk.hx
 have by1:=mk.hy
 by_cases d3:(y-1 == 1)=true
 ·rw[if_pos d3]
  exact rH (HiQ.out sm (m2.first ha hb (beq_iff_eq.mp d3) h0))
 rw[if_neg d3]
 have hy1:=nS y1 d3
 obtain ⟨za,ea⟩:=aE (show x-1<a.size by omega)
 refine rD (aD ea ?_)
 refine rD (p9 C (λi=>(b[i]?).getD za) (sm.k.trans hκ) (ua _ (aU ea)) (λi hi =>?_) (λi hi =>?_) (λi j hij hj =>?_) (wg y1) λc2 hc2 g1 g2 =>?_)
 ·obtain ⟨z,e⟩:=aE (show i<b.size by omega)
  rw[vc,e];rfl
 ·obtain ⟨z,e⟩:=aE (show i<b.size by omega)
  rw[e];exact ub _ (aU e)
 ·obtain ⟨z,e⟩:=aE (show i<b.size by omega)
  obtain ⟨z',e'⟩:=aE (show j<b.size by omega)
  rw[e,e'];exact ao hb (aj e) (aj e') hij
 dsimp only at g1 g2 ⊢
 have tb:∀j q,c2<=j->j<y-1->b.toList[j]? = some q->∀t∈a.toList.take x,Le key t q:=λj q hj hj2 e t ht=>by
  have z:=g2 j hj hj2
  rw[rq] at e
  rw[e] at z
  obtain ⟨n,hn,e2⟩:=aF ht
  exact sk (ao ha e2 (aj ea) (ur hn)) z
 have m3:=m2.mz hc2 hb tb
 have bl2:∀t∈b.toList.take c2,Le key t za:=λt ht=>by
  obtain ⟨n,hn,e2⟩:=aF ht
  rw[rq] at e2
  have z:=g1 n hn
  rw[e2] at z
  exact sZ z
 have hn1:n<=(o.push zb).size:=by rw[uO];exact vU hn
 by_cases k2:y-1-c2>0
 ·rw[if_pos k2]
  by_cases d4:(c2 == 1)=true
  ·rw[if_pos d4]
   exact rH (HiQ.out sm (m3.first ha hb (beq_iff_eq.mp d4) h0))
  rw[if_neg d4]
  by_cases d6:(c2 == 0)=true
  ·rw[if_pos d6]
   exact rH (HiQ.out sm (m3.kW ha (beq_iff_eq.mp d6)))
  rw[if_neg d6]
  exact kg hb sm ea (m3.ef hx1 ea ha bl2) (nS (mD d6) d4) (su hn1 (by rw[uP];exact tO _ _))
 ·rw[if_neg k2]
  have ec2:c2=y-1:=vJ hc2 (xJ (u5 k2))
  rw[ec2] at bl2
  exact kg hb sm ea (m2.ef hx1 ea ha bl2) hy1 hn1
theorem ki (C:Cmp prog w A s O key U κ){a b:Array rG}{st st':se}(hκ:kindOf st=κ)(ua:∀p∈a.toList,U p)(ub:∀p∈b.toList,U p)
  (ha:a.toList.Pairwise (Le key)) (hb:b.toList.Pairwise (Le key)) (h0:∀p q,b[0]? = some p->q∈a.toList->Le key p q)
  {p:Array rG} {x y ac bc n:Nat} (mg:Nat) (sm:Sm st st') (m:MV key a b p x y) (hx:1<=x) (hy:2<=y) (hn:n<=p.size):wpS (sh prog w) A E s (k7 a b x y p ac bc mg) (HiQ key a b st n) st':=by
 unfold k7
 have bx:=m.hx
 have by':=m.hy
 obtain ⟨zb,eb⟩:=aE (show y-1<b.size by omega)
 refine rD (ux ?_)
 refine rD (aD eb ?_)
 refine rD (p7 C (λi=>(a[i]?).getD zb) ((sm.mg _).k.trans hκ) (ub _ (aU eb)) (λi hi =>?_) (λi hi =>?_) (λi j hij hj =>?_) (wg hx) λc hc h1 h2 =>?_)
 ·obtain ⟨z,e⟩:=aE (rF hi bx)
  rw[vc,e];rfl
 ·obtain ⟨z,e⟩:=aE (rF hi bx)
  rw[e];exact ua _ (aU e)
 ·obtain ⟨z,e⟩:=aE (show i<a.size by omega)
  obtain ⟨z',e'⟩:=aE (show j<a.size by omega)
  rw[e,e'];exact ao ha (aj e) (aj e') hij
 dsimp only at h1 h2 ⊢
 have ta:∀j q,c<=j->j<x->a.toList[j]? = some q->∀t∈b.toList.take y,Le key t q:=λj q hj hj2 e t ht=>by
  have z:=h2 j hj hj2
  rw[rq] at e
  rw[e] at z
  obtain ⟨n,hn,e2⟩:=aF ht
  exact sk (ao hb e2 (aj eb) (ur hn)) (sZ z)
 have mk:=m.my hc ha ta
 have bl:∀t∈a.toList.take c,Le key t zb:=λt ht=>by
  obtain ⟨n,hn,e2⟩:=aF ht
  rw[rq] at e2
  have z:=h1 n hn
  rw[e2] at z
  exact z
 by_cases k0:x-c>0
 ·rw[if_pos k0]
  by_cases d1:(c == 0)=true
  ·rw[if_pos d1]
   exact rH (HiQ.out (sm.mg _) (mk.kX hb (beq_iff_eq.mp d1)))
  rw[if_neg d1]
  exact kh C hκ ua ub ha hb h0 (sm.mg _) eb mk bl (mD d1) hy (su hn (by rw[uP];exact tO _ _))
 ·rw[if_neg k0]
  have ec:c=x:=vJ hc (xJ (u5 k0))
  rw[ec] at bl
  exact kh C hκ ua ub ha hb h0 (sm.mg _) eb m bl hx hy hn
theorem nU (C:Cmp prog w A s O key U κ){a b:Array rG}{st st':se}(hκ:kindOf st=κ)(ua:∀p∈a.toList,U p)(ub:∀p∈b.toList,U p)
  (ha:a.toList.Pairwise (Le key)) (hb:b.toList.Pairwise (Le key)) (h0:∀p q,b[0]? = some p->q∈a.toList->Le key p q)
  {p:Array rG} {x y ac bc n mg:Nat} (sm:Sm st st') (m:MV key a b p x y) (hx:1<=x) (hy:2<=y) (hn:n<=p.size):wpS (sh prog w) A E s (if mg>1 then k7 a b x y p ac bc (mg-1) else k7 a b x y p ac bc mg) (HiQ key a b st n) st':=by
 split
 ·exact ki C hκ ua ub ha hb h0 (mg-1) sm m hx hy hn
 ·exact ki C hκ ua ub ha hb h0 mg sm m hx hy hn
abbrev HiD:=Option (Array rG)×Nat×Nat×Array rG×Nat×Nat
abbrev HiE:=Option (Array rG)×Nat×Nat×Array rG×Nat
def mE (a b:Array rG)(mg:Nat)(c:HiD):StateT se Sem (ForInStep HiD):=do
  let u ← elem' b (c.2.2.1-1)
  let v ← elem' a (c.2.1-1)
  let __x ← lt' u v
  match __x with
  | some aw =>
    if aw=true then do
      let z ← elem' a (c.2.1-1)
      if (c.2.1-1 == 0)=true then pure (.done (some (a.extract 0 (c.2.1-1)++b.extract 0 c.2.2.1++(c.2.2.2.1.push z).reverse),c.2.1-1,c.2.2.1,c.2.2.2.1.push z,c.2.2.2.2.1+1,0))
      else if c.2.2.2.2.1+1≥mg then pure (.done (none,c.2.1-1,c.2.2.1,c.2.2.2.1.push z,c.2.2.2.2.1+1,0))
      else pure (.yield (none,c.2.1-1,c.2.2.1,c.2.2.2.1.push z,c.2.2.2.2.1+1,0))
    else do
      let z ← elem' b (c.2.2.1-1)
      if (c.2.2.1-1 == 1)=true then pure (.done (some (b.extract 0 (c.2.2.1-1)++a.extract 0 c.2.1++(c.2.2.2.1.push z).reverse),c.2.1,c.2.2.1-1,c.2.2.2.1.push z,0,c.2.2.2.2.2+1))
      else if c.2.2.2.2.2+1≥mg then pure (.done (none,c.2.1,c.2.2.1-1,c.2.2.2.1.push z,0,c.2.2.2.2.2+1))
      else pure (.yield (none,c.2.1,c.2.2.1-1,c.2.2.2.1.push z,0,c.2.2.2.2.2+1))
  | _=>pure (.done (some (a.extract 0 c.2.1++b.extract 0 c.2.2.1++c.2.2.2.1.reverse),c.2.1,c.2.2.1,c.2.2.2.1,c.2.2.2.2.1,c.2.2.2.2.2))
def qc (a b:Array rG)(c:HiC):StateT se Sem (ForInStep HiC) :=
 if c.2.2.2.2.1>1 then k7 a b c.2.1 c.2.2.1 c.2.2.2.1 c.2.2.2.2.2.1 c.2.2.2.2.2.2 (c.2.2.2.2.1-1) else k7 a b c.2.1 c.2.2.1 c.2.2.2.1 c.2.2.2.2.2.1 c.2.2.2.2.2.2 c.2.2.2.2.1
def jh (a b:Array rG)(c:HiE):StateT se Sem (ForInStep HiE):=do
  let d ← forIn [0:a.size+b.size] ((none,c.2.1,c.2.2.1,c.2.2.2.1,0,0):HiD) λ_ d=>mE a b c.2.2.2.2 d
  match d.1 with
  | some r=>pure (.done (some r,d.2.1,d.2.2.1,d.2.2.2.1,c.2.2.2.2))
  | none=>do
    rule "list.sort.gallop"
    let e ← forIn [0:a.size+b.size] ((none,d.2.1,d.2.2.1,d.2.2.2.1,c.2.2.2.2+1,d.2.2.2.2.1,d.2.2.2.2.2):HiC) λ_ e=>qc a b e
    match e.1 with
    | some r=>pure (.done (some r,e.2.1,e.2.2.1,e.2.2.2.1,e.2.2.2.2.1))
    | none=>do
      modify (λs=>SortSt.mk' (kindOf s) (rM s) (rY s) (e.2.2.2.2.1+1) (failedOf s))
      pure (.yield (none,e.2.1,e.2.2.1,e.2.2.2.1,e.2.2.2.2.1+1))
theorem nV (a b:Array rG):mHi a b=(do
    rule "list.sort.merge-hi"
    let z ← elem' a (a.size-1)
    if (a.size-1 == 0)=true then pure (a.extract 0 (a.size-1)++b.extract 0 b.size++(#[z]:Array rG).reverse)
    else if (b.size == 1)=true then pure (b.extract 0 b.size++a.extract 0 (a.size-1)++(#[z]:Array rG).reverse)
    else do
      let g ← get
      let c ← forIn [0:a.size+b.size] ((none,a.size-1,b.size, #[z],gallopOf g):HiE) λ_ c=>jh a b c
      match c.1 with
      | some r=>pure r
      | none=>unsupported "internal:list.sort.merge-bound"):=by
  kernel_rfl
def HdI (key:rG->O.α)(a b:Array rG)(st:se)(n:Nat)(c:HiD)(st':se):Prop:=Sm st st'/\∃x y o' ac bc,c=(none,x,y,o',ac,bc)/\MV key a b o' x y/\1<=x/\2<=y/\n<=o'.size
def HdQ (key:rG->O.α)(a b:Array rG)(st:se)(n:Nat)(c:HiD)(st':se):Prop:=Sm st st'/\((∃r x y o ac bc,c=(some r,x,y,o,ac,bc)/\cb key a b r)\/∃x y o' ac bc,c=(none,x,y,o',ac,bc)/\MV key a b o' x y/\1<=x/\2<=y/\n<=o'.size)
theorem mF (C:Cmp prog w A s O key U κ){a b:Array rG}{st st':se}(hκ:kindOf st=κ)(ua:∀p∈a.toList,U p)(ub:∀p∈b.toList,U p)
  (ha:a.toList.Pairwise (Le key)) (hb:b.toList.Pairwise (Le key)) (h0:∀p q,b[0]? = some p->q∈a.toList->Le key p q)
  {mg n m':Nat} {c:HiD} (I:HdI key a b st n c st') (hm:m'<=n+1) {Q:ForInStep HiD->se->Prop} (h:∀r st',(match r with | .done c'=>HdQ key a b st (n+1) c' st' | .yield c'=>HdI key a b st m' c' st')->Q r st'):wpS (sh prog w) A E s (mE a b mg c) Q st':=by
 obtain ⟨sm2,x,y,o',ac,bc,rfl,m,hx,hy,hz⟩:=I
 unfold mE
 have bx:=m.hx
 have by':=m.hy
 obtain ⟨za,ea⟩:=aE (show x-1<a.size by omega)
 obtain ⟨zb,eb⟩:=aE (show y-1<b.size by omega)
 refine rD (aD eb (rD (aD ea (rD (C.lt _ st' zb za _ (sm2.k.trans hκ) (ub _ (aU eb)) (ua _ (aU ea)) ?_)))))
 dsimp only
 have sz:∀z,n+1<=(o'.push z).size:=λz=>by rw[uO];exact yM hz
 cases hlt:O.blt (key zb) (key za) with
 | true =>
  rw[if_pos rfl]
  refine rD (aD ea ?_)
  have m1:=m.ef hx ea ha λt ht=>by
   obtain ⟨n,hn,e⟩:=aF ht
   exact sk (ao hb e (aj eb) (ur hn)) (sZ hlt)
  by_cases c3:(x-1 == 0)=true
  ·rw[if_pos c3]
   exact rH (h _ _ ⟨sm2,.inl ⟨_,_,_,_,_,_,rfl,m1.kX hb (beq_iff_eq.mp c3)⟩⟩)
  ·rw[if_neg c3]
   have c3':=mD c3
   split
   ·exact rH (h _ _ ⟨sm2,.inr ⟨_,_,_,_,_,rfl,m1,c3',hy,sz _⟩⟩)
   ·exact rH (h _ _ ⟨sm2,_,_,_,_,_,rfl,m1,c3',hy,su hm (sz _)⟩)
 | false =>
  rw[if_neg rR]
  refine rD (aD eb ?_)
  have m1:=m.gj (yz hy) eb hb λt ht=>by
   obtain ⟨n,hn,e⟩:=aF ht
   exact sk (ao ha e (aj ea) (ur hn)) (show O.kle (key za) (key zb) from hlt)
  by_cases c3:(y-1 == 1)=true
  ·rw[if_pos c3]
   exact rH (h _ _ ⟨sm2,.inl ⟨_,_,_,_,_,_,rfl,m1.first ha hb (beq_iff_eq.mp c3) h0⟩⟩)
  ·rw[if_neg c3]
   have c3':=nS (ur hy) c3
   split
   ·exact rH (h _ _ ⟨sm2,.inr ⟨_,_,_,_,_,rfl,m1,hx,c3',sz _⟩⟩)
   ·exact rH (h _ _ ⟨sm2,_,_,_,_,_,rfl,m1,hx,c3',su hm (sz _)⟩)
def HeI (key:rG->O.α)(a b:Array rG)(st:se)(n:Nat)(c:HiE)(st':se):Prop:=Sm st st'/\∃x y o mg,c=(none,x,y,o,mg)/\MV key a b o x y/\1<=x/\2<=y/\n+1<=o.size
def HeQ (key:rG->O.α)(a b:Array rG)(st:se)(c:HiE)(st':se):Prop:=Sm st st'/\((∃r x y o mg,c=(some r,x,y,o,mg)/\cb key a b r)\/∃x y o mg,c=(none,x,y,o,mg)/\MV key a b o x y/\1<=x/\2<=y/\a.size+b.size+1<=o.size)
theorem k8 (C:Cmp prog w A s O key U κ){a b:Array rG}{st st':se}(hκ:kindOf st=κ)(ua:∀p∈a.toList,U p)(ub:∀p∈b.toList,U p)
  (ha:a.toList.Pairwise (Le key)) (hb:b.toList.Pairwise (Le key)) (h0:∀p q,b[0]? = some p->q∈a.toList->Le key p q) (na:0<a.size)
  {n:Nat} {c:HiE} (I:HeI key a b st n c st'):wpS (sh prog w) A E s (jh a b c) (λr st'=>match r with | .done c'=>HeQ key a b st c' st' | .yield c'=>HeI key a b st (n+1) c' st') st':=by
 obtain ⟨sm1,x,y,o,mg,rfl,m,hx,hy,hz⟩:=I
 unfold jh
 have q1:1<=a.size+b.size:=su na (tO _ _)
 refine rD (ug (sS (I:=λj c st'=>HdI key a b st (o.size+min j 1) c st') (Q:=HdQ key a b st (o.size+1)) (λj c st2 _ hj J=>mF (n:=o.size+min j 1) (m':=o.size+min (j+1) 1) C hκ ua ub ha hb h0 J (by omega) λr st' k =>?_) (λc st' J =>?_) ⟨sm1,x,y,o,0,0,rfl,m,hx,hy,rA _⟩) ?_)
 ·cases r with
  | done c'=>exact k.imp id λz=>z.imp id λ⟨x,y,o',ac,bc,e,m,hx,hy,hz⟩=>⟨x,y,o',ac,bc,e,m,hx,hy,by omega⟩
  | yield c'=>exact k
 ·obtain ⟨sm,x,y,o',ac,bc,e,m,hx,hy,hz⟩:=J
  exact ⟨sm,.inr ⟨x,y,o',ac,bc,e,m,hx,hy,by omega⟩⟩
 rintro c st2 ⟨sm2,⟨r,x,y,o',ac,bc,rfl,fr⟩ | ⟨x,y,o',ac,bc,rfl,m,hx,hy,hz2⟩⟩
 ·exact rH ⟨sm2,.inl ⟨_,_,_,_,_,rfl,fr⟩⟩
 dsimp only
 refine rD (xZ (vj ⟨rfl,?_⟩))
 refine rD (ug (sS (I:=λ_ c st'=>HiQ key a b st o'.size (.yield c) st') (Q:=λc st'=>HiQ key a b st o'.size (.done c) st') (λj c st3 _ hj J =>?_) (λc st' J=>⟨J.1,.inr J.2⟩) ⟨sm2,x,y,o',_,ac,bc,rfl,m,hx,hy,rA _⟩) ?_)
 ·obtain ⟨sm3,x,y,p,mg,ac,bc,rfl,m,hx,hy,hz3⟩:=J
  refine ug (nU C hκ ua ub ha hb h0 sm3 m hx hy hz3) ?_
  intro r st' h
  cases r <;> exact h
 rintro c st3 ⟨sm3,⟨r,x,y,p,mg,ac,bc,rfl,fr⟩ | ⟨x,y,p,mg,ac,bc,rfl,m,hx,hy,hz3⟩⟩
 ·exact rH ⟨sm3,.inl ⟨_,_,_,_,_,rfl,fr⟩⟩
 ·dsimp only
  exact rD (ux (rH ⟨sm3.mg _,x,y,p,_,rfl,m,hx,hy,by omega⟩))
theorem qd (C:Cmp prog w A s O key U κ){a b:Array rG}{st:se}{Q:Array rG->se->Prop}(hκ:kindOf st=κ)(ua:∀p∈a.toList,U p)(ub:∀p∈b.toList,U p)
  (ha:a.toList.Pairwise (Le key)) (hb:b.toList.Pairwise (Le key)) (na:0<a.size) (nb:0<b.size) (h0:∀p q,b[0]? = some p->q∈a.toList->Le key p q) (hl:∀p q,p∈b.toList->a[a.size-1]? = some q->Le key p q)
  (h:∀r st',Sm st st'->cb key a b r->Q r st'):wpS (sh prog w) A E s (mHi a b) Q st:=by
 rw[nV]
 refine rD (xZ (vj ⟨rfl,?_⟩))
 obtain ⟨a0,ea0⟩:=aE (wg na)
 have m0:MV key a b #[] a.size b.size:=by
  refine ⟨rA _,rA _,?_,List.Pairwise.nil,λp _ q hq=>by cases hq⟩
  rw[sN (by rw[rh];exact rA _),sN (by rw[rh];exact rA _)]
  show (a.toList++b.toList++[]).Perm _
  rw[tK]
 have m1:MV key a b #[a0] (a.size-1) b.size:=m0.ef na ea0 ha λt ht=>hl t a0 (uN ht) ea0
 refine rD (aD ea0 ?_)
 by_cases c1:(a.size-1 == 0)=true
 ·rw[if_pos c1]
  exact rH (h _ st (Sm.refl st) (m1.kX hb (beq_iff_eq.mp c1)))
 rw[if_neg c1]
 by_cases c2:(b.size == 1)=true
 ·rw[if_pos c2]
  exact rH (h _ st (Sm.refl st) (m1.first ha hb (beq_iff_eq.mp c2) h0))
 rw[if_neg c2]
 refine rD (xk ?_)
 refine rD (ug (sS (I:=λi c st'=>HeI key a b st i c st') (Q:=HeQ key a b st) (λi c st1 _ _ J=>ug (k8 C hκ ua ub ha hb h0 na J) λr st' h=>by cases r <;> exact h) (λc st' J =>?_) ⟨Sm.refl st,_,_,_,_,rfl,m1,mD c1,nS nb c2,rA _⟩) ?_)
 ·obtain ⟨sm,x,y,o,mg,e,m,hx,hy,hz⟩:=J
  exact ⟨sm,.inr ⟨x,y,o,mg,e,m,hx,hy,by omega⟩⟩
 rintro c st' ⟨sm,⟨r,x,y,o,mg,rfl,fr⟩ | ⟨x,y,o,mg,rfl,m,hx,hy,hz⟩⟩
 ·exact rH (h r st' sm fr)
 ·have:=m.size
  omega
end
open PySem PyProof.Rows
theorem qe (i:Nat):mAt i=(do
    let s ← get
    let (some (sa,na,pw),some (sb,nb,_)):=((rY s)[i]?,(rY s)[i+1]?) | unsupported "internal:list.sort.pending"
    set (SortSt.mk' (kindOf s) (rM s) (((rY s).setIfInBounds i (sa,na+nb,pw)).eraseIdxIfInBounds (i+1)) (gallopOf s) (failedOf s))
    let some k ← gal false (← elem' (rM s) sb) (rM s) sa na 0 | return false
    let (sa,na):=(sa+k,na-k)
    if na == 0 then return true
    let some nb ← gal true (← elem' (rM s) (sa+na-1)) (rM s) sb nb (nb-1) | return false
    if nb == 0 then return true
    let x:=(rM s).extract sa sb
    let y:=(rM s).extract sb (sb+nb)
    let mm ← if na<=nb then mLo x y else mHi x y
    modify λs=>setArr s (mm.toList.zipIdx.foldl (λa (p,j)=>a.setIfInBounds (sa+j) p) (rM s))
    return (failedOf (← get)).isNone):=rfl
theorem dz {α:Type}(p r:List α)(k:Nat):(p++r).drop (p.length+k)=r.drop k:=by
 rw[<- zd,wM]
theorem ji {α:Type}(p r:List α)(k:Nat):(p++r)[p.length+k]? = r[k]? := by
 rw[tY (by omega),uV]
theorem oW {α:Type}(p a r:List α){k:Nat}(h:k<a.length):(p++(a++r))[p.length+k]? = a[k]? := by
 rw[ji,ud h]
theorem written (l:List rG):∀(c n:Nat) (a:Array rG),c+n+l.length<=a.size->((l.zipIdx n).foldl (λ(a:Array rG) (pj:rG×Nat)=>a.setIfInBounds (c+pj.2) pj.1) a).toList=a.toList.take (c+n)++l++a.toList.drop (c+n+l.length):=by
 induction l with
 | nil=>intro c n a _;simp
 | cons z l ih =>
  intro c n a h
  rw[rL] at h
  rw[xq,yS,ih c (n+1) _ (by rw[wX];omega)]
  have e:(a.setIfInBounds (c+n) z).toList=a.toList.set (c+n) z:=wD ..
  rw[e]
  have lt:c+n<a.toList.length:=by rw[rh];omega
  have t1:(a.toList.set (c+n) z).take (c+(n+1))=a.toList.take (c+n)++[z]:=by
   rw[show c+(n+1)=c+n+1 by omega,vf,List.take_set_of_le (rA _),vR lt]
   rfl
  have t2:(a.toList.set (c+n) z).drop (c+(n+1)+l.length)=a.toList.drop (c+n+(l.length+1)):=by
   rw[List.drop_set_of_lt (by omega),show c+(n+1)+l.length=c+n+(l.length+1) by omega]
  rw[t1,t2,rL]
  simp
section
variable  {prog:rO}{w:sC}{A:sR}{E:rg->rj->Prop}{s:rj}{O:wA}{key:rG->O.α}{U:rG->Prop}{κ:SortKind}
theorem qf (C:Cmp prog w A s O key U κ){i pw pw2:Nat}{st:se}{Q:Bool->se->Prop}{P X Y S:List rG}(hκ:kindOf st=κ)(hf:failedOf st=none)
    (ha:(rM st).toList=P++(X++(Y++S))) (hu:∀p∈(rM st).toList,U p) (h1:(rY st)[i]? = some (P.length,X.length,pw)) (h2:(rY st)[i+1]? = some (P.length+X.length,Y.length,pw2))
    (nx:0<X.length) (ny:0<Y.length) (sx:X.Pairwise (Le key)) (sy:Y.Pairwise (Le key))
    (h:∀st' M,M.Perm (X++Y)->M.Pairwise (Le key)->(rM st').toList=P++(M++S)->rY st'=((rY st).setIfInBounds i (P.length,X.length+Y.length,pw)).eraseIdxIfInBounds (i+1)->kindOf st'=κ -> failedOf st'=none->Q true st') :
    wpS (sh prog w) A E s (mAt i) Q st:=by
  rw[qe]
  refine rD (xk ?_)
  rw[h1,h2]
  dsimp only
  refine rD (show wpS (sh prog w) A E s (modify λ_=>SortSt.mk' (kindOf st) (rM st) (((rY st).setIfInBounds i (P.length,X.length+Y.length,pw)).eraseIdxIfInBounds (i+1)) (gallopOf st) (failedOf st)) _ st from ux ?_)
  generalize hst1:SortSt.mk' (kindOf st) (rM st) (((rY st).setIfInBounds i (P.length,X.length+Y.length,pw)).eraseIdxIfInBounds (i+1)) (gallopOf st) (failedOf st)=st1
  have k1:kindOf st1=κ:=by rw[<- hst1];exact hκ
  have a1:rM st1=rM st:=by rw[<- hst1]
  have p1:rY st1=((rY st).setIfInBounds i (P.length,X.length+Y.length,pw)).eraseIdxIfInBounds (i+1):=by rw[<- hst1]
  have f1:failedOf st1=none:=by rw[<- hst1];exact hf
  have sz:(rM st).size=P.length+X.length+Y.length+S.length:=by
    rw[<- rh,ha];simp only[rC];omega
  have atX:∀j,j<X.length->(rM st)[P.length+j]? = X[j]? := λj hj=>by
    rw[<- rq,ha,oW _ _ _ hj]
  have atY:∀j,j<Y.length->(rM st)[P.length+X.length+j]? = Y[j]? := λj hj=>by
    rw[<- rq,ha, <- rZ,show P.length+X.length+j=(P++X).length+j by rw[rC],oW _ _ _ hj]
  have uX:∀p∈X,U p:=λp hp=>hu p (by rw[ha];simp[hp])
  have uY:∀p∈Y,U p:=λp hp=>hu p (by rw[ha];simp[hp])
  have xget:∀j,j<X.length->∃z,X[j]? = some z:=λj hj=>⟨X[j],by simp[hj]⟩
  have yget:∀j,j<Y.length->∃z,Y[j]? = some z:=λj hj=>⟨Y[j],by simp[hj]⟩
  obtain ⟨y0,ey0⟩:=yget 0 ny
  have plain:(∀p∈X,∀q∈Y,Le key p q)->Q true st1:=λhle=>h st1 (X++Y) (vo _) (tj.mpr ⟨sx,sy,hle⟩) (by rw[a1,ha,rZ]) p1 k1 f1
  refine rD (aD (z:=y0) (by rw[show P.length+X.length=P.length+X.length+0 by omega,atY 0 ny];exact ey0) ?_)
  refine rD (p7 C (λj=>(X[j]?).getD y0) k1 (uY _ (rT ey0)) (λj hj =>?_) (λj hj =>?_) (λi j hij hj =>?_) nx λk hk g1 g2 =>?_)
  · obtain ⟨z,e⟩:=xget j hj
    rw[atX j hj,e];rfl
  · obtain ⟨z,e⟩:=xget j hj
    rw[e];exact uX _ (rT e)
  · obtain ⟨z,e⟩:=xget i (by omega)
    obtain ⟨z',e'⟩:=xget j hj
    rw[e,e'];exact ao sx e e' hij
  dsimp only at g1 g2 ⊢
  have y0le:∀q∈Y,Le key y0 q:=λq hq=>by
    obtain ⟨n,e⟩:=sH.mp hq
    exact ao sy ey0 e (sM _)
  by_cases c1:(X.length-k == 0)=true
  · rw[if_pos c1]
    refine rH (plain λp hp q hq =>?_)
    obtain ⟨n,e⟩:=sH.mp hp
    have hn:n<X.length:=(rE.mp e).1
    have z:=g1 n (by have:=beq_iff_eq.mp c1;omega)
    rw[e] at z
    exact sk z (y0le q hq)
  rw[if_neg c1]
  have kx:k<X.length:=by have:X.length-k≠0:=λz=>c1 (beq_iff_eq.mpr z);omega
  obtain ⟨xl,exl⟩:=xget (X.length-1) (by omega)
  have xlle:∀p∈X,Le key p xl:=λp hp=>by
    obtain ⟨n,e⟩:=sH.mp hp
    have hn:n<X.length:=(rE.mp e).1
    exact ao sx e exl (by omega)
  refine rD (aD (z:=xl) (by rw[show P.length+k+(X.length-k)-1=P.length+(X.length-1) by omega,atX _ (by omega)];exact exl) ?_)
  refine rD (p9 C (λj=>(Y[j]?).getD xl) k1 (uX _ (rT exl)) (λj hj =>?_) (λj hj =>?_) (λi j hij hj =>?_) (by omega) λm hm e1 e2 =>?_)
  · obtain ⟨z,e⟩:=yget j hj
    rw[atY j hj,e];rfl
  · obtain ⟨z,e⟩:=yget j hj
    rw[e];exact uY _ (rT e)
  · obtain ⟨z,e⟩:=yget i (by omega)
    obtain ⟨z',e'⟩:=yget j hj
    rw[e,e'];exact ao sy e e' hij
  dsimp only at e1 e2 ⊢
  by_cases c2:(m == 0)=true
  · rw[if_pos c2]
    refine rH (plain λp hp q hq =>?_)
    obtain ⟨n,e⟩:=sH.mp hq
    have hn:n<Y.length:=(rE.mp e).1
    have z:=e2 n (by have:=beq_iff_eq.mp c2;omega) hn
    rw[e] at z
    exact sk (xlle p hp) z
  rw[if_neg c2]
  have m0:0<m:=by have:m≠0:=λz=>c2 (beq_iff_eq.mpr z);omega
  have ex:((rM st).extract (P.length+k) (P.length+X.length)).toList=X.drop k:=by
    rw[uq,tL,ha,dz,v8 (by omega)]
    rw[yT (by rw[uE];omega)]
  have ey:((rM st).extract (P.length+X.length) (P.length+X.length+m)).toList=Y.take m:=by
    have e:=dz (P++X) (Y++S) 0
    rw[rC,Nat.add_zero,yb,rZ] at e
    rw[uq,tL,ha,e,uV,v9 hm]
  have sX:((rM st).extract (P.length+k) (P.length+X.length)).size=X.length-k:=by rw[<- rh,ex,uE]
  have sY:((rM st).extract (P.length+X.length) (P.length+X.length+m)).size=m:=by rw[<- rh,ey,sA];omega
  generalize (rM st).extract (P.length+k) (P.length+X.length)=xa at ex sX ⊢
  generalize (rM st).extract (P.length+X.length) (P.length+X.length+m)=ya at ey sY ⊢
  have xa0:∀q∈xa.toList,Le key y0 q:=λq hq=>by
    rw[ex] at hq
    obtain ⟨n,hn,e⟩:=aB hq
    have hn2:n<X.length:=(rE.mp e).1
    have z:=g2 n hn hn2
    rw[e] at z
    exact sZ z
  have yaL:∀p∈ya.toList,Le key p xl:=λp hp=>by
    rw[ey] at hp
    obtain ⟨n,hn,e⟩:=aF hp
    have z:=e1 n hn
    rw[e] at z
    exact sZ z
  have first:∀p q,ya[0]? = some p->q∈xa.toList->Le key p q:=λp q hp hq=>by
    rw[<- rq,ey,tU,if_pos m0,ey0] at hp
    cases hp
    exact xa0 q hq
  have lst:∀p q,p∈ya.toList->xa[xa.size-1]? = some q->Le key p q:=λp q hp hq=>by
    rw[<- rq,ex,u9,sX,show k+(X.length-k-1)=X.length-1 by omega,exl] at hq
    cases hq
    exact yaL p hp
  have sxa:xa.toList.Pairwise (Le key):=by rw[ex];exact sx.sublist (sQ _ _)
  have sya:ya.toList.Pairwise (Le key):=by rw[ey];exact sy.sublist (sW _ _)
  have uxa:∀p∈xa.toList,U p:=λp hp=>by rw[ex] at hp;exact uX p (uL hp)
  have uya:∀p∈ya.toList,U p:=λp hp=>by rw[ey] at hp;exact uY p (uN hp)
  have post:∀r st',Sm st1 st'->cb key xa ya r->wpS (sh prog w) A E s (do modify λs=>setArr s (r.toList.zipIdx.foldl (λa (p,j)=>a.setIfInBounds (P.length+k+j) p) (rM s));return (failedOf (← get)).isNone) Q st':=by
    rintro r st' sm ⟨fp,fs⟩
    refine rD (ux (rD (xk (rH ?_))))
    have rl:r.toList.length=X.length-k+m:=by rw[fp.length_eq,rC,rh,rh,sX,sY]
    have wr:=written r.toList (P.length+k) 0 (rM st') (by rw[sm.a,a1,sz,rl];omega)
    have e:(failedOf (setArr st' (r.toList.zipIdx.foldl (λa (p,j)=>a.setIfInBounds (P.length+k+j) p) (rM st')))).isNone=true:=by
      show (failedOf st').isNone=true
      rw[sm.f,f1];rfl
    rw[e]
    have t1:(P++(X++(Y++S))).take (P.length+k+0)=P++X.take k:=by
      rw[Nat.add_zero,List.take_append,sN (by omega),uV,v9 (by omega)]
    have t2:(P++(X++(Y++S))).drop (P.length+k+0+r.toList.length)=Y.drop m++S:=by
      rw[rl,show P.length+k+0+(X.length-k+m)=P.length+(X.length+m) by omega,dz,dz,v8 hm]
    have perm:(X.take k++(r.toList++Y.drop m)).Perm (X++Y):=by
      rw[ex,ey] at fp
      have q:(X.take k++(r.toList++Y.drop m)).Perm (X.take k++((X.drop k++Y.take m)++Y.drop m)):=tP _ (uC _ fp)
      have e3:X.take k++((X.drop k++Y.take m)++Y.drop m)=X++Y:=by
        rw[rZ (X.drop k),uj, <- rZ,uj]
      rw[e3] at q
      exact q
    have inr:∀z∈r.toList,z∈X.drop k\/z∈Y.take m:=λz hz=>by
      have q:=fp.mem_iff.mp hz
      rw[ex,ey] at q
      exact rV.mp q
    refine h _ (X.take k++(r.toList++Y.drop m)) perm ?_ ?_ ?_ (sm.k.trans k1) (sm.f.trans f1)
    · refine tj.mpr ⟨sx.sublist (sW _ _),tj.mpr ⟨fs,sy.sublist (sQ _ _),λp hp q hq =>?_⟩,λp hp q hq =>?_⟩
      · obtain ⟨n,hn,en⟩:=aB hq
        have hn2:n<Y.length:=(rE.mp en).1
        rcases inr p hp with z | z
        · have g:=e2 n hn hn2
          rw[en] at g
          exact sk (xlle p (uL z)) g
        · obtain ⟨j,hj,ej⟩:=aF z
          exact ao sy ej en (by omega)
      · obtain ⟨n,hn,en⟩:=aF hp
        have g:=g1 n hn
        rw[en] at g
        rcases rV.mp hq with z | z
        · rcases inr q z with z | z
          · obtain ⟨j,hj,ej⟩:=aB z
            exact ao sx en ej (by omega)
          · exact sk g (y0le q (uN z))
        · exact sk g (y0le q (uL z))
    · show (r.toList.zipIdx.foldl (λa (p,j)=>a.setIfInBounds (P.length+k+j) p) (rM st')).toList=_
      rw[wr,sm.a,a1,ha,t1,t2]
      simp only[rZ]
    · show rY st'=_
      rw[sm.p,p1]
  by_cases c3:X.length-k<=m
  · rw[if_pos c3]
    exact rD (qb C k1 uxa uya sxa sya (by omega) (by omega) (λp q hp hq=>first p q hp (aU hq)) lst λr st' sm fr=>post r st' sm fr)
  · rw[if_neg c3]
    exact rD (qd C k1 uxa uya sxa sya (by omega) (by omega) first lst λr st' sm fr=>post r st' sm fr)
end
open PySem PyProof.Rows
theorem nW (lo m:Nat):p5 lo m=(do
    let mut n:=1
    for _ in [1:m] do
      let some sm ← ltAt' (lo+n) (lo+n-1)
        | return none
      if sm then break
      n:=n+1
    if n == m then return some n
    if n>1 then
      let some ro ← ltAt' lo (lo+n-1)
        | return none
      if ro then return some n
      reverseSlice' lo (lo+n)
    rule "list.sort.descending-run"
    n:=n+1
    let mut q:=0
    for _ in [n:m] do
      let some sm ← ltAt' (lo+n) (lo+n-1)
        | return none
      if sm then
        if q>0 then reverseSlice' (lo+n-(q+1)) (lo+n)
        q:=0
      else
        let some lg ← ltAt' (lo+n-1) (lo+n)
          | return none
        if lg then break
        q:=q+1
      n:=n+1
    if q>0 then reverseSlice' (lo+n-(q+1)) (lo+n)
    reverseSlice' lo (lo+n)
    for _ in [n:m] do
      let some sm ← ltAt' (lo+n) (lo+n-1)
        | return none
      if sm then break
      n:=n+1
    return some n):=rfl
theorem mG (lo n ok:Nat):mv lo n ok=(do
    for k in [max ok 1:n] do
      let mut l:=0;let mut r:=k
      for _ in [0:k] do
        if l≥r then break
        let m:=(l+r)/2
        let some le ← ltAt' (lo+k) (lo+m)
          | return false
        if le then r:=m else l:=m+1
      moveDown' (lo+k) (lo+l)
    return true):=rfl
section
variable  {O:wA}(key:rG->O.α)
def kk (xs:Array rG)(i:Nat):O.α:=key ((xs[i]?).getD (tX,tX))
def Up (xs:Array rG)(lo n:Nat):Prop:=∀i j,lo<=i->i<=j->j<lo+n->O.kle (kk key xs i) (kk key xs j)
def Down (xs:Array rG)(lo n:Nat):Prop:=∀i j,lo<=i->i<=j->j<lo+n->O.kle (kk key xs j) (kk key xs i)
variable  {key}
theorem dA {xs ys:Array rG}{i j:Nat}(h:xs[i]? = ys[j]?):kk key xs i=kk key ys j:=by unfold kk;rw[h]
theorem gm {xs:Array rG}{i j:Nat}(hj:j<=xs.size)(k:Nat):kk key (mirror xs i j ((j-i)/2)) k=if i<=k/\k<j then kk key xs (i+j-1-k) else kk key xs k:=by
 have e:=yg (i:=i) hj k
 by_cases h:i<=k/\k<j
 ·rw[if_pos h] at e ⊢;exact dA e
 ·rw[if_neg h] at e ⊢;exact dA e
theorem cv {xs:Array rG}{i j:Nat}(hj:j<=xs.size)(he:∀k,i<=k->k<j->kk key xs k=kk key xs (j-1))(k:Nat):kk key (mirror xs i j ((j-i)/2)) k=kk key xs k:=by
 rw[gm hj]
 split
 ·rw[he _ (by omega) (by omega),he k (by omega) (by omega)]
 ·rfl
end
structure SA (lo:Nat)(st st':se):Prop where
 perm:(rM st').Perm (rM st)
 pre:∀k,k<lo->(rM st')[k]? = (rM st)[k]?
 k:kindOf st'=kindOf st
 p:rY st'=rY st
 f:failedOf st'=failedOf st
theorem SA.refl (lo:Nat)(st:se):SA lo st st:=⟨Array.Perm.refl _,λ_ _=>rfl,rfl,rfl,rfl⟩
theorem SA.size {lo:Nat}{st st':se}(h:SA lo st st'):(rM st').size=(rM st).size:=h.perm.size_eq
theorem SA.mirror {lo:Nat}{st st':se}(h:SA lo st st'){i j:Nat}(hi:lo<=i)(hj:j<=(rM st').size):SA lo st (setArr st' (mirror (rM st') i j ((j-i)/2))) :=
 ⟨(mirror_perm _ _ _ _).trans h.perm,λk hk=>by
  show (PyProof.Rows.mirror (rM st') i j ((j-i)/2))[k]? = _
  rw[yg hj,if_neg (by omega)]
  exact h.pre k hk,h.k,h.p,h.f⟩
theorem SA.mem {lo:Nat}{st st':se}(h:SA lo st st'){p:rG}(hp:p∈(rM st').toList):p∈(rM st).toList:=(wF.mp h.perm).mem_iff.mp hp
section
variable  {prog:rO}{w:sC}{A:sR}{E:rg->rj->Prop}{s:rj}{O:wA}{key:rG->O.α}{U:rG->Prop}{κ:SortKind}
theorem cW (C:Cmp prog w A s O key U κ){st:se}{i j:Nat}{Q:Option Bool->se->Prop}(hκ:kindOf st=κ)(hu:∀p∈(rM st).toList,U p)(hi:i<(rM st).size)(hj:j<(rM st).size)
  (h:Q (some (O.blt (kk key (rM st) i) (kk key (rM st) j))) st):wpS (sh prog w) A E s (ltAt' i j) Q st:=by
 rw[ltAt'_eq]
 refine rD (xk ?_)
 obtain ⟨x,ex⟩:=aE hi
 obtain ⟨y,ey⟩:=aE hj
 dsimp only
 refine rD (aD ex (rD (aD ey (C.lt _ st x y _ hκ (hu _ (aU ex)) (hu _ (aU ey)) ?_))))
 unfold kk at h
 rw[ex,ey] at h
 exact h
theorem nX (C:Cmp prog w A s O key U κ){st:se}{lo m:Nat}{Q:Option Nat->se->Prop}(hκ:kindOf st=κ)(hu:∀p∈(rM st).toList,U p)(hm:1<=m)(hz:lo+m=(rM st).size)
  (h:∀n st',1<=n->n<=m->SA lo st st'->Up key (rM st') lo n->Q (some n) st'):wpS (sh prog w) A E s (p5 lo m) Q st:=by
 rw[nW]
 dsimp only
 refine rD (ug (sS (I:=λx c st'=>st=st'/\c=(none,x)/\Up key (rM st) lo x)
  (Q:=λc st'=>st=st'/\∃n,c=(none,n)/\1<=n/\n<=m/\Up key (rM st) lo n/\(n<m->O.klt (kk key (rM st) (lo+n)) (kk key (rM st) (lo+n-1)))) ?step ?fin ⟨rfl,rfl,λi j h1 h2 h3=>by rw[show i=j by omega];exact tT _⟩) ?post)
 case fin =>
  rintro c st' ⟨rfl,rfl,up⟩
  exact ⟨rfl,_,rfl,by omega,by omega,by rw[show max 1 m=m by omega] at up ⊢;exact up,by omega⟩
 case step =>
  rintro x c st' h1 h2 ⟨rfl,rfl,up⟩
  dsimp only
  refine rD (cW C hκ hu (by omega) (by omega) ?_)
  dsimp only
  cases hb:O.blt (kk key (rM st) (lo+x)) (kk key (rM st) (lo+x-1)) with
  | true =>
   rw[if_pos rfl]
   exact rH ⟨rfl,x,rfl,h1,by omega,up,λ_=>hb⟩
  | false =>
   rw[if_neg (by simp)]
   refine rH ⟨rfl,rfl,λi j k1 k2 k3 =>?_⟩
   by_cases hj:j=lo+x
   ·by_cases hi:i=j
    ·rw[hi];exact tT _
    ·rw[hj]
     exact sk (up i (lo+x-1) k1 (by omega) (by omega)) hb
   ·exact up i j k1 k2 (by omega)
 case post =>
  rintro c st' ⟨rfl,n,rfl,n1,n2,up,br⟩
  dsimp only
  by_cases c1:(n == m)=true
  ·rw[if_pos c1]
   exact rH (h n st n1 n2 (SA.refl _ _) up)
  rw[if_neg c1]
  have nm:n<m:=by have:n≠m:=λz=>c1 (beq_iff_eq.mpr z);omega
  have br:=br nm
  by_cases c2:n>1
  case' pos =>
   rw[if_pos c2]
   refine rD (cW C hκ hu (by omega) (by omega) ?_)
   dsimp only
   cases hro:O.blt (kk key (rM st) lo) (kk key (rM st) (lo+n-1))
   case' true =>
    rw[if_pos rfl]
    exact rH (h n st n1 n2 (SA.refl _ _) up)
   rw[if_neg (by simp)]
   have eqs:∀k,lo<=k->k<lo+n->kk key (rM st) k=kk key (rM st) (lo+n-1):=λk k1 k2 =>
    yd (up k (lo+n-1) k1 (by omega) (by omega)) (sk (show O.kle (kk key (rM st) (lo+n-1)) (kk key (rM st) lo) from hro) (up lo k (rA _) k1 k2))
   rw[we]
   refine rD (ux ?_)
   have sa:=(SA.refl lo st).mirror (i:=lo) (j:=lo+n) (rA _) (by omega)
   have ke:=cv (key:=key) (xs:=rM st) (i:=lo) (j:=lo+n) (by omega) eqs
   have ka:∀k,kk key (rM (setArr st (mirror (rM st) lo (lo+n) ((lo+n-lo)/2)))) k=kk key (rM st) k:=ke
   generalize setArr st (mirror (rM st) lo (lo+n) ((lo+n-lo)/2))=st1 at sa ka ⊢
   clear ke
  case' neg =>
   rw[if_neg c2]
   have eqs:∀k,lo<=k->k<lo+n->kk key (rM st) k=kk key (rM st) (lo+n-1):=λk k1 k2=>by rw[show k=lo+n-1 by omega]
   obtain ⟨st1,e1⟩:∃st1,st1=st:=⟨_,rfl⟩
   have sa:SA lo st st1:=by rw[e1];exact SA.refl _ _
   have ka:∀k,kk key (rM st1) k=kk key (rM st) k:=λk=>by rw[e1]
   rw[<- e1]
   clear e1
  all_goals
   refine rD (xZ (vj ⟨rfl,?_⟩))
   have dn:Down key (rM st1) lo (n+1):=λi j k1 k2 k3=>by
    rw[ka,ka]
    by_cases hj:j=lo+n
    ·by_cases hi:i=j
     ·rw[hi];exact tT _
     ·rw[hj,eqs i k1 (by omega)]
      exact sZ br
    ·rw[eqs i k1 (by omega),eqs j (by omega) (by omega)]
     exact tT _
   clear eqs up br ka
   refine rD (ug (sS (I:=λx c st'=>∃q,c=(none,x,q)/\x<=m/\SA lo st st'/\Down key (rM st') lo x/\q+1<=x/\∀k,lo+x-(q+1)<=k->k<lo+x->kk key (rM st') k=kk key (rM st') (lo+x-1))
    (Q:=λc st'=>∃x q,c=(none,x,q)/\1<=x/\x<=m/\SA lo st st'/\Down key (rM st') lo x/\q+1<=x/\∀k,lo+x-(q+1)<=k->k<lo+x->kk key (rM st') k=kk key (rM st') (lo+x-1)) ?step ?fin
    ⟨0,rfl,by omega,sa,dn,by omega,λk k1 k2=>by rw[show k=lo+(n+1)-1 by omega]⟩) ?post)
   case fin =>
    rintro c st' ⟨q,rfl,xm,sa,dn,hq,he⟩
    exact ⟨_,q,rfl,by omega,xm,sa,dn,hq,he⟩
   case step =>
    rintro x c st2 h1 h2 ⟨q,rfl,xm,sa2,dn2,hq,he⟩
    dsimp only
    have sz:=sa2.size
    have u2:∀p∈(rM st2).toList,U p:=λp hp=>hu p (sa2.mem hp)
    refine rD (cW C (sa2.k.trans hκ) u2 (by omega) (by omega) ?_)
    dsimp only
    cases hb:O.blt (kk key (rM st2) (lo+x)) (kk key (rM st2) (lo+x-1)) with
    | true =>
     rw[if_pos rfl]
     have dn3:Down key (rM st2) lo (x+1):=λi j k1 k2 k3=>by
      by_cases hj:j=lo+x
      ·by_cases hi:i=j
       ·rw[hi];exact tT _
       ·rw[hj];exact sk (sZ hb) (dn2 i (lo+x-1) k1 (by omega) (by omega))
      ·exact dn2 i j k1 k2 (by omega)
     by_cases q0:q>0
     ·rw[if_pos q0,we]
      refine rD (ux (rH ?_))
      have ke:=cv (key:=key) (xs:=rM st2) (i:=lo+x-(q+1)) (j:=lo+x) (by omega) he
      refine ⟨0,rfl,by omega,sa2.mirror (by omega) (by omega),λi j k1 k2 k3 =>?_,by omega,λk k1 k2=>by rw[show k=lo+(x+1)-1 by omega]⟩
      show O.kle (kk key (mirror (rM st2) (lo+x-(q+1)) (lo+x) ((lo+x-(lo+x-(q+1)))/2)) j) (kk key (mirror (rM st2) (lo+x-(q+1)) (lo+x) ((lo+x-(lo+x-(q+1)))/2)) i)
      rw[ke,ke]
      exact dn3 i j k1 k2 k3
     ·rw[if_neg q0]
      exact rH ⟨0,rfl,by omega,sa2,dn3,by omega,λk k1 k2=>by rw[show k=lo+(x+1)-1 by omega]⟩
    | false =>
     rw[if_neg (by simp)]
     refine rD (cW C (sa2.k.trans hκ) u2 (by omega) (by omega) ?_)
     dsimp only
     cases hb2:O.blt (kk key (rM st2) (lo+x-1)) (kk key (rM st2) (lo+x)) with
     | true =>
      rw[if_pos rfl]
      exact rH ⟨x,q,rfl,by omega,xm,sa2,dn2,hq,he⟩
     | false =>
      rw[if_neg (by simp)]
      have eq:=yd (show O.kle (kk key (rM st2) (lo+x)) (kk key (rM st2) (lo+x-1)) from hb2) hb
      refine rH ⟨q+1,rfl,by omega,sa2,λi j k1 k2 k3 =>?_,by omega,λk k1 k2 =>?_⟩
      ·by_cases hj:j=lo+x
       ·by_cases hi:i=j
        ·rw[hi];exact tT _
        ·rw[hj,eq];exact dn2 i (lo+x-1) k1 (by omega) (by omega)
       ·exact dn2 i j k1 k2 (by omega)
      ·rw[show lo+(x+1)-1=lo+x by omega,eq]
       by_cases hk:k=lo+x
       ·rw[hk,eq]
       ·exact he k (by omega) (by omega)
   case post =>
    rintro c st2 ⟨x,q,rfl,x1,xm,sa2,dn2,hq,he⟩
    dsimp only
    have sz:=sa2.size
    by_cases q0:q>0
    case' pos =>
     rw[if_pos q0,we]
     refine rD (ux ?_)
     have ke:=cv (key:=key) (xs:=rM st2) (i:=lo+x-(q+1)) (j:=lo+x) (by omega) he
     have sa3:=sa2.mirror (i:=lo+x-(q+1)) (j:=lo+x) (by omega) (by omega)
     have dn3:Down key (rM (setArr st2 (mirror (rM st2) (lo+x-(q+1)) (lo+x) ((lo+x-(lo+x-(q+1)))/2)))) lo x:=λi j k1 k2 k3=>by
      show O.kle (kk key (mirror (rM st2) (lo+x-(q+1)) (lo+x) ((lo+x-(lo+x-(q+1)))/2)) j) (kk key (mirror (rM st2) (lo+x-(q+1)) (lo+x) ((lo+x-(lo+x-(q+1)))/2)) i)
      rw[ke,ke]
      exact dn2 i j k1 k2 k3
     generalize setArr st2 (mirror (rM st2) (lo+x-(q+1)) (lo+x) ((lo+x-(lo+x-(q+1)))/2))=st3 at sa3 dn3 ⊢
     clear ke
    case' neg =>
     rw[if_neg q0]
     obtain ⟨st3,e3⟩:∃st3,st3=st2:=⟨_,rfl⟩
     have sa3:SA lo st st3:=by rw[e3];exact sa2
     have dn3:Down key (rM st3) lo x:=by rw[e3];exact dn2
     rw[<- e3]
     clear e3
    all_goals
     rw[we]
     refine rD (ux ?_)
     have sz3:=sa3.size
     have sa4:=sa3.mirror (i:=lo) (j:=lo+x) (rA _) (by omega)
     have km:=gm (key:=key) (xs:=rM st3) (i:=lo) (j:=lo+x) (by omega)
     have up4:Up key (rM (setArr st3 (mirror (rM st3) lo (lo+x) ((lo+x-lo)/2)))) lo x:=λi j k1 k2 k3=>by
      show O.kle (kk key (mirror (rM st3) lo (lo+x) ((lo+x-lo)/2)) i) (kk key (mirror (rM st3) lo (lo+x) ((lo+x-lo)/2)) j)
      rw[km,km,if_pos ⟨by omega,by omega⟩,if_pos ⟨by omega,by omega⟩]
      exact dn3 _ _ (by omega) (by omega) (by omega)
     generalize setArr st3 (mirror (rM st3) lo (lo+x) ((lo+x-lo)/2))=st4 at sa4 up4 ⊢
     clear km
     have u4:∀p∈(rM st4).toList,U p:=λp hp=>hu p (sa4.mem hp)
     have sz4:=sa4.size
     refine rD (ug (sS (I:=λz c st'=>st4=st'/\c=(none,z)/\z<=m/\Up key (rM st4) lo z)
      (Q:=λc st'=>st4=st'/\∃z,c=(none,z)/\1<=z/\z<=m/\Up key (rM st4) lo z) ?step ?fin ⟨rfl,rfl,xm,up4⟩) ?post)
     case fin =>
      rintro c st' ⟨rfl,rfl,zm,up⟩
      exact ⟨rfl,_,rfl,by omega,zm,up⟩
     case post =>
      rintro c st' ⟨rfl,z,rfl,z1,zm,up⟩
      exact rH (h z st4 z1 zm sa4 up)
     case step =>
      rintro z c st' h1 h2 ⟨rfl,rfl,zm,up⟩
      dsimp only
      refine rD (cW C (sa4.k.trans hκ) u4 (by omega) (by omega) ?_)
      dsimp only
      cases hb:O.blt (kk key (rM st4) (lo+z)) (kk key (rM st4) (lo+z-1)) with
      | true =>
       rw[if_pos rfl]
       exact rH ⟨rfl,z,rfl,by omega,zm,up⟩
      | false =>
       rw[if_neg (by simp)]
       refine rH ⟨rfl,rfl,by omega,λi j k1 k2 k3 =>?_⟩
       by_cases hj:j=lo+z
       ·by_cases hi:i=j
        ·rw[hi];exact tT _
        ·rw[hj];exact sk (up i (lo+z-1) k1 (by omega) (by omega)) hb
       ·exact up i j k1 k2 (by omega)
theorem gn {xs:Array rG}{src d:Nat}(hs:src<xs.size)(hd:d<=src)(k:Nat) :
  kk key (bubble xs src d) k=if k=src-d then kk key xs src else if src-d<k/\k<=src then kk key xs (k-1) else kk key xs k:=by
 have e:=getElem?_bubble hs d hd k
 by_cases h1:k=src-d
 ·rw[if_pos h1] at e ⊢;exact dA e
 ·rw[if_neg h1] at e ⊢
  by_cases h2:src-d<k/\k<=src
  ·rw[if_pos h2] at e ⊢;exact dA e
  ·rw[if_neg h2] at e ⊢;exact dA e
theorem SA.bubble {lo:Nat}{st st':se}(h:SA lo st st'){src d:Nat}(hs:src<(rM st').size)(hd:lo+d<=src):SA lo st (setArr st' (bubble (rM st') src d)) :=
 ⟨(bubble_perm _ _ _).trans h.perm,λk hk=>by
  show (PyProof.Rows.bubble (rM st') src d)[k]? = _
  rw[getElem?_bubble hs d (by omega),if_neg (by omega),if_neg (by omega)]
  exact h.pre k hk,h.k,h.p,h.f⟩
theorem mH (C:Cmp prog w A s O key U κ){st:se}{lo n ok:Nat}{Q:Bool->se->Prop}(hκ:kindOf st=κ)(hu:∀p∈(rM st).toList,U p)(hn:lo+n<=(rM st).size)(hok:ok<=n)(up:Up key (rM st) lo ok)
  (h:∀st',SA lo st st'->Up key (rM st') lo n->Q true st'):wpS (sh prog w) A E s (mv lo n ok) Q st:=by
 rw[mG]
 dsimp only
 refine rD (ug (sS (I:=λx c st'=>c=(none,())/\SA lo st st'/\Up key (rM st') lo (min x n)) (Q:=λc st'=>c=(none,())/\SA lo st st'/\Up key (rM st') lo n) ?step ?fin ⟨rfl,SA.refl _ _,λi j k1 k2 k3 =>?_⟩) ?post)
 case post =>
  rintro c st' ⟨rfl,sa,up⟩
  exact rH (h st' sa up)
 case fin =>
  rintro c st' ⟨rfl,sa,up⟩
  refine ⟨rfl,sa,?_⟩
  rw[show min (max (max ok 1) n) n=n by omega] at up
  exact up
 case step =>
  rintro k c st1 h1 h2 ⟨rfl,sa1,up1⟩
  rw[show min k n=k by omega] at up1
  have sz:=sa1.size
  have u1:∀p∈(rM st1).toList,U p:=λp hp=>hu p (sa1.mem hp)
  refine rD (ug (sS (I:=λx c st'=>st1=st'/\∃l r,c=(none,l,r)/\l<=r/\r<=k/\r-l<=k-x/\(∀i,i<l->O.kle (kk key (rM st1) (lo+i)) (kk key (rM st1) (lo+k)))/\(∀i,r<=i->i<k->O.klt (kk key (rM st1) (lo+k)) (kk key (rM st1) (lo+i))))
   (Q:=λc st'=>st1=st'/\∃l r,c=(none,l,r)/\l<=k/\(∀i,i<l->O.kle (kk key (rM st1) (lo+i)) (kk key (rM st1) (lo+k)))/\(∀i,l<=i->i<k->O.klt (kk key (rM st1) (lo+k)) (kk key (rM st1) (lo+i)))) ?istep ?ifin ⟨rfl,0,k,rfl,by omega,by omega,by omega,λi hi=>by omega,λi a1 a2=>by omega⟩) ?ipost)
  case ifin =>
   rintro c st' ⟨rfl,l,r,rfl,b1,b2,b3,b4,b5⟩
   have e:l=r:=by omega
   subst e
   exact ⟨rfl,l,l,rfl,b2,b4,b5⟩
  case istep =>
   rintro x c st' _ hx ⟨rfl,l,r,rfl,b1,b2,b3,b4,b5⟩
   dsimp only
   by_cases hge:l≥r
   ·rw[if_pos hge]
    have e:l=r:=by omega
    subst e
    exact rH ⟨rfl,l,l,rfl,b2,b4,b5⟩
   ·rw[if_neg hge]
    refine rD (cW C (sa1.k.trans hκ) u1 (by omega) (by omega) ?_)
    dsimp only
    cases hb:O.blt (kk key (rM st1) (lo+k)) (kk key (rM st1) (lo+(l+r)/2)) with
    | true =>
     rw[if_pos rfl]
     exact rH ⟨rfl,l,(l+r)/2,rfl,by omega,by omega,by omega,b4,λi a1 a2=>KeyOrd.klt_of_klt_of_kle hb (up1 _ _ (by omega) (by omega) (by omega))⟩
    | false =>
     rw[if_neg (by simp)]
     exact rH ⟨rfl,(l+r)/2+1,r,rfl,by omega,by omega,by omega,λi a1=>sk (up1 (lo+i) (lo+(l+r)/2) (by omega) (by omega) (by omega)) hb,b5⟩
  case ipost =>
   rintro c st' ⟨rfl,l,r,rfl,b2,b4,b5⟩
   dsimp only
   rw[moveDown'_eq]
   have e:lo+k-(lo+l)=k-l:=by omega
   refine rD (ux (rH ⟨rfl,?_,?_⟩))
   ·rw[e]
    exact sa1.bubble (by omega) (by omega)
   ·rw[show min (k+1) n=k+1 by omega]
    intro i j k1 k2 k3
    show O.kle (kk key (bubble (rM st1) (lo+k) (lo+k-(lo+l))) i) (kk key (bubble (rM st1) (lo+k) (lo+k-(lo+l))) j)
    have lt:lo+k<(rM st1).size:=by omega
    rw[e,gn lt (by omega),gn lt (by omega),show lo+k-(k-l)=lo+l by omega]
    have b4':∀z,lo<=z->z<lo+l->O.kle (kk key (rM st1) z) (kk key (rM st1) (lo+k)):=λz z1 z2=>by
     have:=b4 (z-lo) (by omega)
     rw[show lo+(z-lo)=z by omega] at this
     exact this
    have b5':∀z,lo+l<=z->z<lo+k->O.kle (kk key (rM st1) (lo+k)) (kk key (rM st1) z):=λz z1 z2=>by
     have:=b5 (z-lo) (by omega) (by omega)
     rw[show lo+(z-lo)=z by omega] at this
     exact sZ this
    repeat' split
    all_goals first
     | (exfalso;omega)
     | exact tT _
     | exact b4' _ (by omega) (by omega)
     | exact b5' _ (by omega) (by omega)
     | exact up1 _ _ (by omega) (by omega) (by omega)
 ·by_cases h1:ok=0
  ·rw[show i=j by omega];exact tT _
  ·exact up i j k1 k2 (by omega)
end
open PySem PyProof.Rows
def pwr:Nat->Nat->Nat->Nat->Nat:=sortPriv% PySem.Builtin.power
def mrn:Nat->Nat->Nat->Nat:=sortPriv% PySem.Builtin.minRun
theorem mI:oV=(do
    let sz:=(rM (← get)).size
    let mr:=mrn sz sz 0
    let mut lo:=0
    for _ in [0:sz] do
      if lo≥sz then break
      let some fd ← p5 lo (sz-lo)
        | return
      let mut n:=fd
      if n<mr then
        rule "list.sort.binary-insertion"
        let fo:=min (sz-lo) mr
        if !(← mv lo fo n) then return
        n:=fo
      if let some (s1,n1,_):=(rY (← get)).back? then
        let pw:=pwr sz (2*s1+n1) (2*s1+n1+n1+n) sz
        for _ in [0:sz] do
          let p:=rY (← get)
          let some (_,_,old):=(if p.size>1 then p[p.size-2]? else none)
            | break
          if old<=pw then break
          if !(← mAt (p.size-2)) then return
        modify λs=>SortSt.mk' (kindOf s) (rM s) ((rY s).modify ((rY s).size-1) λ(st,len,_)=>(st,len,pw)) (gallopOf s) (failedOf s)
      modify λs=>SortSt.mk' (kindOf s) (rM s) ((rY s).push (lo,n,0)) (gallopOf s) (failedOf s)
      lo:=lo+n
    for _ in [0:sz] do
      let p:=rY (← get)
      if p.size<=1 then break
      let i:=p.size-2
      let bf:=if i>0 then p[i-1]?.map (·.2.1) else none
      let i:=if bf.any (· < (p[i+1]?.elim 0 (·.2.1))) then i-1 else i
      if !(← mAt i) then return):=rfl
def Mt:Nat->List (List rG)->List (Nat×Nat×Nat)->Prop
 | _,[],[]=>True
 | off,r :: rs,p :: ps=>p.1=off/\p.2.1=r.length/\Mt (off+r.length) rs ps
 | _,_,_=>False
theorem Mt.length:∀{off:Nat} {rs:List (List rG)} {ps:List (Nat×Nat×Nat)},Mt off rs ps->ps.length=rs.length
 | _,[],[],_=>rfl
 | _,_ :: _,_ :: _,h=>by rw[rL,rL,Mt.length h.2.2]
theorem Mt.append:∀{off:Nat} {rs ts:List (List rG)} {ps us:List (Nat×Nat×Nat)},Mt off rs ps->Mt (off+rs.flatten.length) ts us->Mt off (rs++ts) (ps++us)
 | _,[],_,[],_,_,h=>by simpa using h
 | off,r :: rs,ts,p :: ps,us,h,h'=>by
  refine ⟨h.1,h.2.1,Mt.append h.2.2 ?_⟩
  rw[wY,rC, <- zt] at h'
  exact h'
theorem Mt.split:∀{off:Nat} {rs:List (List rG)} {ps:List (Nat×Nat×Nat)} (i:Nat),Mt off rs ps->i+1<ps.length →
  ∃R1 X Y R2 L1 w1 w2 L2,rs=R1++X :: Y :: R2/\ps=L1++(off+R1.flatten.length,X.length,w1) :: (off+R1.flatten.length+X.length,Y.length,w2) :: L2/\L1.length=i/\Mt off R1 L1/\Mt (off+R1.flatten.length+X.length+Y.length) R2 L2
 | off,r :: r2 :: rs,p :: p2 :: ps,0,h,_=>by
  obtain ⟨a,b,w1⟩:=p
  obtain ⟨c,d,w2⟩:=p2
  obtain ⟨h1,h2,h3,h4,h5⟩:=h
  dsimp only at h1 h2 h3 h4
  subst h1 h2 h3 h4
  exact ⟨[],r,r2,rs,[],w1,w2,ps,rfl,rfl,rfl,trivial,h5⟩
 | off,r :: rs,p :: ps,i+1,h,hl=>by
  rw[rL] at hl
  obtain ⟨R1,X,Y,R2,L1,w1,w2,L2,e1,e2,e3,m1,m2⟩:=Mt.split i h.2.2 (by omega)
  have ea:off+(r :: R1).flatten.length=off+r.length+R1.flatten.length:=by rw[wY,rC];omega
  refine ⟨r :: R1,X,Y,R2,p :: L1,w1,w2,L2,by rw[e1];rfl,?_,by rw[rL,e3],⟨h.1,h.2.1,m1⟩,?_⟩
  ·rw[ea,e2];rfl
  ·rw[ea];exact m2
 | off,[],[],i,_,hl=>by simp at hl
 | off,[_],[_],0,_,hl=>by simp at hl
theorem Mt.modify (f:Nat×Nat×Nat->Nat×Nat×Nat)(hf:∀p,(f p).1=p.1/\(f p).2.1=p.2.1):∀{off:Nat} {rs:List (List rG)} {ps:List (Nat×Nat×Nat)} (i:Nat),Mt off rs ps->Mt off rs (ps.modify i f)
 | _,[],[],i,_=>by cases i <;> exact trivial
 | off,r :: rs,p :: ps,0,h=>⟨(hf p).1.trans h.1,(hf p).2.trans h.2.1,h.2.2⟩
 | off,r :: rs,p :: ps,i+1,h=>⟨h.1,h.2.1,Mt.modify f hf i h.2.2⟩
theorem k9 {α:Type}(l:List α)(a b c:α)(r:List α):((l++a :: b :: r).set l.length c).eraseIdx (l.length+1)=l++c :: r:=by
 induction l with
 | nil=>rfl
 | cons x l ih=>simp only[List.cons_append,rL,List.set_cons_succ,w9,ih]
section
variable  {O:wA}(key:rG->O.α)(U:rG->Prop)(κ:SortKind)
structure Rn (a0:List rG)(lo:Nat)(st:se):Prop where
 ex:∃runs rest,(rM st).toList=runs.flatten++rest/\runs.flatten.length=lo/\(∀r∈runs,r.Pairwise (Le key)/\0<r.length)/\Mt 0 runs (rY st).toList
 perm:(rM st).toList.Perm a0
 k:kindOf st=κ
 f:failedOf st=none
end
section
variable  {prog:rO}{w:sC}{A:sR}{E:rg->rj->Prop}{s:rj}{O:wA}{key:rG->O.α}{U:rG->Prop}{κ:SortKind}
theorem iA (C:Cmp prog w A s O key U κ){a0:List rG}{lo i:Nat}{st:se}{Q:Bool->se->Prop}(hu:∀p∈a0,U p)(R:Rn key κ a0 lo st)(hi:i+1<(rY st).size)
  (h:∀st',Rn key κ a0 lo st'->(rY st').size+1=(rY st).size->(rM st').toList.drop lo=(rM st).toList.drop lo->Q true st'):wpS (sh prog w) A E s (mAt i) Q st:=by
 obtain ⟨runs,rest,ea,el,er,em⟩:=R.ex
 obtain ⟨R1,X,Y,R2,L1,w1,w2,L2,e1,e2,e3,m1,m2⟩:=Mt.split i em (by rw[rh];exact hi)
 subst e1
 rw[vc] at e2 m2
 have hx:=er X (by simp)
 have hy:=er Y (by simp)
 have ga:(rY st)[i]? = some (R1.flatten.length,X.length,w1):=by
  rw[<- rq,e2, <- e3,show L1.length=L1.length+0 by omega,ji];rfl
 have gb:(rY st)[i+1]? = some (R1.flatten.length+X.length,Y.length,w2):=by
  rw[<- rq,e2, <- e3,ji];rfl
 refine qf C (P:=R1.flatten) (X:=X) (Y:=Y) (S:=R2.flatten++rest) R.k R.f (by rw[ea];simp) (λp hp=>hu p (R.perm.mem_iff.mp hp)) ga gb hx.2 hy.2 hx.1 hy.1 λst' M pm sm ar pd kd fl =>?_
 have lm:M.length=X.length+Y.length:=by rw[pm.length_eq,rC]
 have ep:(rY st').toList=L1++(R1.flatten.length,X.length+Y.length,w1) :: L2:=by
  rw[pd,Array.toList_eraseIdxIfInBounds,wD,e2, <- e3]
  exact k9 _ _ _ _ _
 refine h st' ⟨⟨R1++M :: R2,rest,?_,?_,λr hr =>?_,?_⟩,?_,kd,fl⟩ ?_ ?_
 ·rw[ar];simp
 ·rw[<- el];simp[lm];omega
 ·rcases rV.mp hr with q | q
  ·exact er r (by simp[q])
  ·rcases sv.mp q with q | q
   ·rw[q];exact ⟨sm,by have:=hx.2;omega⟩
   ·exact er r (by simp[q])
 ·rw[ep]
  refine Mt.append m1 ⟨by rw[vc],lm.symm,?_⟩
  rw[vc,lm, <- zt]
  exact m2
 ·rw[ar]
  refine List.Perm.trans ?_ R.perm
  rw[ea,show (R1++X :: Y :: R2).flatten++rest=R1.flatten++((X++Y)++(R2.flatten++rest)) by simp]
  exact tP _ (uC _ pm)
 ·rw[<- rh, <- rh,ep,e2]
  simp only[rC,rL]
  omega
 ·have l1:(R1++M :: R2).flatten.length=lo:=by rw[<- el];simp[lm];omega
  have q1:(rM st').toList=(R1++M :: R2).flatten++rest:=by rw[ar];simp
  rw[q1,ea, <- l1,wM,l1, <- el,wM]
theorem Rn.sa {a0:List rG}{lo:Nat}{st st':se}(R:Rn key κ a0 lo st)(sa:SA lo st st'):Rn key κ a0 lo st':=by
 obtain ⟨runs,rest,ea,el,er,em⟩:=R.ex
 have et:(rM st').toList.take lo=runs.flatten:=by
  have e1:(rM st').toList.take lo=(rM st).toList.take lo:=by
   refine yA λi =>?_
   rw[tU,tU]
   split
   ·rw[rq,rq];exact sa.pre i (by assumption)
   ·rfl
  rw[e1,ea, <- el,List.take_left]
 refine ⟨⟨runs,(rM st').toList.drop lo,by rw[<- et,uj],el,er,by rw[sa.p];exact em⟩,(wF.mp sa.perm).trans R.perm,sa.k.trans R.k,sa.f.trans R.f⟩
theorem lj {xs:Array rG}{lo n:Nat}(h:Up key xs lo n):((xs.toList.drop lo).take n).Pairwise (Le key):=by
 refine uK.mpr λi j hi hj hij =>?_
 have get:∀k (hk:k<((xs.toList.drop lo).take n).length),key ((xs.toList.drop lo).take n)[k]=kk key xs (lo+k)/\k<n:=λk hk=>by
  have hk':=hk
  rw[sA] at hk'
  refine ⟨?_,by omega⟩
  have e:((xs.toList.drop lo).take n)[k]? = xs[lo+k]? := by
   rw[tU,if_pos (by omega),u9,rq]
  rw[tm hk] at e
  unfold kk
  rw[<- e];rfl
 obtain ⟨e1,l1⟩:=get i hi
 obtain ⟨e2,l2⟩:=get j hj
 show O.kle (key _) (key _)
 rw[e1,e2]
 exact h _ _ (by omega) (by omega) (by omega)
theorem Rn.push {a0:List rG}{lo n:Nat}{st:se}(R:Rn key κ a0 lo st)(hn:0<n)(hz:lo+n<=(rM st).size)(hs:(((rM st).toList.drop lo).take n).Pairwise (Le key)) :
  Rn key κ a0 (lo+n) (SortSt.mk' (kindOf st) (rM st) ((rY st).push (lo,n,0)) (gallopOf st) (failedOf st)):=by
 obtain ⟨runs,rest,ea,el,er,em⟩:=R.ex
 have ed:(rM st).toList.drop lo=rest:=by rw[ea, <- el,wM]
 rw[ed] at hs
 have lr:n<=rest.length:=by
  have:=congrArg List.length ea
  rw[rh,rC,el] at this
  omega
 have lt:(rest.take n).length=n:=by rw[sA];omega
 refine ⟨⟨runs++[rest.take n],rest.drop n,?_,?_,λr hr =>?_,?_⟩,R.perm,R.k,R.f⟩
 ·show (rM st).toList=_
  rw[ea];simp
 ·simp[lt,el]
 ·rcases rV.mp hr with q | q
  ·exact er r q
  ·have e:r=rest.take n:=by simpa using q
   rw[e];exact ⟨hs,by omega⟩
 ·show Mt 0 _ ((rY st).push (lo,n,0)).toList
  rw[t8]
  exact Mt.append em ⟨by show lo=_;omega,lt.symm,trivial⟩
theorem Rn.mod {a0:List rG}{lo:Nat}{st:se}(R:Rn key κ a0 lo st)(i:Nat)(f:Nat×Nat×Nat->Nat×Nat×Nat)(hf:∀p,(f p).1=p.1/\(f p).2.1=p.2.1):Rn key κ a0 lo (SortSt.mk' (kindOf st) (rM st) ((rY st).modify i f) (gallopOf st) (failedOf st)):=by
 obtain ⟨runs,rest,ea,el,er,em⟩:=R.ex
 refine ⟨⟨runs,rest,ea,el,er,?_⟩,R.perm,R.k,R.f⟩
 show Mt 0 runs ((rY st).modify i f).toList
 rw[Array.toList_modify]
 exact Mt.modify f hf i em
theorem qg {c:Prop}[Decidable c]{n:Nat}(h:1<n):(if c then n-2-1 else n-2)+1<n:=by split <;> omega
theorem gp:∀{runs:List (List rG)},(∀r∈runs,0<r.length)->runs.length<=runs.flatten.length
 | [],_=>rA _
 | r :: rs,h=>by
  have h1:=h r rK
  have h2:=gp λq hq=>h q (r6 _ hq)
  rw[wY,rC,rL]
  omega
theorem mJ (C:Cmp prog w A s O key U κ){a0:List rG}{st:se}{Q:Unit->se->Prop}(hu:∀p∈a0,U p)(ha:(rM st).toList=a0)(hp:rY st = #[])(hk:kindOf st=κ)(hf:failedOf st=none)(h1:1<=a0.length)
  (h:∀st',(rM st').toList.Perm a0->(rM st').toList.Pairwise (Le key)->failedOf st'=none->Q () st'):wpS (sh prog w) A E s oV Q st:=by
 rw[mI]
 refine rD (xk ?_)
 dsimp only
 have sz0:(rM st).size=a0.length:=by rw[<- rh,ha]
 have szR:∀{lo:Nat} {st':se},Rn key κ a0 lo st'->(rM st').size=(rM st).size:=λR=>by rw[<- rh,R.perm.length_eq,sz0]
 have uR:∀{lo:Nat} {st':se},Rn key κ a0 lo st'->∀p∈(rM st').toList,U p:=λR p hp=>hu p (R.perm.mem_iff.mp hp)
 have R0:Rn key κ a0 0 st:=⟨⟨[],a0,by rw[ha];rfl,rfl,λr hr=>(by cases hr),by rw[hp];exact trivial⟩,by rw[ha],hk,hf⟩
 refine rD (ug (sS (I:=λx c st'=>∃lo,c=(none,lo)/\x<=lo/\lo<=(rM st).size/\Rn key κ a0 lo st') (Q:=λc st'=>c=(none,(rM st).size)/\Rn key κ a0 (rM st).size st') ?step ?fin ⟨0,rfl,rA _,sM _,R0⟩) ?post)
 case fin =>
  rintro c st' ⟨lo,rfl,l1,l2,R⟩
  obtain rfl:lo=(rM st).size:=by omega
  exact ⟨rfl,R⟩
 case post =>
  rintro c st1 ⟨rfl,R⟩
  dsimp only
  have p0:(rY st1).size<=(rM st).size:=by
   obtain ⟨runs,rest,ea,el,er,em⟩:=R.ex
   have q:=em.length
   rw[rh] at q
   have:=gp λr hr=>(er r hr).2
   omega
  refine rD (ug (sS (I:=λx c st'=>c=(none,())/\Rn key κ a0 (rM st).size st'/\((rY st').size<=1\/(rY st').size+x<=(rM st).size)) (Q:=λc st'=>c=(none,())/\Rn key κ a0 (rM st).size st'/\(rY st').size<=1) ?stepB ?finB ⟨rfl,R,.inr (by omega)⟩) ?postB)
  case finB =>
   rintro c st' ⟨rfl,R,q⟩
   exact ⟨rfl,R,by omega⟩
  case stepB =>
   rintro x c st' _ hx ⟨rfl,R,q⟩
   refine rD (xk ?_)
   by_cases c1:(rY st').size<=1
   ·rw[if_pos c1]
    exact rH ⟨rfl,R,c1⟩
   rw[if_neg c1]
   refine rD (iA C hu R (qg (by omega)) λst2 R2 s2 _ =>?_)
   simp only[tE,rJ,if_false]
   exact rH ⟨rfl,R2,by omega⟩
  case postB =>
   rintro c st' ⟨rfl,R,q⟩
   obtain ⟨runs,rest,ea,el,er,em⟩:=R.ex
   have lm:=em.length
   rw[rh] at lm
   have lr:=congrArg List.length ea
   rw[rh,szR R,rC,el] at lr
   have er0:rest=[]:=xc.mp (by omega)
   subst er0
   rw[tK] at ea
   match runs,er,lm,el,ea with
   | [],_,_,el,_=>simp at el;omega
   | [r],er,_,_,ea =>
    have e:(rM st').toList=r:=by rw[ea];simp
    exact rH (h st' R.perm (by rw[e];exact (er r (by simp)).1) R.f)
   | _ :: _ :: _,_,lm,_,_=>simp at lm;omega
 case step =>
  rintro x c st1 _ hx ⟨lo,rfl,l1,l2,R⟩
  dsimp only
  by_cases cl:lo≥(rM st).size
  ·rw[if_pos cl]
   obtain rfl:lo=(rM st).size:=by omega
   exact rH ⟨rfl,R⟩
  rw[if_neg cl]
  have s1:=szR R
  refine rD (nX C R.k (uR R) (by omega) (by omega) λn st2 n1 n2 sa2 up2 =>?_)
  dsimp only
  have R2:=R.sa sa2
  have s2:=szR R2
  by_cases cm:n<mrn (rM st).size (rM st).size 0
  case' pos =>
   rw[if_pos cm]
   refine rD (xZ (vj ⟨rfl,?_⟩))
   obtain ⟨fo,e⟩:∃fo,fo=min ((rM st).size-lo) (mrn (rM st).size (rM st).size 0):=⟨_,rfl⟩
   rw[<- e]
   refine rD (mH C R2.k (uR R2) (by omega) (by omega) up2 λst3 sa3 up3 =>?_)
   simp only[tE,rJ,if_false]
   have R3:=R2.sa sa3
   have f0:0<fo:=by omega
   have f1:lo+fo<=(rM st).size:=by omega
  case' neg =>
   rw[if_neg cm]
   obtain ⟨fo,e⟩:∃fo,fo=n:=⟨_,rfl⟩
   subst e
   obtain ⟨st3,e3⟩:∃st3,st3=st2:=⟨_,rfl⟩
   subst e3
   have R3:=R2
   have up3:=up2
   have f0:0<fo:=n1
   have f1:lo+fo<=(rM st).size:=by omega
  all_goals
   have srt:=lj up3
   have s3:=szR R3
   refine rD (xk ?_)
   cases hbk:(rY st3).back? with
   | none =>
    dsimp only
    exact rD (ux (rH ⟨lo+fo,rfl,by omega,f1,R3.push f0 (by omega) srt⟩))
   | some t =>
    obtain ⟨t1,t2,t3⟩:=t
    dsimp only
    refine rD (ug (sS (I:=λ_ c st'=>c=(none,())/\Rn key κ a0 lo st'/\(rM st').toList.drop lo=(rM st3).toList.drop lo) (Q:=λc st'=>c=(none,())/\Rn key κ a0 lo st'/\(rM st').toList.drop lo=(rM st3).toList.drop lo) ?stepC ?finC ⟨rfl,R3,rfl⟩) ?postC)
    case finC=>exact λc st' q=>q
    case stepC =>
     rintro z c st4 _ _ ⟨rfl,R4,d4⟩
     refine rD (xk ?_)
     by_cases p1:(rY st4).size>1
     ·rw[if_pos p1]
      have lt:(rY st4).size-2<(rY st4).size:=by omega
      have e:(rY st4)[(rY st4).size-2]? = some (rY st4)[(rY st4).size-2]:=by simp[lt]
      rw[e]
      dsimp only
      split
      ·exact rH ⟨rfl,R4,d4⟩
      ·refine rD (iA C hu R4 (by omega) λst5 R5 _ d5 =>?_)
       simp only[tE,rJ,if_false]
       exact rH ⟨rfl,R5,d5.trans d4⟩
     ·rw[if_neg p1]
      exact rH ⟨rfl,R4,d4⟩
    case postC =>
     rintro c st4 ⟨rfl,R4,d4⟩
     dsimp only
     have s4:=szR R4
     refine rD (ux (rD (ux (rH ⟨lo+fo,rfl,by omega,f1,?_⟩))))
     refine Rn.push ?_ f0 ?_ ?_
     ·refine Rn.mod R4 _ _ ?_
      exact λp=>⟨rfl,rfl⟩
     ·show lo+fo<=(rM st4).size
      omega
     ·show (((rM st4).toList.drop lo).take fo).Pairwise (Le key)
      rw[d4]
      exact srt
end
open PySem PyProof.Rows
structure gN (prog:rO)(w:sC)(s:rj)(vs:List rg)(O:wA)(key:rg->O.α):Prop where
 ok:2<=vs.length->∀(A:sR) (h6:Heap),(∀b o,s.heap.get? b=some o->h6.get? b=some o)->∃κ,(∀(Q:SortKind->rj->Prop) (E:rg->rj->Prop),Q κ { s with heap:=h6 }->rX (sh prog w) A (keyKind' vs.toArray) Q E { s with heap:=h6 }) ∧
  Cmp prog w A { s with heap:=h6 } O (λp=>key p.1) (λp=>p.1=p.2/\p.1∈vs) κ
section
variable  {prog:rO}{w:sC}{A:sR}{E:rg->rj->Prop}{s:rj}{O:wA}{key:rg->O.α}
theorem zs:∀vs:List rg,(vs.zip vs).map (·.2)=vs
 | []=>rfl
 | v :: vs=>by rw[uI,sI,zs vs]
theorem iB {l:List rG}{vs:List rg}(h:l.Perm (vs.zip vs)):(l.map (·.2)).Perm vs/\∀p∈l,p.1=p.2/\p.1∈vs:=by
 have e:=zs vs
 refine ⟨by have:=h.map (·.2);rw[e] at this;exact this,λp hp =>?_⟩
 have m:=h.mem_iff.mp hp
 obtain ⟨i,hi⟩:=sH.mp m
 rw[wL] at hi
 have e1:=hi.1.symm.trans hi.2
 exact ⟨r9 e1,rT hi.1⟩
theorem cY {a:Addr}{vs:List rg}{n:Nat}{P:Fin->rj->Prop}(ho:s.heap.get? a=some (seqObj "list" vs.toArray n))(hz:vs.length<=rN)
    (hc:2<=vs.length->∀h6,(∀b o,b≠a->s.heap.get? b=some o->h6.get? b=some o)->∃κ,(∀(Q:SortKind->rj->Prop) (E:rg->rj->Prop),Q κ { s with heap:=h6 }->rX (sh prog w) A (keyKind' vs.toArray) Q E { s with heap:=h6 }) ∧
      Cmp prog w A { s with heap:=h6 } O (λp=>key p.1) (λp=>p.1=p.2/\p.1∈vs) κ)
    (h:∀out:List rg,out.Perm vs->out.Pairwise (λx y=>O.kle (key x) (key y))->P (.done (.ret .none)) { s with heap:=sortedHeap s.heap a vs out.toArray }):rX (sh prog w) A (Builtin.«list.sort» ⟨[.ref a],[]⟩) P E s:=by
  rw[list_sort_plain]
  have ha:a<s.heap.objs.size:=rB ho
  refine rd (yH ho rfl ?_)
  refine rd (yt ho rfl ?_ (by rw[rW];exact hz) (sM _))
  obtain ⟨e1,ho1⟩:∃e1,(s.heap.update a (uH λ_ => #[])).get? a=some (seqObj "list" #[] e1):=⟨_,get?_update_seq ho (λ_ => #[])⟩
  refine rd (seqEpoch_at ho1 rfl (rd (wpAny_newTuple ?_ (by exact hz))))
  refine rd (xn ?_ (sM _))
  refine ue ?_
  generalize hH:((s.heap.update a (uH λ_ => #[])).push (seqObj "tuple" vs.toArray 0)).push (seqObj "list" #[] 0)=h6
  have kp:∀b o,b≠a->s.heap.get? b=some o->h6.get? b=some o:=λb o nb e=>by
    rw[<- hH]
    refine rf _ (rf _ ?_)
    rw[ye _ _ _ _ nb]
    exact e
  have ho6:h6.get? a=some (seqObj "list" #[] e1):=by
    rw[<- hH]
    exact rf _ (rf _ ho1)
  have eH:∀out:List rg,sortedHeap s.heap a vs out.toArray=h6.update a (uH λ_=>out.toArray):=λout=>by rw[<- hH];rfl
  have go:∀st':se,(rM st').toList.Perm (vs.zip vs)->(rM st').toList.Pairwise (λp q=>O.kle (key p.1) (key q.1))->failedOf st'=none →
      rX (sh prog w) A (do
        let sorted:=(rM st').map (·.2)
        let touched:=(← seqEpoch a) != e1
        Builtin.List.listUpdate (.ref a) λ_=>sorted
        if let some e:=failedOf st' then rule "list.sort.comparison-raised";throw e
        if touched then rule "list.sort.modified";raiseError "ValueError" "list modified during sort"
        ret .none) P E { s with heap:=h6 }:=by
    intro st' pm ps hf
    obtain ⟨z1,z2⟩:=iB pm
    have em:(rM st').map (·.2)=((rM st').toList.map (·.2)).toArray:=by
      apply xr.mp
      rw[wa]
    dsimp only
    refine rd (seqEpoch_at ho6 rfl ?_)
    refine rd (yt ho6 rfl ?_ (sM _) (by rw[tD, <- rh,pm.length_eq,yU,Nat.min_self];omega))
    rw[hf]
    simp only[bne_self_eq_false,rJ,if_false]
    refine rp ?_
    rw[em, <- eH]
    refine h _ z1 (tF.mpr (ps.imp_of_mem λ{p q} hp hq le =>?_))
    rw[<- (z2 p hp).1, <- (z2 q hq).1]
    exact le
  by_cases h2:vs.toArray.size<2
  · rw[if_pos h2,if_pos h2]
    refine rd (rp ?_)
    dsimp only
    rw[StateT.run_pure]
    refine rd (rp ?_)
    refine go (SortSt.mk' general' (vs.toArray.zip vs.toArray) #[] 7 none) (by show (vs.toArray.zip vs.toArray).toList.Perm _;simp) ?_ rfl
    rw[rW] at h2
    have et:(vs.toArray.zip vs.toArray).toList=vs.zip vs:=by simp
    show (vs.toArray.zip vs.toArray).toList.Pairwise (λ(p q:rG)=>O.kle (key p.1) (key q.1))
    rw[et]
    have short:∀us:List rg,us.length<2->(us.zip us).Pairwise (λ(p q:rG)=>O.kle (key p.1) (key q.1)):=λus hu=>by
      match us,hu with
      | [],_=>exact List.Pairwise.nil
      | [v],_=>exact uu _ _
      | _ :: _ :: _,hu=>simp only[rL] at hu;omega
    exact short vs h2
  · rw[if_neg h2,if_neg h2]
    rw[rW] at h2
    obtain ⟨κ,k1,C⟩:=hc (by omega) h6 kp
    refine rd (k1 _ _ ?_)
    have et:(vs.toArray.zip vs.toArray).toList=vs.zip vs:=by simp
    refine rd (vi (mJ C (E:=E) (a0:=vs.zip vs) (st:=SortSt.mk' κ (vs.toArray.zip vs.toArray) #[] 7 none)
      (Q:=λ_ st'=>(rM st').toList.Perm (vs.zip vs)/\(rM st').toList.Pairwise (Le λ(p:rG)=>key p.1)/\failedOf st'=none)
      (iB (vo _)).2 et rfl rfl rfl (by rw[yU,Nat.min_self];omega) λst' a1 a2 a3=>⟨a1,a2,a3⟩) ?_ λ_ _ e=>e)
    rintro ⟨⟨⟩,st'⟩ s' ⟨rfl,hp,hs,hf⟩
    exact go st' hp hs hf
def iC (prog:rO)(w:sC)(s:rj)(v:rg)(vs:List rg):Prop :=
 ∀(A:sR) (E:rg->rj->Prop) (R:List rg->rj->Prop),(∀h1,(∀b o,s.heap.get? b=some o->h1.get? b=some o)->s.heap.objs.size<=h1.objs.size->R vs { s with heap:=h1 })->rX (sh prog w) A (collect v) R E s
theorem jj {v:rg}{vs:List rg}{Q:rg->rj->Prop}(hv:iC prog w s v vs)(hz:vs.length<=rN)(C:gN prog w s vs O key)
  (h:∀(h':Heap) (p:Addr) (out:List rg) (n:Nat),(∀b o,s.heap.get? b=some o->h'.get? b=some o)->s.heap.objs.size<=p->h'.get? p=some (seqObj "list" out.toArray n)->out.Perm vs->out.Pairwise (λx y=>O.kle (key x) (key y))->Q (.ref p) { s with heap:=h' }) :
  rX (sh prog w) A (call (.builtin "sorted") [v]) Q E s:=by
 refine wN kind_sorted plain_sorted entry_sorted (args_sorted1 _) ?_
 unfold Builtin.«sorted»
 refine rd (m:=checkCount "sorted" 1 1 _) (rp ?_)
 refine rd (hv _ _ _ λh1 k1 z1=>rd (xn ?_ hz))
 have hoL:(h1.push (seqObj "list" vs.toArray 0)).get? h1.objs.size=some (seqObj "list" vs.toArray 0):=rz _ rfl
 have kL:∀b o,s.heap.get? b=some o->(h1.push (seqObj "list" vs.toArray 0)).get? b=some o:=λb o e=>rf _ (k1 b o e)
 refine rd (ue (uo slot_list_sort ⟨_,hoL,rfl⟩ entry_list_sort (cY (key:=key) (O:=O) hoL hz (λh2 h6 k6 =>?_) λout pm ps=>⟨_,rfl,?_⟩) (args_list_sort _)))
 ·exact C.ok h2 _ h6 λb o e=>k6 b o (rQ (rF (rB e) z1)) (kL b o e)
 ·obtain ⟨n,en⟩:=sortedHeap_at (out:=out.toArray) hoL
  refine rp ⟨_,rfl,h _ _ out n (λb o e =>?_) z1 en pm ps⟩
  have lt:=rF (rB e) z1
  rw[sortedHeap_old (rQ lt) (by rw[zr];exact tQ lt)]
  exact kL b o e
theorem gO {l:Addr}{o:Obj}{vs:List rg}{n:Nat}(ho:s.heap.get? l=some o)(hc:o.cls = .type "list" \/ o.cls = .type "tuple")(hd:o.data = .seq vs.toArray n)(hz:vs.length<=rN):iC prog w s (.ref l) vs:=by
  intro A E R h
  unfold collect
  refine rd (wQ (tM entry_proto_collect' ?_))
  show rX _ _ (do again (.builtin "list.__iadd__" ⟨[<- newList [],.ref l],[]⟩)) _ _ s
  refine rd (xn (rp ⟨wH _ (by decide +kernel),tM entry_list_iadd' ?_⟩))
  show rX _ _ (uB (.ref s.heap.objs.size) (.ref l) (.ref s.heap.objs.size)) _ _ { s with heap:=s.heap.push (seqObj "list" #[] 0) }
  unfold uB
  have ho':(s.heap.push (seqObj "list" #[] 0)).get? l=some o:=rf _ ho
  have cond:∀T,o.cls = .type T->(T = "list" \/ T = "tuple")->rX (sh prog w) A (typeOf (.ref l)) (λt s'=>t = .type T/\s'={ s with heap:=s.heap.push (seqObj "list" #[] 0) }) E { s with heap:=s.heap.push (seqObj "list" #[] 0) }:=λT e _=>wI (T:=T) ⟨o,ho',e⟩ ⟨rfl,rfl⟩
  obtain ⟨T,eT,hT⟩:∃T,o.cls = .type T/\(T = "list" \/ T = "tuple"):=by
    rcases hc with hc | hc
    · exact ⟨_,hc,.inl rfl⟩
    · exact ⟨_,hc,.inr rfl⟩
  refine rd (wI (T:=T) ⟨o,ho',eT⟩ ?_)
  rw[if_pos (by rcases hT with rfl | rfl <;> simp)]
  refine rd (yH ho' hd ?_)
  refine rd (yH (xs := #[]) (n:=0) (rz _ rfl) rfl ?_)
  rw[if_neg (by simp)]
  refine rd (yt (xs := #[]) (n:=0) (rz _ rfl) rfl ?_ (sM _) (by show (#[]++vs.toArray).size<=rN+1;simp only[uP,rW,uh];omega))
  refine rp ?_
  show rX (sh prog w) A (do
      let o ← load s.heap.objs.size
      match o.data with
      | .seq xs _=>pure xs.toList
      | _=>unsupported "internal:collect") R E { s with heap:=(s.heap.push (seqObj "list" #[] 0)).update s.heap.objs.size (uH (· ++ vs.toArray)) }
  refine rd (zp (get?_update_seq (rz _ rfl) _) ?_)
  show rX _ _ (pure ((#[]:Array rg)++vs.toArray).toList) R E _
  rw[show ((#[]:Array rg)++vs.toArray).toList=vs by simp]
  refine rp (h _ (λb ob e =>?_) ?_)
  · rw[ye _ _ _ _ (rQ (rB e))]
    exact rf _ e
  · rw[Heap.size_update,zr]
    exact Nat.le_succ _
end
open PySem PyProof.Rows
def intOrd:wA where
 α:=Int
 blt:=λa b=>decide (a<b)
 irrefl:=λa=>by simp
 trans:=λa b c h1 h2=>by simp at *;omega
 negTrans:=λa b c h=>by simp at *;omega
 total:=λa b h1 h2=>by simp at *;omega
theorem lex_irrefl:∀a,HT.lexLt a a=false
 | []=>rfl
 | x :: xs=>by rw[HT.bq,if_pos rfl];exact lex_irrefl xs
theorem lex_trans:∀a b c,HT.lexLt a b=true->HT.lexLt b c=true->HT.lexLt a c=true
 | [],[],_,h,_=>by cases h
 | [],_ :: _,[],_,h=>by cases h
 | [],_ :: _,_ :: _,_,_=>rfl
 | _ :: _,[],_,h,_=>by cases h
 | _ :: _,_ :: _,[],_,h=>by cases h
 | x :: xs,y :: ys,z :: zs,h1,h2=>by
  rw[HT.bq] at *
  by_cases e1:x=y
  ·subst e1
   rw[if_pos rfl] at h1
   by_cases e2:x=z
   ·rw[if_pos e2] at h2 ⊢
    exact lex_trans xs ys zs h1 h2
   ·rw[if_neg e2] at h2 ⊢
    exact h2
  ·rw[if_neg e1] at h1
   have l1:=of_decide_eq_true h1
   by_cases e2:y=z
   ·subst e2
    rw[if_neg e1]
    exact h1
   ·rw[if_neg e2] at h2
    have l2:=of_decide_eq_true h2
    rw[if_neg (by omega)]
    exact decide_eq_true (by omega)
theorem dS:∀a b,HT.lexLt a b=false->HT.lexLt b a=false->a=b
 | [],[],_,_=>rfl
 | [],_ :: _,h,_=>by cases h
 | _ :: _,[],_,h=>by cases h
 | x :: xs,y :: ys,h1,h2=>by
  rw[HT.bq] at *
  by_cases e:x=y
  ·subst e
   rw[if_pos rfl] at h1 h2
   rw[dS xs ys h1 h2]
  ·rw[if_neg e] at h1
   rw[if_neg (vy e)] at h2
   have a1:=of_decide_eq_false h1
   have a2:=of_decide_eq_false h2
   omega
theorem nY (a b c:List Int)(h:HT.lexLt a c=true):HT.lexLt a b=true\/HT.lexLt b c=true:=by
 cases h1:HT.lexLt a b with
 | true=>exact .inl rfl
 | false =>
  right
  cases h2:HT.lexLt b a with
  | true=>exact lex_trans b a c h2 h
  | false=>rw[<- dS a b h1 h2];exact h
def lexOrd:wA where
 α:=List Int
 blt:=HT.lexLt
 irrefl:=lex_irrefl
 trans:=lex_trans
 negTrans:=nY
 total:=dS
def intOf:rg->Int
 | .int i _=>i
 | _=>0
section
variable  {prog:rO}{w:sC}{A:sR}{E:rg->rj->Prop}{s:rj}
def bJ (h:Heap)(v:rg):List Int:=match v with
 | .ref p=>match h.get? p with
  | some o=>match o.data with
   | .seq xs _=>xs.toList.map intOf
   | _=>[]
  | none=>[]
 | _=>[]
def bT (h:Heap)(v:rg)(ns:List Int):Prop:=∃p o xs n,v = .ref p/\h.get? p=some o/\o.cls = .type "tuple" /\ o.data = .seq xs n/\uc xs.toList ns
theorem ints_map:∀{vs:List rg} {ns:List Int},uc vs ns->vs.map intOf=ns
 | _,_,.nil=>rfl
 | _,_,.cons n t r=>by rw[sI,ints_map r];rfl
theorem bT.ints {h:Heap}{v:rg}{ns:List Int}(x:bT h v ns):bJ h v=ns:=by
 obtain ⟨p,o,xs,n,rfl,e,_,d,r⟩:=x
 unfold bJ
 dsimp only
 rw[e]
 dsimp only
 rw[d]
 exact ints_map r
theorem bT.keeps {h h':Heap}{v:rg}{ns:List Int}(x:bT h v ns)(k:∀b o,h.get? b=some o->h'.get? b=some o):bT h' v ns:=by
 obtain ⟨p,o,xs,n,rfl,e,r⟩:=x
 exact ⟨p,o,xs,n,rfl,k _ _ e,r⟩
theorem iD {fin:Bool}{Q:Bool->rj->Prop}:∀{us ws:List rg} {ns ms:List Int} (i:Nat),uc us ns->uc ws ms->(fin=true↔(decide (ns.length<ms.length)=true))->Q (HT.lexLt ns ms) s →
  PySem.W.KatLex prog w A true fin Q (us.zip ws) i s
 | _,_,_,_,i,.nil,.nil,hf,q=>by
  refine xK ?_
  have e:fin=false:=by cases fin with
   | false=>rfl
   | true=>have:=hf.mp rfl;simp at this
  rw[e];exact q
 | _,_,_,_,i,.nil,.cons _ _ _,hf,q=>by
  refine xK ?_
  have e:fin=true:=hf.mpr (by simp)
  rw[e];exact q
 | _,_,_,_,i,.cons _ _ _,.nil,hf,q=>by
  refine xK ?_
  have e:fin=false:=by cases fin with
   | false=>rfl
   | true=>have:=hf.mp rfl;simp at this
  rw[e];exact q
 | _,_,_,_,i,.cons (ns:=ns) a t r,.cons (ns:=ms) c u r',hf,q=>by
  rw[uI]
  refine PySem.W.kat_cons (wpAny_eqBool_int ?_)
  rw[HT.bq] at q
  by_cases e:a=c
  ·rw[if_pos e] at q
   rw[beq_iff_eq.mpr e]
   exact PySem.W.kat_yes (iD (i+1) r r' (by rw[hf];simp) q)
  ·rw[if_neg e] at q
   rw[beq_eq_false_iff_ne.mpr e]
   refine PySem.W.kat_no ?_
   by_cases i0:(true && i == 0)=true
   ·rw[i0]
    exact oneLt_int q
   ·rw[Bool.eq_false_iff.mpr i0,oneLt'_eq]
    simp only[rJ,if_false]
    refine rd (HT.ip _ _ a t c u prog w _ _ ?_)
    exact t9 q
theorem fg {h:Heap}:∀{vs:List rg},(∀v∈vs,∃ns,bT h v ns/\ns≠[])->∃fs,PySem.W.KatTups h vs fs/\fs.length=vs.length/\∀f∈fs,∃i t,f = .int i t
 | [],_=>⟨[],trivial,rfl,λf hf=>by cases hf⟩
 | v :: vs,hv=>by
  obtain ⟨fs,t,l,hf⟩:=fg λu hu=>hv u (r6 _ hu)
  obtain ⟨ns,⟨p,o,xs,n,rfl,e,c,d,r⟩,ne⟩:=hv v rK
  have hx:∃i t,xs[0]? = some (.int i t):=by
   rw[<- rq]
   generalize xs.toList=l at r
   cases r with
   | nil=>exact absurd rfl ne
   | cons i t r=>exact ⟨i,t,rfl⟩
  obtain ⟨i,t',hx⟩:=hx
  exact ⟨.int i t' :: fs,zy e c d hx t,by rw[rL,rL,l],λf hf'=>by
   rcases sv.mp hf' with q | q
   ·exact ⟨i,t',q⟩
   ·exact hf f q⟩
theorem dB {vs:List rg}(hv:∀v∈vs,∃ns,bT s.heap v ns/\ns≠[]):gN prog w s vs lexOrd (bJ s.heap):=by
 refine ⟨λh2 A h6 k6=>⟨tuples' true,λQ E q =>?_,⟨λE st x y Q hk hx hy q =>?_⟩⟩⟩
 ·obtain ⟨fs,t,l,hf⟩:=fg (h:=h6) (vs:=vs) λv hv'=>by
   obtain ⟨ns,i,ne⟩:=hv v hv'
   exact ⟨ns,i.keeps k6,ne⟩
  refine PySem.W.kat_kind (T :=.type "int") t (by omega) (λf hf' =>?_) rfl q
  obtain ⟨i,t',rfl⟩:=hf f hf'
  exact zx rfl
 ·obtain ⟨ns,i1,_⟩:=hv _ hx.2
  obtain ⟨ms,i2,_⟩:=hv _ hy.2
  have q':Q (some (HT.lexLt (bJ s.heap x.1) (bJ s.heap y.1))) st:=q
  rw[i1.ints,i2.ints] at q'
  obtain ⟨p1,o1,xs1,n1,e1,g1,c1,d1,r1⟩:=i1.keeps k6
  obtain ⟨p2,o2,xs2,n2,e2,g2,c2,d2,r2⟩:=i2.keeps k6
  rw[lt'_eq]
  refine rD (xk ?_)
  rw[hk,e1,e2]
  have l1:=r1.length
  have l2:=r2.length
  refine rD (xZ (xo (PySem.W.kat_lt g1 d1 g2 d2 (iD 0 r1 r2 ?_ ⟨rfl,?_⟩))))
  ·rw[<- l1, <- l2,rh,rh]
  ·exact rH q'
end
end Srt
namespace L2
open PySem PySem.Spec PyProof.Rows
theorem fh {α β:Type}{f:α -> β}:∀{l:List β} {m:List α},l.Perm (m.map f)->∃m':List α,m'.Perm m/\l=m'.map f:=by
 intro l m h
 generalize hk:m.map f=k at h
 induction h generalizing m with
 | nil =>
  have:m=[]:=List.map_eq_nil_iff.mp hk
  exact ⟨[],by rw[this],rfl⟩
 | cons x _ ih =>
  match m,hk with
  | y :: m,hk =>
   rw[sI] at hk
   injection hk with h1 h2
   obtain ⟨m',p,e⟩:=ih h2
   exact ⟨y :: m',p.cons y,by rw[sI, <- e,h1]⟩
  | [],hk=>cases hk
 | swap x y l =>
  match m,hk with
  | a :: b :: m,hk =>
   rw[sI,sI] at hk
   injection hk with h1 h2
   injection h2 with h2 h3
   exact ⟨b :: a :: m,List.Perm.swap a b m,by rw[sI,sI,h1,h2,h3]⟩
  | [],hk=>cases hk
  | [_],hk=>simp at hk
 | trans _ _ ih1 ih2 =>
  obtain ⟨m',p,e⟩:=ih2 hk
  obtain ⟨m'',p',e'⟩:=ih1 e.symm
  exact ⟨m'',p'.trans p,e'⟩
theorem cw:∀{ns:List Int} {us:List rg},Vals (ns.map V.int) us->uc us ns:=λr=>intsAre_of r
theorem cj:∀{α:Type} {f:α -> Addr} {ps:List α} {us:List rg},Vals (ps.map λx=>V.ref (f x)) us->us=ps.map λx=>si (f x)
 | _,_,[],_,r=>by cases r;rfl
 | _,f,p :: ps,_,r=>by
  cases r with
  | cons h t=>rw[sI, <- cj t,show _=si (f p) from h]
theorem cX {α:Type}{f:α -> Addr}:∀{ps:List α},Vals (ps.map λx=>V.ref (f x)) (ps.map λx=>si (f x))
 | [] =>.nil
 | p :: ps =>.cons rfl cX
section
variable  {X:Cx}
theorem Inv.mK {pins:List (Addr×Obj)}{σ:St}{H:Hp}{s:rj}{p:Addr}{ys:List V}(I:Inv X pins σ H s)(h:SqL X.K H p ys\/SqT X.K H p ys) :
  ∃(its:List rg) (o:Obj) (n:Nat),Vals ys its/\s.heap.get? p=some o/\(o.cls = .type "list" \/ o.cls = .type "tuple")/\o.data = .seq its.toArray n/\ys.length<=rN:=by
 rcases h with h | h
 ·obtain ⟨its,r,⟨o,n,e,c,_,d⟩,z⟩:=I.list h
  exact ⟨its,o,n,r,e,.inl c,d,z⟩
 ·obtain ⟨its,r,⟨o,e,c,n,d⟩,z⟩:=I.tuple h
  exact ⟨its,o,n,r,e,.inr c,d,z⟩
theorem Inv.newList {pins:List (Addr×Obj)}{σ:St}{H:Hp}{s:rj}{h':Heap}{p:Addr}{ys:List V}{its:List rg}{n:Nat}(I:Inv X pins σ H s)(k:∀b o,s.heap.get? b=some o->h'.get? b=some o)(hp:s.heap.objs.size<=p)
  (e:h'.get? p=some { cls :=.type "list",data :=.seq its.toArray n }) (r:Vals ys its) (hz:ys.length<=rN):Inv X pins σ (upd H p (.lst ys)) { s with heap:=h' } :=
 I.laid (t':=s.toks) k hp ⟨hz,its,n,r,e⟩
theorem gP:bG X (.builtin "sorted") (λxs H Q=>∃(p:Addr) (ts:List (Addr×List Int)),xs=[.ref p]/\(SqL X.K H p (ts.map λt =>.ref t.1)\/SqT X.K H p (ts.map λt =>.ref t.1))/\(∀t∈ts,SqT X.K H t.1 (t.2.map V.int)/\t.2≠[]) ∧
  ∀(l:Addr) (out:List (Addr×List Int)),H l=none->out.Perm ts->out.Pairwise (λa b=>HT.lexLt b.2 a.2=false)->Q (.ref l) (upd H l (.lst (out.map λt =>.ref t.1)))):=by
 intro pins s σ H xs us Q I r h
 obtain ⟨p,ts,rfl,hs,ht,q⟩:=h
 obtain ⟨u,rfl,ru⟩:=vals1 r
 cases (show u=si p from ru)
 obtain ⟨its,o,n,rv,e,c,d,z⟩:=I.mK hs
 have ei:=cj rv
 have lz:its.length<=rN:=by rw[<- rv.length];exact z
 have tup:∀t∈ts,Srt.bT s.heap (si t.1) t.2:=λt hm=>by
  obtain ⟨jts,jr,⟨jo,je,jc,jn,jd⟩,_⟩:=I.tuple (ht t hm).1
  exact ⟨t.1,jo,_,jn,rfl,je,jc,jd,by simpa using cw jr⟩
 have hv:∀v∈its,∃ns,Srt.bT s.heap v ns/\ns≠[]:=λv hv=>by
  rw[ei] at hv
  obtain ⟨t,hm,rfl⟩:=sJ.mp hv
  exact ⟨t.2,tup t hm,(ht t hm).2⟩
 refine Srt.jj (Srt.gO e c d lz) lz (Srt.dB hv) λh' l out m k hl el pm ps =>?_
 rw[ei] at pm
 obtain ⟨out',pm',rfl⟩:=fh pm
 refine ⟨.ref l,_,I.newList k hl el cX (by rw[rn,pm'.length_eq, <- rn (f:=λt:Addr×List Int=>V.ref t.1)];exact z),rfl,q l _ (I.hok.fresh hl) pm' ?_⟩
 refine (tF.mp ps).imp_of_mem λ{a b} ha hb le =>?_
 have le':HT.lexLt (Srt.bJ s.heap (si b.1)) (Srt.bJ s.heap (si a.1))=false:=le
 rw[(tup a (pm'.mem_iff.mp ha)).ints,(tup b (pm'.mem_iff.mp hb)).ints] at le'
 exact le'
end
open PySem PySem.Spec PyProof.Rows
section
variable  {X:Cx}{tg:Expr}
end
theorem mL {X:Cx}{K:rk}{x y:Str}{i j k:Nat}{p p' pos:Pos}(hN:X.N.Nodup)(hi:X.N[i]? = some x)(hj:X.N[j]? = some y)(hx:Loc X.env.scope x)(hy:Loc X.env.scope y)(hc:X.calm=true:=by rfl)(h:X.K=K:=by rfl)
  (hf:X.fn x=true\/X.env.scope.names.lookup x=some .local:=by first | exact .inl rfl | exact .inr rfl) (hg:X.fn y=true\/X.env.scope.names.lookup y=some .local:=by first | exact .inl rfl | exact .inr rfl):PG X (.Tuple [.Name x p,.Name y p'] k pos) (oU K i j):=by
 subst h
 exact l5 hc (dv (bp hN hi hx hf) (dv (bp hN hj hy hg) jM))
end L2
namespace STab
open PySem PySem.SetTable
def gQ (xs:Array Nat):Prop:=∀i j a b:Nat,xs[i]? = some a->xs[j]? = some b->i<j->a<b
theorem mM {xs:Array Nat}(R:gQ xs)(j:Nat):∀(fuel lo hi:Nat),lo<=hi->hi<=xs.size->hi-lo<=fuel →
  (∀i a,i<lo->xs[i]? = some a->a<j)->(∀i a,hi<=i->xs[i]? = some a->j<=a) →
  below.go xs j fuel lo hi<=xs.size/\(∀i a,xs[i]? = some a->(i<below.go xs j fuel lo hi↔a<j)):=by
 intro fuel
 induction fuel with
 | zero =>
  intro lo hi h1 h2 h3 h4 h5
  unfold below.go
  refine ⟨by omega,λi a e=>⟨λq=>h4 i a q e,λq =>?_⟩⟩
  apply vw
  intro q2
  have:=h5 i a (by omega) e
  omega
 | succ fuel ih =>
  intro lo hi h1 h2 h3 h4 h5
  unfold below.go
  by_cases hl:lo<hi
  ·rw[if_pos hl]
   dsimp only
   have hm:(lo+hi)/2<xs.size:=by omega
   have em:xs[(lo+hi)/2]? = some xs[(lo+hi)/2]:=rP hm
   have eg:xs.getD ((lo+hi)/2) j=xs[(lo+hi)/2]:=by simp[Array.getD,hm]
   rw[eg]
   by_cases hc:xs[(lo+hi)/2]<j
   ·rw[if_pos hc]
    refine ih _ _ (by omega) h2 (by omega) (λi a q e =>?_) h5
    by_cases q2:i=(lo+hi)/2
    ·rw[q2,em] at e;cases e;exact hc
    ·exact Nat.lt_trans (R i _ _ _ e em (by omega)) hc
   ·rw[if_neg hc]
    refine ih _ _ (by omega) (by omega) (by omega) h4 (λi a q e =>?_)
    by_cases q2:i=(lo+hi)/2
    ·rw[q2,em] at e;cases e;omega
    ·have:=R _ i _ _ em e (by omega)
     omega
  ·rw[if_neg hl]
   refine ⟨by omega,λi a e=>⟨λq=>h4 i a q e,λq =>?_⟩⟩
   apply vw
   intro q2
   have:=h5 i a (by omega) e
   omega
theorem bU {xs:Array Nat}(R:gQ xs)(j:Nat):below xs j<=xs.size/\∀i a,xs[i]? = some a->(i<below xs j↔a<j) :=
 mM R j _ _ _ (sM _) (rA _) (by omega) (λi a h=>by omega) λi a h e=>by
  rw[t7 (by omega)] at e;cases e
theorem below_at {xs:Array Nat}(R:gQ xs){i j:Nat}(h:xs[i]? = some j):below xs j=i:=by
 obtain ⟨h1,h2⟩:=bU R j
 have hi:i<xs.size:=by
  apply vw;intro q;rw[t7 q] at h;cases h
 have a1:¬ i<below xs j:=λq=>by have:=(h2 i j h).mp q;omega
 apply vJ (by omega)
 apply v7
 intro q
 have e:=rP (xs:=xs) (i:=below xs j) (by omega)
 have l1:=R _ _ _ _ e h q
 have:=(h2 _ _ e).mpr l1
 omega
theorem jk {xs:Array Nat}(R:gQ xs){i j:Nat}(h:xs[i]? = some j):below xs (j+1)=i+1:=by
 obtain ⟨h1,h2⟩:=bU R (j+1)
 have a1:i<below xs (j+1):=(h2 i j h).mpr (by omega)
 apply vJ _ a1
 apply v7
 intro q
 have hk:i+1<xs.size:=by omega
 have e:=rP (xs:=xs) hk
 have l1:=R _ _ _ _ h e (by omega)
 have:=(h2 _ _ e).mp q
 omega
theorem jm {xs:Array Nat}(R:gQ xs):below xs 0=0:=by
 obtain ⟨h1,h2⟩:=bU R 0
 apply vJ _ (sM _)
 apply v7
 intro q
 have:=(h2 0 _ (rP (by omega))).mp q
 omega
theorem aW {α:Type}(xs:Array α)(p:Nat)(x:α):(insertAt xs p x).toList=xs.toList.take p++x :: xs.toList.drop p:=by
 unfold insertAt
 simp
 rw[sN (by simp)]
theorem bg {α:Type}(xs:Array α){p:Nat}(hp:p<=xs.size)(x:α)(i:Nat) :
  (insertAt xs p x)[i]? = if i<p then xs[i]? else if i=p then some x else xs[i-1]? := by
 rw[<- rq,aW]
 have hl:(xs.toList.take p).length=p:=by rw[sA,rh];omega
 by_cases h1:i<p
 ·rw[if_pos h1,ud (by omega),tU,if_pos h1,rq]
 ·rw[if_neg h1,tY (by omega),hl]
  by_cases h2:i=p
  ·rw[if_pos h2,h2,Nat.sub_self];rfl
  ·rw[if_neg h2]
   obtain ⟨d,hd⟩:∃d,i-p=d+1:=⟨i-p-1,by omega⟩
   rw[hd,uW,u9,rq]
   congr 1;omega
theorem bK {α:Type}(xs:Array α)(p:Nat)(x:α):(insertAt xs p x).size=xs.size+1:=by
 rw[<- rh,aW,rC,rL,sA,uE,rh]
 omega
theorem insertAt_perm {α:Type}(xs:Array α)(p:Nat)(x:α):(insertAt xs p x).toList.Perm (x :: xs.toList):=by
 rw[aW]
 exact yL.trans (by rw[uj])
theorem gR {α β:Type}(xs:Array α)(p:Nat)(x:α)(f:α -> β):(insertAt xs p x).map f=insertAt (xs.map f) p (f x):=by
 apply xr.mp
 rw[wa,aW,aW,wa,sE,sI,zu,zv]
theorem fT {xs:Array Nat}(R:gQ xs){j:Nat}(hj:∀i:Nat,xs[i]? ≠ some j):gQ (insertAt xs (below xs j) j):=by
 obtain ⟨h1,h2⟩:=bU R j
 intro a b x y ea eb hab
 rw[bg _ h1] at ea eb
 by_cases a1:a<below xs j
 ·rw[if_pos a1] at ea
  have:=(h2 _ _ ea).mp a1
  by_cases b1:b<below xs j
  ·rw[if_pos b1] at eb;exact R _ _ _ _ ea eb hab
  ·rw[if_neg b1] at eb
   by_cases b2:b=below xs j
   ·rw[if_pos b2] at eb;cases eb;exact this
   ·rw[if_neg b2] at eb
    exact R _ _ _ _ ea eb (by omega)
 ·rw[if_neg a1] at ea
  rw[if_neg (by omega),if_neg (by omega)] at eb
  have l1:¬ y<j:=λq=>by have:=(h2 _ _ eb).mpr q;omega
  by_cases a2:a=below xs j
  ·rw[if_pos a2] at ea;cases ea
   have:y≠j:=λq=>hj _ (q ▸ eb)
   omega
  ·rw[if_neg a2] at ea
   exact R _ _ _ _ ea eb (by omega)
def occ (t:SetTable)(j:Nat):Prop:=∃i:Nat,t.place[i]? = some j
theorem dU {t:SetTable}(R:gQ t.place){i j:Nat}(h:t.place[i]? = some j):t.slot j = .live i:=by
 unfold SetTable.slot
 dsimp only
 rw[below_at R h,h]
 simp
theorem jq {t:SetTable}(D:t.dummies = #[]){j:Nat}(h:¬ occ t j):t.slot j = .empty:=by
 unfold SetTable.slot
 dsimp only
 have h1:(t.place[below t.place j]? == some j)=false:=by
  rw[beq_eq_false_iff_ne];exact λq=>h ⟨_,q⟩
 rw[h1,D]
 simp[has]
def adv (mask:Nat)(p:Probe):Probe :=
 if p.more>0 then { p with j:=p.j+1,more:=p.more-1 } else
 let (i,perturb):=leap mask p.i p.perturb
 { p with j:=i,more:=runEnd mask i-i,i,perturb }
def bM (mask i perturb:Nat):Probe:={ j:=i,more:=runEnd mask i-i,i,perturb,dummy:=none }
def start (mask:Nat)(h:Int):Probe:=bM mask (bits h%(mask+1)) (bits h)
inductive Way (oc:Nat->Prop)(mask:Nat):Nat->Probe->Probe->Prop
 | here (p:Probe):Way oc mask 0 p p
 | step {n:Nat} {p q:Probe}:oc p.j->Way oc mask n (adv mask p) q->Way oc mask (n+1) p q
theorem Way.mono {oc oc':Nat->Prop}{mask n:Nat}{p q:Probe}(m:∀j,oc j->oc' j)(h:Way oc mask n p q):Way oc' mask n p q:=by
 induction h with
 | here p=>exact .here p
 | step a _ ih=>exact .step (m _ a) ih
theorem Way.dummy {oc:Nat->Prop}{mask n:Nat}{p q:Probe}(h:Way oc mask n p q):q.dummy=p.dummy:=by
 induction h with
 | here p=>rfl
 | @step n p q _ _ ih =>
  rw[ih];unfold adv;split <;> rfl
theorem qh {mask:Nat}{p:Probe}(h:p.j+p.more<=mask):(adv mask p).j+(adv mask p).more<=mask:=by
 unfold adv
 split
 ·dsimp only;omega
 ·dsimp only[leap]
  have:(p.i*5+1+p.perturb/32)%(mask+1)<mask+1:=vV _ (vD mask)
  unfold runEnd
  split <;> omega
theorem iE (mask:Nat)(h:Int):(start mask h).j+(start mask h).more<=mask:=by
 unfold start bM
 dsimp only
 have:bits h%(mask+1)<mask+1:=vV _ (vD mask)
 unfold runEnd
 split <;> omega
theorem Way.le {oc:Nat->Prop}{mask n:Nat}{p q:Probe}(h:Way oc mask n p q):p.j+p.more<=mask->q.j<=mask:=by
 induction h with
 | here p=>intro;omega
 | step _ _ ih=>intro h;exact ih (qh h)
def gS (mask:Nat):Nat->Probe->Probe
 | 0,p=>p
 | n+1,p=>gS mask n (adv mask p)
theorem iF (mask:Nat):∀(a b:Nat) (p:Probe),gS mask (a+b) p=gS mask b (gS mask a p)
 | 0,b,p=>by rw[vc];rfl
 | a+1,b,p=>by rw[show a+1+b=(a+b)+1 by omega];exact iF mask a b (adv mask p)
theorem lq (oc:Nat->Prop)(mask:Nat):∀(n:Nat) (p:Probe),¬ oc (gS mask n p).j->∃k q,k<=n/\Way oc mask k p q/\¬ oc q.j:=by
 intro n
 induction n with
 | zero=>intro p h;exact ⟨0,p,rA _,.here p,h⟩
 | succ n ih =>
  intro p h
  by_cases hp:oc p.j
  ·obtain ⟨k,q,a,b,c⟩:=ih (adv mask p) h
   exact ⟨k+1,q,by omega,.step hp b,c⟩
  ·exact ⟨0,p,sM _,.here p,hp⟩
theorem nZ (mask:Nat):∀(m:Nat) (p:Probe),p.more=m->p.dummy=none->gS mask (m+1) p=bM mask (leap mask p.i p.perturb).1 (leap mask p.i p.perturb).2:=by
 intro m
 induction m with
 | zero =>
  intro p h d
  show adv mask p=_
  unfold adv
  rw[if_neg (by omega)]
  obtain ⟨j,mo,i,pe,dm⟩:=p
  cases d
  rfl
 | succ m ih =>
  intro p h d
  show gS mask (m+1) (adv mask p)=_
  have e:adv mask p={ p with j:=p.j+1,more:=p.more-1 }:=by unfold adv;rw[if_pos (by omega)]
  rw[e]
  exact ih _ (by dsimp only;omega) d
def bz (mask:Nat):Nat->Nat×Nat->Nat×Nat
 | 0,x=>x
 | k+1,x=>bz mask k (leap mask x.1 x.2)
theorem gq (mask:Nat):∀(a b:Nat) (x:Nat×Nat),bz mask (a+b) x=bz mask b (bz mask a x)
 | 0,b,x=>by rw[vc];rfl
 | a+1,b,x=>by rw[show a+1+b=(a+b)+1 by omega];exact gq mask a b _
theorem more_le (mask i:Nat):runEnd mask i-i<=9:=by unfold runEnd;split <;> omega
theorem js (mask:Nat):∀(k i pe:Nat),∃n,n<=10*k/\gS mask n (bM mask i pe)=bM mask (bz mask k (i,pe)).1 (bz mask k (i,pe)).2:=by
 intro k
 induction k with
 | zero=>intro i pe;exact ⟨0,by omega,rfl⟩
 | succ k ih =>
  intro i pe
  obtain ⟨n,h1,h2⟩:=ih (leap mask i pe).1 (leap mask i pe).2
  refine ⟨(runEnd mask i-i+1)+n,by have:=more_le mask i;omega,?_⟩
  rw[iF,nZ mask (runEnd mask i-i) (bM mask i pe) rfl rfl]
  exact h2
theorem cZ (mask:Nat):∀(k i pe:Nat),(bz mask k (i,pe)).2=pe/32 ^ k
 | 0,i,pe=>by simp[bz]
 | k+1,i,pe=>by
  show (bz mask k (leap mask i pe)).2=_
  rw[show leap mask i pe=((leap mask i pe).1,pe/32) from rfl,cZ mask k,Nat.div_div_eq_div_mul,Nat.pow_succ,Nat.mul_comm 32]
theorem iG (mask:Nat):∀(k i pe:Nat),i<=mask->(bz mask k (i,pe)).1<=mask
 | 0,i,pe,h=>h
 | k+1,i,pe,h=>by
  show (bz mask k (leap mask i pe)).1<=mask
  rw[show leap mask i pe=((leap mask i pe).1,pe/32) from rfl]
  exact iG mask k _ _ (vg (vV _ (vD mask)))
def ste (m i:Nat):Nat:=(i*5+1)%m
def its (m:Nat):Nat->Nat->Nat
 | 0,i=>i
 | n+1,i=>its m n (ste m i)
theorem eL (m:Nat):∀(a b i:Nat),its m (a+b) i=its m b (its m a i)
 | 0,b,i=>by rw[vc];rfl
 | a+1,b,i=>by rw[show a+1+b=(a+b)+1 by omega];exact eL m a b _
def orb (m:Nat):Nat->Nat->List Nat
 | 0,_=>[]
 | n+1,i=>i :: orb m n (ste m i)
theorem gT (m:Nat):∀(n i j:Nat),j∈orb m n i->∃r,r<n/\its m r i=j
 | 0,i,j,h=>by cases h
 | n+1,i,j,h=>by
  rcases sv.mp h with h | h
  ·exact ⟨0,by omega,h.symm⟩
  ·obtain ⟨r,a,b⟩:=gT m n _ _ h
   exact ⟨r+1,by omega,b⟩
def whole (m:Nat):Bool:=((um m).all λj=>(orb m m 0).contains j) && (its m m 0 == 0)
theorem ly {m:Nat}(h:whole m=true){i j:Nat}(hi:i<m)(hj:j<m):∃r,r<m/\its m r i=j:=by
 unfold whole at h
 rw[uF,vt,beq_iff_eq] at h
 obtain ⟨h1,h2⟩:=h
 obtain ⟨a,a1,a2⟩:=gT m m 0 i (xM.mp (h1 i (tI.mpr hi)))
 obtain ⟨b,b1,b2⟩:=gT m m 0 j (xM.mp (h1 j (tI.mpr hj)))
 by_cases hab:a<=b
 ·refine ⟨b-a,by omega,?_⟩
  rw[<- a2, <- eL,show a+(b-a)=b by omega]
  exact b2
 ·refine ⟨m+b-a,by omega,?_⟩
  rw[<- a2, <- eL,show a+(m+b-a)=m+b by omega,eL,h2]
  exact b2
theorem qi:whole 8=true:=by decide +kernel
theorem n5:whole 32=true:=by decide +kernel
theorem mN:whole 128=true:=by decide +kernel
theorem mO:whole 512=true:=by decide +kernel
def Msk (mask:Nat):Prop:=mask=7\/mask=31\/mask=127\/mask=511
theorem Msk.whole {mask:Nat}(h:Msk mask):whole (mask+1)=true:=by
 rcases h with rfl | rfl | rfl | rfl
 ·exact qi
 ·exact n5
 ·exact mN
 ·exact mO
theorem gs (mask:Nat):∀(r i:Nat),bz mask r (i,0)=(its (mask+1) r i,0)
 | 0,i=>rfl
 | r+1,i=>by
  show bz mask r (leap mask i 0)=_
  rw[show leap mask i 0=(ste (mask+1) i,0) from rfl,gs mask r];rfl
theorem n6 (h:Int):bits h<2 ^ 64:=by
 unfold bits
 have h1:=vK h (show (0:Int)<2 ^ 64 by decide)
 have h0:=wy h (show (2 ^ 64:Int)≠0 by decide)
 have:((2 ^ 64:Nat):Int)=2 ^ 64:=by decide
 omega
theorem fi {mask:Nat}(hm:Msk mask){h:Int}{j:Nat}(hj:j<=mask):∃k,k<turns mask/\(bz mask k (bits h%(mask+1),bits h)).1=j:=by
 have p0:(bz mask 13 (bits h%(mask+1),bits h)).2=0:=by
  rw[cZ]
  exact Nat.div_eq_of_lt (rF (n6 h) (by decide))
 have i0:=iG mask 13 (bits h%(mask+1)) (bits h) (vg (vV _ (vD mask)))
 obtain ⟨r,r1,r2⟩:=ly hm.whole (i:=(bz mask 13 (bits h%(mask+1),bits h)).1) (j:=j) (by omega) (by omega)
 refine ⟨13+r,by unfold turns;omega,?_⟩
 rw[gq,show bz mask 13 (bits h%(mask+1),bits h)=((bz mask 13 (bits h%(mask+1),bits h)).1,0) from zB rfl p0,gs]
 exact r2
theorem mP {mask:Nat}(hm:Msk mask)(oc:Nat->Prop)(h:Int){j:Nat}(hj:j<=mask)(he:¬ oc j):∃n q,n<10*turns mask/\Way oc mask n (start mask h) q/\¬ oc q.j/\q.j<=mask/\q.dummy=none:=by
 obtain ⟨k,k1,k2⟩:=fi hm (h:=h) hj
 obtain ⟨n,n1,n2⟩:=js mask k (bits h%(mask+1)) (bits h)
 obtain ⟨n',q,a,b,c⟩:=lq oc mask n (start mask h) (by
  show ¬ oc (gS mask n (bM mask _ _)).j
  rw[n2]
  show ¬ oc (bz mask k (bits h%(mask+1),bits h)).1
  rw[k2]
  exact he)
 exact ⟨n',q,by omega,b,c,b.le (iE mask h),b.dummy⟩
theorem gu {mask n:Nat}(oc:Nat->Prop)(f:Nat->Nat)(hf:∀j,j<=mask->oc j->f j<n)(inj:∀i j,i<=mask->j<=mask->oc i->oc j->f i=f j->i=j)(hn:n<=mask):∃j,j<=mask/\¬ oc j:=by
 by_cases q:∃j,j<=mask/\¬ oc j
 ·exact q
 ·exfalso
  have all:∀j,j<=mask->oc j:=λj hj=>by
   by_cases o:oc j
   ·exact o
   ·exact absurd ⟨j,hj,o⟩ q
  have nd:((um (mask+1)).map f).Nodup:=by
   unfold List.Nodup
   rw[tF]
   refine vE (λ{a b} ha hb hab e=>hab (inj a b ?_ ?_ (all _ ?_) (all _ ?_) e)) (yN)
   all_goals (rw[tI] at ha hb;omega)
  have:=List.Nodup.length_le_of_subset nd (l₂:=um n) (λx hx=>by
   obtain ⟨j,hj,e⟩:=sJ.mp hx
   rw[tI] at hj ⊢
   rw[<- e]
   exact hf j (by omega) (all j (by omega)))
  rw[rn,vW,vW] at this
  omega
open PySem PySem.SetTable
structure Tab (t:SetTable)(hs:Array Int):Prop where
 dm:t.dummies = #[]
 rise:gQ t.place
 size:t.place.size=hs.size
 le:∀i j:Nat,t.place[i]? = some j->j<=t.mask
 msk:Msk t.mask
 fit:hs.size<=t.mask
 reach:∀(i j:Nat) (h:Int),t.place[i]? = some j->hs[i]? = some h->∃n q,Way (occ t) t.mask n (start t.mask h) q/\q.j=j
theorem ck {α:Type}{xs:Array α}{i:Nat}{a:α}(h:xs[i]? = some a):i<xs.size:=by
 apply vw;intro q;rw[t7 q] at h;cases h
theorem Tab.fill {t:SetTable}{hs:Array Int}(T:Tab t hs):t.fill=hs.size:=by
 unfold SetTable.fill;rw[T.dm,T.size];rfl
theorem Tab.fits {t:SetTable}{hs:Array Int}(T:Tab t hs):t.fits hs.size=true:=by
 unfold SetTable.fits
 rw[T.fill,T.size]
 simp[T.fit]
theorem Tab.ends {t:SetTable}{hs:Array Int}(T:Tab t hs)(h:Int):∃n q,n<10*turns t.mask/\Way (occ t) t.mask n (start t.mask h) q/\¬ occ t q.j/\q.j<=t.mask/\q.dummy=none:=by
 obtain ⟨j,hj,he⟩:=gu (mask:=t.mask) (n:=hs.size) (occ t) (λj=>below t.place j)
  (λj _ ⟨i,e⟩=>by show below t.place j<hs.size;rw[below_at T.rise e, <- T.size];exact ck e)
  (λi j _ _ ⟨a,ea⟩ ⟨b,eb⟩ e=>by
   have e':below t.place i=below t.place j:=e
   rw[below_at T.rise ea,below_at T.rise eb] at e'
   subst e'
   exact r9 (ea.symm.trans eb)) T.fit
 exact mP T.msk (occ t) h hj he
theorem mQ {t:SetTable}{hs:Array Int}(T:Tab t hs){H:Nat->Int}{h:Int}:∀(n:Nat) (p q:Probe) (fuel:Nat),Way (occ t) t.mask n p q->¬ occ t q.j->n<fuel->p.dummy=none →
  (SetTable.probe.go t H h fuel p=some (.empty q.j none)/\∀k r i,Way (occ t) t.mask k p r->t.place[i]? = some r.j->H i≠h) ∨
  (∃k r i,k<n/\Way (occ t) t.mask k p r/\t.place[i]? = some r.j/\H i=h/\SetTable.probe.go t H h fuel p=some (.candidate r.j i (adv t.mask r))/\Way (occ t) t.mask (n-k-1) (adv t.mask r) q/\(adv t.mask r).dummy=none
   /\ ∀k' r' i',k'<k->Way (occ t) t.mask k' p r'->t.place[i']? = some r'.j->H i'≠h):=by
 intro n
 induction n with
 | zero =>
  intro p q fuel W he hf hd
  cases W
  obtain ⟨fuel,rfl⟩:∃f,fuel=f+1:=⟨fuel-1,by omega⟩
  refine .inl ⟨?_,λk r i Wr er =>?_⟩
  ·unfold SetTable.probe.go
   rw[jq T.dm he]
   dsimp only
   rw[hd]
  ·cases Wr with
   | here=>exact absurd ⟨i,er⟩ he
   | step a _=>exact absurd a he
 | succ n ih =>
  intro p q fuel W he hf hd
  obtain ⟨fuel,rfl⟩:∃f,fuel=f+1:=⟨fuel-1,by omega⟩
  cases W with
  | step a W =>
   obtain ⟨i,ei⟩:=a
   have hd':(adv t.mask p).dummy=none:=by rw[<- hd];unfold adv;split <;> rfl
   by_cases hh:H i=h
   ·refine .inr ⟨0,p,i,by omega,.here p,ei,hh,?_,W,hd',λk' r' i' hk=>by omega⟩
    unfold SetTable.probe.go
    rw[dU T.rise ei]
    dsimp only
    rw[if_pos (by rw[hh];exact beq_self_eq_true h)]
    rfl
   ·have e0:SetTable.probe.go t H h (fuel+1) p=SetTable.probe.go t H h fuel (adv t.mask p):=by
     conv=>lhs;unfold SetTable.probe.go
     rw[dU T.rise ei]
     dsimp only
     rw[if_neg (by rw[beq_iff_eq];exact hh)]
     rfl
    rcases ih (adv t.mask p) q fuel W he (by omega) hd' with ⟨r1,r2⟩ | ⟨k,r,i',k1,w1,e1,h1,g1,w2,d2,no⟩
    ·refine .inl ⟨e0.trans r1,λk r j Wr er =>?_⟩
     cases Wr with
     | here =>
      obtain rfl:i=j:=by
       have x:=below_at T.rise ei
       have y:=below_at T.rise er
       exact x.symm.trans y
      exact hh
     | step _ Wr=>exact r2 _ _ _ Wr er
    ·refine .inr ⟨k+1,r,i',by omega,.step ⟨i,ei⟩ w1,e1,h1,e0.trans g1,by rw[show n+1-(k+1)-1=n-k-1 by omega];exact w2,d2,λk' r' j hk Wr er =>?_⟩
     cases Wr with
     | here =>
      obtain rfl:i=j:=by
       have x:=below_at T.rise ei
       have y:=below_at T.rise er
       exact x.symm.trans y
      exact hh
     | step _ Wr=>exact no _ _ _ (by omega) Wr er
theorem mR {t:SetTable}{hs:Array Int}(T:Tab t hs){H:Nat->Int}{h:Int}{n:Nat}{p q:Probe}(W:Way (occ t) t.mask n p q)(he:¬ occ t q.j)(hn:n<10*turns t.mask)(hd:p.dummy=none) :
  (t.probe H h p=some (.empty q.j none)/\∀k r i,Way (occ t) t.mask k p r->t.place[i]? = some r.j->H i≠h) ∨
  (∃k r i,k<n/\Way (occ t) t.mask k p r/\t.place[i]? = some r.j/\H i=h/\t.probe H h p=some (.candidate r.j i (adv t.mask r))/\Way (occ t) t.mask (n-k-1) (adv t.mask r) q/\(adv t.mask r).dummy=none
   /\ ∀k' r' i',k'<k->Way (occ t) t.mask k' p r'->t.place[i']? = some r'.j->H i'≠h) :=
 mQ T n p q _ W he hn hd
theorem Tab.qj {t:SetTable}{hs:Array Int}(T:Tab t hs)(j:Nat):t.put j=({ t with place:=insertAt t.place (below t.place j) j },below t.place j):=by
 unfold SetTable.put
 dsimp only
 have:has t.dummies j=false:=by rw[T.dm];simp[has]
 rw[this]
 rfl
theorem Tab.put {t:SetTable}{hs:Array Int}(T:Tab t hs){h:Int}{n:Nat}{q:Probe}(W:Way (occ t) t.mask n (start t.mask h) q)(he:¬ occ t q.j)(hq:q.j<=t.mask)(hf:hs.size+1<=t.mask) :
  Tab { t with place:=insertAt t.place (below t.place q.j) q.j } (insertAt hs (below t.place q.j) h):=by
 have hp:=(bU T.rise q.j).1
 have hp':below t.place q.j<=hs.size:=by rw[<- T.size];exact hp
 have up:∀j,occ t j->occ { t with place:=insertAt t.place (below t.place q.j) q.j } j:=by
  rintro j ⟨i,e⟩
  by_cases l:i<below t.place q.j
  ·exact ⟨i,by show (insertAt _ _ _)[i]? = _;rw[bg _ hp,if_pos l];exact e⟩
  ·exact ⟨i+1,by show (insertAt _ _ _)[i+1]? = _;rw[bg _ hp,if_neg (by omega),if_neg (by omega)];exact e⟩
 refine ⟨T.dm,fT T.rise λi e=>he ⟨i,e⟩,?_,λi j e =>?_,T.msk,by rw[bK];exact hf,λi j h' e eh =>?_⟩
 ·show (insertAt _ _ _).size=_
  rw[bK,bK,T.size]
 ·have e':(insertAt t.place (below t.place q.j) q.j)[i]? = some j:=e
  rw[bg _ hp] at e'
  split at e'
  ·exact T.le _ _ e'
  ·split at e'
   ·cases e';exact hq
   ·exact T.le _ _ e'
 ·have e':(insertAt t.place (below t.place q.j) q.j)[i]? = some j:=e
  rw[bg _ hp] at e'
  rw[bg _ hp'] at eh
  by_cases l1:i<below t.place q.j
  ·rw[if_pos l1] at e' eh
   obtain ⟨n',q',w,eq⟩:=T.reach _ _ _ e' eh
   exact ⟨n',q',w.mono up,eq⟩
  ·rw[if_neg l1] at e' eh
   by_cases l2:i=below t.place q.j
   ·rw[if_pos l2] at e' eh
    cases e';cases eh
    exact ⟨n,q,W.mono up,rfl⟩
   ·rw[if_neg l2] at e' eh
    obtain ⟨n',q',w,eq⟩:=T.reach _ _ _ e' eh
    exact ⟨n',q',w.mono up,eq⟩
def ocw (owner:Array (Option Nat))(j:Nat):Prop:=∃k,owner[j]? = some (some k)
theorem Way.trans {oc:Nat->Prop}{mask n m:Nat}{p q r:Probe}(h:Way oc mask n p q)(h2:Way oc mask m q r):∃k,Way oc mask k p r:=by
 induction h with
 | here=>exact ⟨m,h2⟩
 | step a _ ih=>obtain ⟨k,w⟩:=ih h2;exact ⟨k+1,.step a w⟩
theorem gU (oc:Nat->Prop)(mask:Nat):∀(k:Nat) (p:Probe),k<=p.more->(∀k',k'<k->oc (p.j+k'))->Way oc mask k p { p with j:=p.j+k,more:=p.more-k }
 | 0,p,_,_ =>.here p
 | k+1,p,h,ho=>by
  have e:adv mask p={ p with j:=p.j+1,more:=p.more-1 }:=by unfold adv;rw[if_pos (by omega)]
  refine .step (ho 0 (by omega)) ?_
  rw[e]
  have:=gU oc mask k { p with j:=p.j+1,more:=p.more-1 } (by dsimp only;omega) λk' hk=>by
   have:=ho (k'+1) (by omega)
   rw[show p.j+(k'+1)=p.j+1+k' by omega] at this
   exact this
  dsimp only at this
  rw[show p.j+1+k=p.j+(k+1) by omega,show p.more-1-k=p.more-(k+1) by omega] at this
  exact this
theorem cJ {owner:Array (Option Nat)}{mask j:Nat}(hs:owner.size=mask+1)(hj:j<=mask):(owner.getD j (some 0)).isNone=true↔¬ ocw owner j:=by
 have hl:j<owner.size:=by omega
 have e:owner[j]? = some owner[j]:=rP hl
 rw[show owner.getD j (some 0)=owner[j] by simp[Array.getD,hl]]
 unfold ocw
 rw[e]
 cases owner[j] with
 | none=>simp
 | some k=>simp
theorem gv {mask i:Nat}(h:i<=mask):runEnd mask i<=mask/\i<=runEnd mask i:=by
 unfold runEnd;split <;> omega
theorem lA {mask:Nat}{owner:Array (Option Nat)}(hs:owner.size=mask+1):∀(fuel i pe j:Nat),i<=mask->SetTable.layClean.free mask owner fuel i pe=some j →
  ¬ ocw owner j/\∃n q,Way (ocw owner) mask n (bM mask i pe) q/\q.j=j:=by
 intro fuel
 induction fuel with
 | zero=>intro i pe j hi h;unfold SetTable.layClean.free at h;cases h
 | succ fuel ih =>
  intro i pe j hi h
  unfold SetTable.layClean.free at h
  obtain ⟨r1,r2⟩:=gv hi
  have no:∀k,k<runEnd mask i+1-i->((owner.getD (i+k) (some 0)).isNone=false)->ocw owner (i+k):=λk hk e=>by
   by_cases o:ocw owner (i+k)
   ·exact o
   ·rw[(cJ hs (by omega)).mpr o] at e;cases e
  cases hf:(um (runEnd mask i+1-i)).find? λk=>(owner.getD (i+k) (some 0)).isNone with
  | some k =>
   rw[hf] at h
   dsimp only at h
   cases h
   rw[List.find?_range_eq_some] at hf
   obtain ⟨f1,f2,f3⟩:=hf
   rw[tI] at f2
   refine ⟨(cJ hs (by omega)).mp f1,k,_,gU (ocw owner) mask k (bM mask i pe) (by show k<=runEnd mask i-i;omega) λk' hk =>?_,rfl⟩
   refine no k' (by omega) ?_
   have:=f3 k' hk
   simpa using this
  | none =>
   rw[hf] at h
   dsimp only at h
   rw[wZ] at hf
   have all:∀k,k<runEnd mask i+1-i->ocw owner (i+k):=λk hk=>no k hk (by simpa using hf k hk)
   obtain ⟨g1,n,q,w,eq⟩:=ih _ _ _ (vg (vV _ (vD mask))) h
   refine ⟨g1,?_⟩
   have w0:=gU (ocw owner) mask (runEnd mask i-i) (bM mask i pe) (rA _) λk' hk=>all k' (by omega)
   have w1:Way (ocw owner) mask (n+1) { (bM mask i pe) with j:=(bM mask i pe).j+(runEnd mask i-i),more:=(bM mask i pe).more-(runEnd mask i-i) } q:=by
    refine .step (all (runEnd mask i-i) (by omega)) ?_
    have e:adv mask { (bM mask i pe) with j:=(bM mask i pe).j+(runEnd mask i-i),more:=(bM mask i pe).more-(runEnd mask i-i) }=bM mask (leap mask i pe).1 (leap mask i pe).2:=by
     unfold adv
     rw[if_neg (by show ¬ (runEnd mask i-i-(runEnd mask i-i))>0;omega)]
     rfl
    rw[e]
    exact w
   obtain ⟨k,w2⟩:=w0.trans w1
   exact ⟨k,q,w2,eq⟩
theorem lB {mask:Nat}{owner:Array (Option Nat)}(hs:owner.size=mask+1):∀(fuel i pe k:Nat),i<=mask->k<fuel->¬ ocw owner (bz mask k (i,pe)).1->∃j,SetTable.layClean.free mask owner fuel i pe=some j:=by
 intro fuel
 induction fuel with
 | zero=>intro i pe k _ h;omega
 | succ fuel ih =>
  intro i pe k hi hk he
  unfold SetTable.layClean.free
  obtain ⟨r1,r2⟩:=gv hi
  cases hf:(um (runEnd mask i+1-i)).find? λk=>(owner.getD (i+k) (some 0)).isNone with
  | some k=>exact ⟨_,rfl⟩
  | none =>
   dsimp only
   rw[wZ] at hf
   cases k with
   | zero =>
    have h0:=hf 0 (by omega)
    have:(owner.getD (i+0) (some 0)).isNone=true:=(cJ hs (by omega)).mpr he
    rw[this] at h0
    cases h0
   | succ k=>exact ih _ _ k (vg (vV _ (vD mask))) (by omega) he
structure Own (mask:Nat)(owner:Array (Option Nat))(hs:List Int):Prop where
 size:owner.size=mask+1
 cov:∀(k:Nat) (h:Int),hs[k]? = some h->∃j n q,owner[j]? = some (some k)/\Way (ocw owner) mask n (start mask h) q/\q.j=j
 bnd:∀j k:Nat,owner[j]? = some (some k)->k<hs.length
 inj:∀i j k:Nat,owner[i]? = some (some k)->owner[j]? = some (some k)->i=j
theorem Own.step {mask:Nat}(hm:Msk mask){owner:Array (Option Nat)}{hs:List Int}(O:Own mask owner hs)(h:Int)(hl:hs.length<=mask) :
  ∃j,SetTable.layClean.free mask owner (turns mask) (bits h%(mask+1)) (bits h)=some j/\Own mask (owner.setIfInBounds j (some hs.length)) (hs++[h]):=by
 obtain ⟨e,he,hne⟩:=gu (mask:=mask) (n:=hs.length) (ocw owner) (λj=>(owner.getD j none).getD 0)
  (λj _ ⟨k,ek⟩=>by
   have:=ck ek
   show (owner.getD j none).getD 0<_
   rw[show owner.getD j none=some k by rw[tV,ek];rfl]
   exact O.bnd j k ek)
  (λi j _ _ ⟨a,ea⟩ ⟨b,eb⟩ q=>by
   have q':(owner.getD i none).getD 0=(owner.getD j none).getD 0:=q
   rw[show owner.getD i none=some a by rw[tV,ea];rfl,show owner.getD j none=some b by rw[tV,eb];rfl] at q'
   have q'':a=b:=q'
   subst q''
   exact O.inj i j a ea eb) hl
 have i0:bits h%(mask+1)<=mask:=vg (vV _ (vD mask))
 obtain ⟨k,k1,k2⟩:=fi hm (h:=h) he
 obtain ⟨j,hj⟩:=lB O.size (turns mask) _ _ k i0 k1 (by rw[k2];exact hne)
 obtain ⟨hno,n,q,w,eq⟩:=lA O.size _ _ _ _ i0 hj
 have hjm:j<=mask:=by rw[<- eq];exact w.le (iE mask h)
 have hjs:j<owner.size:=by rw[O.size];omega
 have ej:owner[j]? = some none:=by
  rw[rP hjs]
  cases ho:owner[j] with
  | none=>rfl
  | some k=>exact absurd ⟨k,by rw[rP hjs,ho]⟩ hno
 have get:∀i:Nat,(owner.setIfInBounds j (some hs.length))[i]? = if i=j then some (some hs.length) else owner[i]? := λi=>by
  rw[Array.getElem?_setIfInBounds]
  by_cases q:j=i
  ·rw[if_pos q,if_pos q.symm,if_pos hjs]
  ·rw[if_neg q,if_neg (vy q)]
 have up:∀i,ocw owner i->ocw (owner.setIfInBounds j (some hs.length)) i:=by
  rintro i ⟨k,ek⟩
  refine ⟨k,?_⟩
  rw[get,if_neg (λq=>by rw[q,ej] at ek;cases ek)]
  exact ek
 refine ⟨j,hj,by rw[wX];exact O.size,λk h' eh =>?_,λi k ek =>?_,λi i' k ei ei' =>?_⟩
 ·by_cases lk:k<hs.length
  ·rw[ud lk] at eh
   obtain ⟨j',n',q',a,b,c⟩:=O.cov k h' eh
   refine ⟨j',n',q',?_,b.mono up,c⟩
   rw[get,if_neg (λq=>by rw[q,ej] at a;cases a)]
   exact a
  ·rw[tY (by omega)] at eh
   have:k-hs.length=0:=by
    cases hk:k-hs.length with
    | zero=>rfl
    | succ m=>rw[hk] at eh;cases eh
   rw[this] at eh
   cases eh
   obtain rfl:k=hs.length:=by omega
   exact ⟨j,n,q,by rw[get,if_pos rfl],w.mono up,eq⟩
 ·rw[rC,sL]
  rw[get] at ek
  split at ek
  ·cases ek;omega
  ·have:=O.bnd _ _ ek;omega
 ·rw[get] at ei ei'
  by_cases q1:i=j
  ·by_cases q2:i'=j
   ·rw[q1,q2]
   ·rw[if_pos q1] at ei;rw[if_neg q2] at ei'
    cases ei
    have:=O.bnd _ _ ei';omega
  ·rw[if_neg q1] at ei
   by_cases q2:i'=j
   ·rw[if_pos q2] at ei'
    cases ei'
    have:=O.bnd _ _ ei;omega
   ·rw[if_neg q2] at ei'
    exact O.inj _ _ _ ei ei'
theorem iH {mask:Nat}(hm:Msk mask):∀(l:List Int) (owner:Array (Option Nat)) (hs:List Int),Own mask owner hs->hs.length+l.length<=mask+1 →
    ∃owner',l.foldl (λacc h=>do
      let (owner,k) ← acc
      let j ← SetTable.layClean.free mask owner (turns mask) (bits h%(mask+1)) (bits h)
      pure (owner.setIfInBounds j (some k),k+1)) (some (owner,hs.length))=some (owner',hs.length+l.length)/\Own mask owner' (hs++l)
  | [],owner,hs,O,_=>⟨owner,rfl,by rw[tK];exact O⟩
  | h :: l,owner,hs,O,hl=>by
    rw[rL] at hl
    obtain ⟨j,hj,O'⟩:=O.step hm h (by omega)
    obtain ⟨owner',e,O''⟩:=iH hm l _ _ O' (by rw[rC,sL];omega)
    refine ⟨owner',?_,by rw[rZ] at O'';exact O''⟩
    rw[yS]
    have:(do
      let (owner,k) ← some (owner,hs.length)
      let j ← SetTable.layClean.free mask owner (turns mask) (bits h%(mask+1)) (bits h)
      pure (owner.setIfInBounds j (some k),k+1):Option (Array (Option Nat)×Nat))=some (owner.setIfInBounds j (some hs.length),(hs++[h]).length):=by
      show (SetTable.layClean.free mask owner (turns mask) (bits h%(mask+1)) (bits h)).bind _=_
      rw[hj,rC]
      rfl
    rw[this,e]
    rw[rC,sL,rL]
    congr 2
    omega
theorem iI {mask:Nat}(hm:Msk mask)(hs:Array Int)(hl:hs.size<=mask+1):∃owner,SetTable.layClean mask hs=some owner/\Own mask owner hs.toList:=by
  have O0:Own mask (Array.replicate (mask+1) none) []:=by
    refine ⟨by simp,λk h e=>by simp at e,λj k e =>?_,λi j k e =>?_⟩
    · rw[w4] at e;split at e <;> cases e
    · rw[w4] at e;split at e <;> cases e
  obtain ⟨owner,e,O⟩:=iH hm hs.toList _ [] O0 (by rw[uh,rh];omega)
  refine ⟨owner,?_,by rw[vI] at O;exact O⟩
  unfold SetTable.layClean
  rw[<- Array.foldl_toList]
  have e':hs.toList.foldl (λacc h=>do
      let (owner,k) ← acc
      let j ← SetTable.layClean.free mask owner (turns mask) (bits h%(mask+1)) (bits h)
      pure (owner.setIfInBounds j (some k),k+1)) (some (Array.replicate (mask+1) none,0))=some (owner,0+hs.toList.length):=e
  rw[e']
  rfl
theorem filterMap_get {α β:Type}{f:α -> Option β}:∀(l:List α),(∀x∈l,(f x).isSome=true)->∀i:Nat,(l.filterMap f)[i]? = l[i]?.bind f
 | [],_,i=>by simp
 | x :: l,h,i=>by
  obtain ⟨y,hy⟩:=wR.mp (h x rK)
  rw[List.filterMap_cons_some hy]
  cases i with
  | zero=>simp[hy]
  | succ i =>
   rw[uW,uW]
   exact filterMap_get l (λz hz=>h z (r6 _ hz)) i
theorem n8 {mask:Nat}(hm:Msk mask)(finger moves:Nat)(led plain:Bool)(es:Array (Int×rg))(hl:es.size<=mask) :
  ∃t order,SetTable.laid mask finger moves led plain (es.map (·.1))=some (t,order)/\order.toList.Perm (um es.size)/\Tab t ((order.filterMap (es[·]?)).map (·.1))/\(order.filterMap (es[·]?)).toList.Perm es.toList/\t.led=led/\t.plain=plain/\t.mask=mask:=by
 obtain ⟨owner,e,O⟩:=iI hm (es.map (·.1)) (by rw[tD];omega)
 refine ⟨_,_,by unfold SetTable.laid;rw[e];rfl,?_⟩
 generalize hlive:((um (mask+1)).filterMap λj=>(owner.getD j none).map (j, ·))=live
 have mem:∀j k,(j,k)∈live↔owner[j]? = some (some k):=λj k=>by
  rw[<- hlive,wG]
  constructor
  ·rintro ⟨a,ha,ea⟩
   rw[tV] at ea
   cases ho:owner[a]? with
   | none=>rw[ho] at ea;cases ea
   | some x =>
    rw[ho] at ea
    cases x with
    | none=>cases ea
    | some k'=>cases ea;exact ho
  ·intro ho
   refine ⟨j,?_,?_⟩
   ·rw[tI, <- O.size];exact ck ho
   ·rw[tV,ho];rfl
 have pw:live.Pairwise (λa b=>a.1<b.1):=by
  rw[<- hlive,List.pairwise_filterMap]
  refine zC (λ{a b} hab x hx y hy =>?_) List.pairwise_lt_range
  have hx':x.1=a:=by cases ho:owner.getD a none with
   | none=>rw[ho] at hx;cases hx
   | some k=>rw[ho] at hx;cases hx;rfl
  have hy':y.1=b:=by cases ho:owner.getD b none with
   | none=>rw[ho] at hy;cases hy
   | some k=>rw[ho] at hy;cases hy;rfl
  rw[hx',hy'];exact hab
 have nd:(live.map (·.2)).Nodup:=by
  unfold List.Nodup
  rw[tF]
  refine vE (λ{a b} ha hb hab q =>?_) pw
  have:=O.inj a.1 b.1 a.2 ((mem _ _).mp ha) (by rw[q];exact (mem _ _).mp hb)
  omega
 have hlen:(es.map (·.1)).toList.length=es.size:=by rw[rh,tD]
 have perm:(live.map (·.2)).Perm (um es.size):=by
  rw[List.perm_ext_iff_of_nodup nd yN]
  intro k
  rw[tI,sJ]
  constructor
  ·rintro ⟨⟨j,k'⟩,hm',rfl⟩
   have:=O.bnd _ _ ((mem _ _).mp hm')
   rw[hlen] at this
   exact this
  ·intro hk
   obtain ⟨j,_,_,ej,_⟩:=O.cov k _ (tm (by rw[hlen];exact hk))
   exact ⟨(j,k),(mem _ _).mpr ej,rfl⟩
 have all:∀x∈live.map (·.2),(es[x]?).isSome=true:=λx hx=>by
  have:=(perm.mem_iff).mp hx
  rw[tI] at this
  rw[rP this];rfl
 have tl:(live.map (·.2)).toArray.toList=live.map (·.2):=rfl
 have ll:live.length=es.size:=by have:=perm.length_eq;rw[rn,vW] at this;exact this
 have fm:((live.map (·.2)).toArray.filterMap (es[·]?)).toList=(live.map (·.2)).filterMap (es[·]?):=by simp
 have fl:((live.map (·.2)).filterMap (es[·]?)).Perm es.toList:=by
  have p1:=perm.filterMap (es[·]?)
  have:(um es.size).filterMap (es[·]?)=es.toList:=by
   apply yA
   intro i
   rw[filterMap_get _ (λx hx=>by rw[tI] at hx;rw[rP hx];rfl)]
   by_cases hi:i<es.size
   ·rw[List.getElem?_range hi,rq];rfl
   ·rw[vZ (by rw[vW];omega),vZ (by rw[rh];omega)];rfl
  rw[this] at p1
  exact p1
 refine ⟨perm,?_,by rw[fm];exact fl,rfl,rfl,rfl⟩
 have sz:(((live.map (·.2)).toArray.filterMap (es[·]?)).map (·.1)).size=es.size:=by
  rw[tD, <- rh,fm,fl.length_eq,rh]
 have occ_of:∀j,ocw owner j->occ { mask:=mask,place:=(live.map (·.1)).toArray,dummies := #[],finger:=finger,led:=led,moves:=moves,plain:=plain } j:=by
  rintro j ⟨k,ek⟩
  obtain ⟨i,hi,ei⟩:=List.getElem_of_mem ((mem j k).mpr ek)
  refine ⟨i,?_⟩
  show (live.map (·.1)).toArray[i]? = some j
  rw[sF,sf,tm hi,ei]
  rfl
 refine ⟨rfl,λi j a b ea eb hij =>?_,?_,λi j ej =>?_,hm,by rw[sz];exact hl,λi j h ej eh =>?_⟩
 ·have ea':(live.map (·.1)).toArray[i]? = some a:=ea
  have eb':(live.map (·.1)).toArray[j]? = some b:=eb
  rw[sF] at ea' eb'
  have pw':(live.map (·.1)).Pairwise (· < ·):=by rw[tF];exact pw
  obtain ⟨hi,xi⟩:=rE.mp ea'
  obtain ⟨hj,xj⟩:=rE.mp eb'
  rw[<- xi, <- xj]
  exact uK.mp pw' i j hi hj hij
 ·show (live.map (·.1)).toArray.size=_
  rw[sz,rW,rn,ll]
 ·have ej':(live.map (·.1)).toArray[i]? = some j:=ej
  rw[sF,sf] at ej'
  cases hx:live[i]? with
  | none=>rw[hx] at ej';cases ej'
  | some x =>
   rw[hx] at ej'
   cases ej'
   have:=ck ((mem x.1 x.2).mp (rT hx))
   show x.1<=mask
   rw[O.size] at this
   omega
 ·have ej':(live.map (·.1)).toArray[i]? = some j:=ej
  rw[sF,sf] at ej'
  cases hx:live[i]? with
  | none=>rw[hx] at ej';cases ej'
  | some x =>
   rw[hx] at ej'
   cases ej'
   have ho:=(mem x.1 x.2).mp (rT hx)
   have hk:=O.bnd _ _ ho
   rw[yp, <- rq,fm,filterMap_get _ all,sf,hx] at eh
   have eh':(es[x.2]?).map (·.1)=some h:=eh
   obtain ⟨j',n,q,a,b,c⟩:=O.cov x.2 h (by rw[wa,sf,rq];exact eh')
   obtain rfl:=O.inj _ _ _ ho a
   exact ⟨n,q,b.mono occ_of,c⟩
open PySem PySem.SetTable PyProof.Rows
section
variable  {prog:rO}{w:sC}{A:sR}{E:rg->rj->Prop}{s:rj}
abbrev TK (prog:rO)(w:sC):=IsTupleKey (prog:=prog) (w:=w) (intKind prog w)
def bj (prog:rO)(w:sC)(ks:List Int):Int:=tupleKeyHash (intKind prog w) ks
def ay (es:Array (Int×rg))(ep:Nat)(t:SetTable):Obj:={ cls :=.type "set",dict:=none,data :=.set es ep t }
def ElT (prog:rO)(w:sC)(h:Heap)(e:Int×rg)(ks:List Int):Prop:=∃b,e=(bj prog w ks,.ref b)/\TK prog w h ks b
theorem gW (d:Nat){v:rg}(h:carriedByValue v=true):ofAClassStatement d v=pure false:=by
 cases v with
 | ref a=>simp[carriedByValue] at h
 | _=>cases d <;> rfl
theorem dC {ks:List Int}{b:Addr}{Q:Bool->rj->Prop}(hk:TK prog w s.heap ks b)(h:Q false s):rX (sh prog w) A (ofAClassStatement 8 (.ref b)) Q E s:=by
 have hT:=hk.typeIs
 obtain ⟨o,items,n,ho,_,hd,hi⟩:=hk
 unfold ofAClassStatement
 refine rd (wI hT ?_)
 dsimp only
 rw[if_pos (by decide)]
 refine rd (rp ?_)
 simp only[tE,rJ,if_false]
 refine rd (uf ho hd ?_)
 dsimp only
 refine rd ?_
 rw[<- yq]
 refine vx _ (λrest r s'=>r.1=none/\s'=s/\∀v∈rest,carriedByValue v=true) _ ?_ ?_ _ _ ⟨rfl,rfl,hi.byValue⟩
 ·rintro v rest r s' ⟨hr,rfl,hall⟩
  rw[gW _ (hall v rK)]
  refine rd (rp ?_)
  simp only[rJ,if_false]
  exact rp ⟨rfl,rfl,λu hu'=>hall u (r6 _ hu')⟩
 ·rintro ⟨r1,r2⟩ s' ⟨hr,rfl,_⟩
  simp only at hr
  subst hr
  exact rp h
theorem qk {ks:List Int}{b:Addr}{vs:List rg}{Q:Bool->rj->Prop}(hk:TK prog w s.heap ks b)(hv:∀v∈vs,∃ks' b',v = .ref b'/\TK prog w s.heap ks' b')(h:Q false s) :
  rX (sh prog w) A (searchCouldBeSeen (.ref b) vs) Q E s:=by
 unfold searchCouldBeSeen
 refine rd ?_
 refine vx _ (λrest r s'=>r.1=none/\s'=s/\∀v∈rest,∃ks' b',v = .ref b'/\TK prog w s.heap ks' b') _ ?_ ?_ _ _ ⟨rfl,rfl,hv⟩
 ·rintro v rest r s' ⟨hr,rfl,hall⟩
  obtain ⟨ks',b',rfl,hk'⟩:=hall v rK
  have go:∀u∈rest,∃ks' b',u = .ref b'/\TK prog w s'.heap ks' b':=λu hu'=>hall u (r6 _ hu')
  dsimp only
  split
  ·exact rp ⟨rfl,rfl,go⟩
  ·refine rd (xT hk ?_)
   simp only[tE,rJ,if_false]
   refine rd (xT hk' ?_)
   simp only[tE,rJ,if_false]
   refine rd (dC hk ?_)
   simp only[rJ,if_false]
   refine rd (dC hk' ?_)
   simp only[rJ,if_false]
   exact rp ⟨rfl,rfl,go⟩
 ·rintro ⟨r1,r2⟩ s' ⟨hr,rfl,_⟩
  simp only at hr
  subst hr
  exact rp h
theorem oa {m:Nat}(h:Msk m):(m%2 == 0)=false:=by rcases h with rfl | rfl | rfl | rfl <;> rfl
theorem aS {a:Addr}{es:Array (Int×rg)}{ep:Nat}{t:SetTable}{Q:(Array (Int×rg)×Nat×SetTable)->rj->Prop}(ho:s.heap.get? a=some (ay es ep t))(T:Tab t (es.map (·.1)))(h:Q (es,ep,t) s) :
  rX (sh prog w) A (setState a) Q E s:=wpAny_setState_of ho rfl (by have:=T.fits;rwa [tD] at this) h
theorem jt (es:Array (Int×rg))(i:Nat)(e:Int×rg)(h:es[i]? = some e):(es.map (·.1))[i]? = some e.1:=by rw[yp,h];rfl
theorem Way.split {oc:Nat->Prop}{mask k:Nat}{p r:Probe}(h:Way oc mask k p r):∀{k':Nat} {r':Probe},Way oc mask k' p r'->k<=k'->Way oc mask (k'-k) r r':=by
 induction h with
 | here p=>intro k' r' h2 _;exact h2
 | @step n p q a _ ih =>
  intro k' r' h2 l
  cases h2 with
  | here=>omega
  | @step m _ _ _ h2=>rw[show m+1-(n+1)=m-n by omega];exact ih h2 (by omega)
theorem ju {a b:Addr}{es:Array (Int×rg)}{ep:Nat}{t:SetTable}{ks:List Int}{Q:SetFound->rj->Prop}(hu:A.units<cLine)(ho:s.heap.get? a=some (ay es ep t))(T:Tab t (es.map (·.1)))
    (els:∀e∈es,∃ks',ElT prog w s.heap e ks') (hk:TK prog w s.heap ks b) {q:Probe} (he:¬ occ t q.j) :
    ∀(fuel n:Nat) (st:Option Probe) (p:Probe),st.getD (start t.mask (bj prog w ks))=p->Way (occ t) t.mask n p q->n<fuel->n<10*turns t.mask->p.dummy=none →
      ((∃(k:Nat) (r:Probe) (i:Nat) (e:Int×rg),Way (occ t) t.mask k p r/\t.place[i]? = some r.j/\es[i]? = some e/\ElT prog w s.heap e ks)->Q (.there none) s) →
      ((¬ ∃(k:Nat) (r:Probe) (i:Nat) (e:Int×rg),Way (occ t) t.mask k p r/\t.place[i]? = some r.j/\es[i]? = some e/\ElT prog w s.heap e ks)->Q (.free q.j false) s) →
      rX (sh prog w) A (setSearchFrom a (.ref b) (bj prog w ks) true fuel st) Q E s:=by
  intro fuel
  induction fuel with
  | zero=>intro n st p _ _ h;omega
  | succ fuel ih =>
    intro n st p hst W hn hn2 hd hit mis
    unfold setSearchFrom
    refine rd (aS ho T ?_)
    dsimp only
    rw[show t.gaveWay=false from oa T.msk]
    simp only[rJ,if_false]
    rw[show st.getD (t.probeStart (bj prog w ks))=p from hst]
    rcases mR T (H:=λi=>(es[i]?.map (·.1)).getD 0) (h:=bj prog w ks) W he hn2 hd with ⟨g,no⟩ | ⟨k,r,i,k1,w1,e1,h1,g,w2,d2,no⟩
    · erw [g]
      dsimp only
      refine rp (mis ?_)
      rintro ⟨k,r,i,e,wr,er,ee,eb,rfl,_⟩
      refine no k r i wr er ?_
      show (es[i]?.map (·.1)).getD 0=_
      rw[ee]
      rfl
    · erw [g]
      dsimp only
      have hi:i<es.size:=by have:=ck e1;rw[T.size,tD] at this;exact this
      have ee:es[i]? = some es[i]:=rP hi
      obtain ⟨ks',b',eq,hk'⟩:=els es[i] (Array.getElem_mem hi)
      rw[eq] at ee
      have hh:bj prog w ks'=bj prog w ks:=by
        have h1':(es[i]?.map (·.1)).getD 0=bj prog w ks:=h1
        rw[ee] at h1'
        exact h1'
      have tail:rX (sh prog w) A (do
          let equal ← yF [si b'] (eqBool (.ref b') (.ref b))
          let (es',_,t') ← setState a
          if (true && equal)=true then return .there none
          let some same:=t'.sameMemory t.moves t.mask | unsupported "set.changed-during-lookup:is-the-new-block-at-the-old-address"
          let still ← match (if same then t'.slot r.j else .empty) with
            | .live i'=>match es'[i']? with
              | some (_,y')=>do pure (if ← isSame y' (.ref b') then some i' else none)
              | none=>pure none
            | _=>pure none
          match still with
          | none=>rule "set.search.anew";setSearchFrom a (.ref b) (bj prog w ks) true fuel none
          | some i'=>if equal then return .there (some i') else setSearchFrom a (.ref b) (bj prog w ks) true fuel (some (adv t.mask r))) Q E s:=by
        refine rd (ue (wpAny_eqBool_tuple hu hk' hk ?_))
        refine rd (aS ho T ?_)
        dsimp only
        by_cases hks:ks'=ks
        · subst hks
          rw[decide_eq_true rfl]
          simp only[Bool.and_self,if_true]
          exact rp (hit ⟨k,r,i,_,w1,e1,ee,b',rfl,hk'⟩)
        · rw[decide_eq_false hks]
          simp only[ze,rJ,if_false]
          rw[show t.sameMemory t.moves t.mask=some true by unfold SetTable.sameMemory;simp]
          dsimp only
          simp only[if_true]
          rw[dU T.rise e1]
          dsimp only
          rw[ee]
          dsimp only
          refine rd (wpAny_isSame_ref_self (rd (rp ?_)))
          simp only[if_true]
          refine ih (n-k-1) _ _ rfl w2 (by omega) (by omega) d2 (λx=>hit ?_) λx=>mis λy=>x ?_
          · obtain ⟨k',r',i',e',a1,a2,a3,a4⟩:=x
            obtain ⟨k'',w''⟩:=w1.trans (.step ⟨i,e1⟩ a1)
            exact ⟨k'',r',i',e',w'',a2,a3,a4⟩
          · obtain ⟨k',r',i',e',a1,a2,a3,a4⟩:=y
            have hx:(es[i']?.map (·.1)).getD 0=bj prog w ks:=by
              obtain ⟨bb,rfl,_⟩:=a4
              rw[a3];rfl
            by_cases lt:k'<k
            · exact absurd hx (no k' r' i' lt a1 a2)
            · have w3:=w1.split a1 (by omega)
              cases hd3:k'-k with
              | zero =>
                rw[hd3] at w3
                cases w3
                obtain rfl:i=i':=(below_at T.rise e1).symm.trans (below_at T.rise a2)
                obtain ⟨bb,rfl,hbb⟩:=a4
                rw[ee] at a3
                injection a3 with a3
                injection a3 with a31 a32
                injection a32 with a32
                subst a32
                exact absurd (hk'.inj hbb) hks
              | succ m =>
                rw[hd3] at w3
                cases w3 with
                | step _ w3=>exact ⟨m,r',i',e',w3,a2,a3,a4⟩
      cases hl:t.led with
      | true =>
        simp only[tE,rJ,if_false]
        rw[ee]
        exact tail
      | false =>
        simp only[x9,if_true]
        refine rd (qk hk (λv hv =>?_) ?_)
        · obtain ⟨e',he',rfl⟩:=sJ.mp hv
          obtain ⟨ks2,b2,e2,hk2⟩:=els e' (Array.mem_of_mem_filter (td.mp he'))
          exact ⟨ks2,b2,by rw[e2],hk2⟩
        · simp only[rJ,if_false]
          rw[ee]
          exact tail
end
open PySem PySem.SetTable PyProof.Rows
section
variable  {prog:rO}{w:sC}{A:sR}{E:rg->rj->Prop}{s:rj}
def cc (w:sC)(h:Heap)(a:Addr)(es:Array (Int×rg)):Prop :=
 ∃ep t,h.get? a=some (ay es ep t)/\Tab t (es.map (·.1))/\es.size*5<t.mask*3/\t.led = !w.params.followText "set-order" /\ t.plain=true
theorem cc.at {h h':Heap}{a:Addr}{es:Array (Int×rg)}(x:cc w h a es)(e:∀o,h.get? a=some o->h'.get? a=some o):cc w h' a es :=
 let ⟨ep,t,ho,r⟩:=x;⟨ep,t,e _ ho,r⟩
theorem iJ {m n:Nat}(hm:Msk m)(h1:n*5<m*3)(h2:(n+1)*5≥m*3)(h3:n<300):Msk (sizeAbove (grown (n+1))-1)/\n+1<=sizeAbove (grown (n+1))-1/\(n+1)*5<(sizeAbove (grown (n+1))-1)*3/\sizeAbove (grown (n+1))<=512:=by
 have c:n=4\/n=18\/n=76:=by
  rcases hm with rfl | rfl | rfl | rfl <;> omega
 unfold Msk
 rcases c with rfl | rfl | rfl <;> decide
theorem gw:512<=rN:=by rw[xh];omega
theorem iK {a:Addr}{es es':Array (Int×rg)}{ep:Nat}{t t':SetTable}{Q:Unit->rj->Prop}(ho:s.heap.get? a=some (ay es ep t))(hz:es'.size<=512)
  (h:∀h',Heap.SameBut a s.heap h'->h'.get? a=some (ay es' (ep+1) t')->Q () { s with heap:=h' }):rX (sh prog w) A (storeSet a es' t') Q E s:=by
 refine wpAny_storeSet_of (o:=ay es ep t) ho rfl ?_ (su hz gw)
 refine h _ (wu s.heap a _) ?_
 have:=ui (Obj.putSet es' t') ho (by rw[putSet_of es' t' (o:=ay es ep t) rfl];rfl)
 rw[putSet_of es' t' (o:=ay es ep t) rfl] at this
 exact this
theorem Tab.tooFull {t:SetTable}{hs:Array Int}(T:Tab t hs):t.tooFull=decide (hs.size*5≥t.mask*3):=by
 unfold SetTable.tooFull;rw[T.fill]
theorem lC {t:SetTable}{es:Array (Int×rg)}(T:Tab t (es.map (·.1))){n:Nat}(hn:es.size=n+1)(h1:n*5<t.mask*3)(h2:(n+1)*5≥t.mask*3)(h3:n<300) :
  ∃t' order,t.relaid (es.map (·.1)) (grown (n+1))=some (t',order)/\order.toList.Perm (um es.size)/\Tab t' ((order.filterMap (es[·]?)).map (·.1))/\(order.filterMap (es[·]?)).toList.Perm es.toList/\t'.led=t.led/\t'.plain=t.plain/\(n+1)*5<t'.mask*3:=by
 obtain ⟨k1,k2,k3,k4⟩:=iJ T.msk h1 h2 h3
 obtain ⟨t',order,e,pm,T',pe,l,p,m⟩:=n8 k1 t.finger (t.movedTo (sizeAbove (grown (n+1))-1)) t.led t.plain es (by omega)
 exact ⟨t',order,e,pm,T',pe,l,p,by rw[m];exact k3⟩
theorem jv {ks:List Int}{b:Addr}{Q:Bool->rj->Prop}(hk:TK prog w s.heap ks b)(h:Q true s):rX (sh prog w) A (hashByValue 8 (.ref b)) Q E s:=by
 have hT:=hk.typeIs
 obtain ⟨o,items,n,ho,_,hd,hi⟩:=hk
 unfold hashByValue
 refine rd (wpAny_specialOf hT F.slot_tuple_hash.lookup ?_)
 dsimp only
 refine rd (uf ho hd ?_)
 refine rd ?_
 show rX _ _ (forIn items _ _) _ _ s
 rw[<- yq]
 have hall0:∀v∈items.toList,∃k t,v = .int k t:=by
  clear hd ho
  generalize items.toList=l at hi
  induction hi with
  | nil=>intro v hv;cases hv
  | cons h1 _ ih =>
   intro v hv
   rcases sv.mp hv with rfl | hv
   ·obtain ⟨t,e⟩:=yu h1;exact ⟨_,t,e⟩
   ·exact ih v hv
 refine vx _ (λrest r s'=>r.1=none/\s'=s/\∀v∈rest,∃k t,v=vp k t) _ ?_ ?_ _ _ ⟨rfl,rfl,hall0⟩
 ·rintro v rest r s' ⟨hr,rfl,hall⟩
  obtain ⟨k,t,rfl⟩:=hall v rK
  rw[show hashByValue 7 (.int k t)=pure true from rfl]
  refine rd (rp ?_)
  simp only[tE,rJ,if_false]
  exact rp ⟨rfl,rfl,λu hu'=>hall u (r6 _ hu')⟩
 ·rintro ⟨r1,r2⟩ s' ⟨hr,rfl,_⟩
  simp only at hr
  subst hr
  exact rp h
theorem og {a b:Addr}{es:Array (Int×rg)}{ks:List Int}{Q:Bool->rj->Prop}(hu:A.units<cLine)(I:cc w s.heap a es)(els:∀e∈es,∃ks',ElT prog w s.heap e ks')(hk:TK prog w s.heap ks b)(hz:es.size<300)
  (hin:(∃e∈es,ElT prog w s.heap e ks)->Q false s)
  (hnew:(¬ ∃e∈es,ElT prog w s.heap e ks)->∀h' es',Heap.SameBut a s.heap h'->cc w h' a es'->es'.toList.Perm ((bj prog w ks,.ref b) :: es.toList)->Q true { s with heap:=h' }) :
  rX (sh prog w) A (setAddHashed a (.ref b) (bj prog w ks)) Q E s:=by
 obtain ⟨ep,t,ho,T,rm,hl,hp⟩:=I
 unfold setAddHashed setAddHashedIn
 refine ue (rd (aS ho T ?_))
 dsimp only
 rw[show byScan (.ref b) es=false from rfl]
 simp only[rJ,if_false]
 obtain ⟨n,q,hn,W,he,hq,hd⟩:=T.ends (bj prog w ks)
 have hn':n<100000:=by
  have:t.mask<=511:=by rcases T.msk with e | e | e | e <;> omega
  unfold turns at hn
  omega
 unfold setSearch
 refine rd (ju hu ho T els hk he 100000 n none _ rfl W hn' hn rfl (λx =>?_) λx =>?_)
 ·obtain ⟨k,r,i,e,_,_,ee,el⟩:=x
  exact rp (hin ⟨e,Array.mem_of_getElem? ee,el⟩)
 ·have nx:¬ ∃e∈es,ElT prog w s.heap e ks:=by
   rintro ⟨e,he',el⟩
   obtain ⟨i,hi,ei⟩:=Array.getElem_of_mem he'
   have ee:es[i]? = some e:=by rw[rP hi,ei]
   have hpl:i<t.place.size:=by rw[T.size,tD];exact hi
   obtain ⟨bb,rfl,hbb⟩:=el
   obtain ⟨k,r,w1,er⟩:=T.reach i _ _ (rP hpl) (jt es i _ ee)
   exact x ⟨k,r,i,_,w1,by rw[er];exact rP hpl,ee,bb,rfl,hbb⟩
  dsimp only
  refine rd (aS ho T ?_)
  dsimp only
  rw[T.qj]
  dsimp only
  rw[hp]
  simp only[if_true]
  have hz':(es.map (·.1)).size+1<=t.mask:=by
   rw[tD];have:=T.fit;rw[tD] at this
   rcases T.msk with e | e | e | e <;> rw[e] at rm ⊢ <;> omega
  have T':=T.put W he hq hz'
  rw[<- gR es (below t.place q.j) (bj prog w ks,si b) (·.1),hp] at T'
  have sz:(insertAt es (below t.place q.j) (bj prog w ks,si b)).size=es.size+1:=bK _ _ _
  refine rd (jv hk ?_)
  simp only[if_true]
  refine rd (iK ho (by rw[sz];omega) λh1 sb1 ho1 =>?_)
  have pm1:=insertAt_perm es (below t.place q.j) (bj prog w ks,si b)
  rw[T'.tooFull,tD,sz]
  by_cases full:(es.size+1)*5≥t.mask*3
  ·rw[if_pos (by simpa using full)]
   unfold setRelay
   obtain ⟨t2,order,e2,pm2,T2,pe2,l2,p2,rm2⟩:=lC T' sz (n:=es.size) (by simpa using rm) full hz
   obtain ⟨_,_,_,sa⟩:=iJ T.msk rm full hz
   refine rd (rd (aS (s:={ s with heap:=h1 }) ho1 T' ?_))
   dsimp only
   rw[if_neg (Nat.not_lt.mpr (su sa gw))]
   rw[e2]
   have z2:(order.filterMap ((insertAt es (below t.place q.j) (bj prog w ks,si b))[·]?)).size=es.size+1:=by
    rw[<- rh,pe2.length_eq,rh,sz]
   refine rd ?_
   show rX _ _ (if ((order.filterMap ((insertAt es (below t.place q.j) (bj prog w ks,si b))[·]?)).size != (insertAt es (below t.place q.j) (bj prog w ks,si b)).size)=true then _ else _) _ _ _
   rw[if_neg (by rw[z2,sz];simp)]
   refine rp ?_
   dsimp only
   refine iK (s:={ s with heap:=h1 }) ho1 (by rw[z2];omega) λh2 sb2 ho2 =>?_
   refine rp (hnew nx h2 _ (sb1.trans sb2) ⟨_,_,ho2,T2,by rw[z2];exact rm2,by rw[l2];exact hl,by rw[p2]⟩ (pe2.trans pm1))
  ·rw[if_neg (by simpa using full)]
   refine rp (hnew nx h1 _ sb1 ⟨_,_,ho1,T',?_,hl,rfl⟩ pm1)
   rw[sz]
   exact vw full
end
open PySem PySem.SetTable PyProof.Rows PySem.Spec
def TS (h h':Heap):Prop:=∀b o,o.cls = .type "tuple" -> h.get? b=some o->h'.get? b=some o
structure Kd (prog:rO)(w:sC)(κ:Type) where
 El:Heap->rg -> κ -> Prop
 hash:κ -> Int
 room:sR->Prop
 keeps:∀{h h':Heap} {v:rg} {k:κ},El h v k->TS h h'->El h' v k
 inj:∀{h:Heap} {v:rg} {k k':κ},El h v k->El h v k'->k=k'
 add:∀{A:sR} {E:rg->rj->Prop} {s:rj} {a:Addr} {es:Array (Int×rg)} {v:rg} {k:κ} {Q:Bool->rj->Prop},room A->cc w s.heap a es->(∀e∈es,∃k',e.1=hash k'/\El s.heap e.2 k')->El s.heap v k->es.size<300 →
  ((∃e∈es,El s.heap e.2 k)->∀tk,s.toks<=tk->Q false { s with toks:=tk }) →
  ((¬ ∃e∈es,El s.heap e.2 k)->∀h' es' tk,s.toks<=tk->Heap.SameBut a s.heap h'->cc w h' a es'->es'.toList.Perm ((hash k,v) :: es.toList)->Q true { s with heap:=h',toks:=tk }) →
  rX (sh prog w) A (setAdd a v) Q E s
theorem TK.keep {prog:rO}{w:sC}{h h':Heap}{ks:List Int}{b:Addr}(x:TK prog w h ks b)(t:TS h h'):TK prog w h' ks b :=
 let ⟨o,items,n,ho,hc,r⟩:=x;⟨o,items,n,t b o hc ho,hc,r⟩
def eB (prog:rO)(w:sC):Kd prog w (List Int) where
 El:=λh v ks=>∃b,v = .ref b/\TK prog w h ks b
 hash:=bj prog w
 room:=λA=>A.units<cLine
 keeps:=λ⟨b,e,x⟩ t=>⟨b,e,x.keep t⟩
 inj:=λ⟨b,e,x⟩ ⟨b',e',x'⟩=>by
  rw[e] at e';injection e' with e';subst e';exact x.inj x'
 add:=by
  intro A E s a es v k Q hu I els hv hz hin hnew
  obtain ⟨b,rfl,hk⟩:=hv
  unfold setAdd
  refine ue (rd (wpAny_pyHash_tuple hu hk ?_))
  have els':∀e∈es,∃ks',ElT prog w s.heap e ks':=λe he=>by
   obtain ⟨k',e1,b',e2,x⟩:=els e he
   exact ⟨k',b',zB e1 e2,x⟩
  have conv:∀e∈es,(ElT prog w s.heap e k↔∃b,e.2 = .ref b/\TK prog w s.heap k b):=λe he=>by
   constructor
   ·rintro ⟨b',rfl,x⟩;exact ⟨b',rfl,x⟩
   ·rintro ⟨b',e2,x⟩
    obtain ⟨k',e1,b2,e3,x2⟩:=els e he
    rw[e2] at e3;injection e3 with e3;subst e3
    obtain rfl:=x.inj x2
    exact ⟨b',zB e1 e2,x⟩
  refine og (s:={ s with toks:=s.toks+(k.length+1) }) hu I els' hk hz (λx=>hin ?_ _ (tO _ _)) λx h' es' sb I' pm=>hnew ?_ h' es' _ (tO _ _) sb I' pm
  ·obtain ⟨e,he,x⟩:=x;exact ⟨e,he,(conv e he).mp x⟩
  ·rintro ⟨e,he,y⟩;exact x ⟨e,he,(conv e he).mpr y⟩
section
variable  {prog:rO}{w:sC}{κ:Type}(kd:Kd prog w κ)
structure Good (h:Heap)(es:Array (Int×rg))(l:List κ):Prop where
 el:∀e∈es,∃k,k∈l/\e.1=kd.hash k/\kd.El h e.2 k
 all:∀k∈l,∃e∈es,kd.El h e.2 k
 dis:es.toList.Pairwise (λe e'=>∀k,kd.El h e.2 k->¬ kd.El h e'.2 k)
 len:es.size<=l.length
variable  {kd}
theorem Good.keeps {h h':Heap}{es:Array (Int×rg)}{l:List κ}(G:Good kd h es l)(t:TS h h'):Good kd h' es l:=by
 refine ⟨λe he =>?_,λk hk =>?_,?_,G.len⟩
 ·obtain ⟨k,a,b,c⟩:=G.el e he;exact ⟨k,a,b,kd.keeps c t⟩
 ·obtain ⟨e,a,b⟩:=G.all k hk;exact ⟨e,a,kd.keeps b t⟩
 ·refine vE (λ{e e'} he he' x k y z =>?_) G.dis
  obtain ⟨k1,_,_,c1⟩:=G.el e (td.mp he)
  obtain ⟨k2,_,_,c2⟩:=G.el e' (td.mp he')
  obtain rfl:=kd.inj y (kd.keeps c1 t)
  obtain rfl:=kd.inj z (kd.keeps c2 t)
  exact x _ c1 c2
theorem Good.nil (h:Heap):Good kd h #[] []:=⟨λe he=>(by simp at he),λk hk=>(by cases hk),(by simp),rA _⟩
theorem Good.same {h:Heap}{es:Array (Int×rg)}{l:List κ}(G:Good kd h es l){k:κ}(x:∃e∈es,kd.El h e.2 k):Good kd h es (l++[k]):=by
 refine ⟨λe he =>?_,λk' hk =>?_,G.dis,by rw[rC];have:=G.len;omega⟩
 ·obtain ⟨k,a,b⟩:=G.el e he;exact ⟨k,vm _ a,b⟩
 ·rcases rV.mp hk with hk | hk
  ·exact G.all k' hk
  ·rw[sq] at hk;subst hk;exact x
theorem Good.more {h:Heap}{es es':Array (Int×rg)}{l:List κ}(G:Good kd h es l){k:κ}{v:rg}(hv:kd.El h v k)(x:¬ ∃e∈es,kd.El h e.2 k)(pm:es'.toList.Perm ((kd.hash k,v) :: es.toList)):Good kd h es' (l++[k]):=by
 have mem:∀e,e∈es'↔e=(kd.hash k,v)\/e∈es:=λe=>by
  rw[<- td,pm.mem_iff,sv,td]
 refine ⟨λe he =>?_,λk' hk =>?_,?_,?_⟩
 ·rcases (mem e).mp he with rfl | he
  ·exact ⟨k,rS _ (sq.mpr rfl),rfl,hv⟩
  ·obtain ⟨k,a,b⟩:=G.el e he;exact ⟨k,vm _ a,b⟩
 ·rcases rV.mp hk with hk | hk
  ·obtain ⟨e,a,b⟩:=G.all k' hk;exact ⟨e,(mem e).mpr (.inr a),b⟩
  ·rw[sq] at hk;subst hk;exact ⟨_,(mem _).mpr (.inl rfl),hv⟩
 ·rw[pm.pairwise_iff (λ{a b} z k y1 y2=>z k y2 y1)]
  refine List.Pairwise.cons (λe he k' y1 y2 =>?_) G.dis
  obtain rfl:=kd.inj y1 hv
  exact x ⟨e,td.mp he,y2⟩
 ·have:=pm.length_eq
  rw[rL,rh,rh] at this
  rw[rC,sL]
  have:=G.len
  omega
end
section
variable  {prog:rO}{w:sC}{A:sR}{R:Result->rj->Prop}{I:Addr}{fp:List Addr}{G:Array GenState->Array GenState->Prop}{n:Nat}{P:Nat->rg->Prop}{St:Nat->rj->Prop}{κ:Type}{kd:Kd prog w κ}
theorem iL (W:WalksS prog w A.in1 I fp [I] G n P St)(hrm:kd.room A.in1)(hI:∀i s,St i s->∃o,s.heap.get? I=some o/\o.cls ≠ .type "tuple")(S:Addr)(hSf:S∉fp)(hIf:I∈fp)(ks:List κ)(hn:n=ks.length)(hb:n<300) :
  ∀(k i:Nat) (s:rj) (es:Array (Int×rg)),n-i=k->i<=n->St i s->(∀j v,P j v->∃q,ks[j]? = some q/\kd.El s.heap v q) →
   cc w s.heap S es->Good kd s.heap es (ks.take i) →
   (∀s' es',Moved [S,I] G s s'->cc w s'.heap S es'->Good kd s'.heap es' ks->R (.ok (.ret .none)) s') →
   xX (sh prog w) A (.builtin "set.update.loop" ⟨[.ref S,.ref I],[]⟩) R s:=by
 have hSI:S≠I:=λe=>hSf (e ▸ hIf)
 have ts:∀i s s',St i s->Moved [I] G s s'->TS s.heap s'.heap:=λi s s' hst hm b o hc e=>by
  refine hm.heap b o (λhb =>?_) e
  rw[sq] at hb
  obtain ⟨o',e',c'⟩:=hI i s hst
  rw[hb,e'] at e;cases e;exact c' hc
 intro k
 induction k with
 | zero =>
  intro i s es hk hi hst hv hS hG hR
  have hin:i=n:=by omega
  subst hin
  refine tM xf ?_
  rw[tW uZ _]
  show rX _ A.in1 (pyNext (.ref I) >>= _) _ _ s
  refine rd (W.done s _ _ hst λs' hm =>?_)
  show rX _ A.in1 (ret tX) _ _ s'
  rw[sN (by omega)] at hG
  exact rp (hR s' es (hm.mono λb hb=>by rw[sq] at hb;simp[hb]) (hS.at λo e=>hm.heap S o (by rw[sq];exact hSI) e) (hG.keeps (ts _ _ _ hst hm)))
 | succ k ih =>
  intro i s es hk hi hst hv hS hG hR
  have hlt:i<n:=by omega
  refine tM xf ?_
  rw[tW uZ _]
  show rX _ A.in1 (pyNext (.ref I) >>= _) _ _ s
  refine rd (W.item i s _ _ hlt hst λv s' hP hst' hm =>?_)
  have t0:=ts _ _ _ hst hm
  obtain ⟨q,eq,hq⟩:=hv i v hP
  have hS':cc w s'.heap S es:=hS.at λo e=>hm.heap S o (by rw[sq];exact hSI) e
  have hG':=hG.keeps t0
  have tk:ks.take (i+1)=ks.take i++[q]:=by rw[zf,eq];rfl
  show rX _ A.in1 (yF [v] (setAdd S v) >>= _) _ _ s'
  have hm2:Moved [S,I] G s s':=hm.mono λb hb=>by rw[sq] at hb;simp[hb]
  refine rd (ue (kd.add hrm hS' (λe he =>?_) (kd.keeps hq t0) ?_ (λx tk' htk =>?_) λx h' es' tk' htk sb I' pm =>?_))
  ·obtain ⟨k',_,a,b⟩:=hG'.el e he;exact ⟨k',a,b⟩
  ·have:=hG'.len;rw[sA] at this;omega
  ·refine rp ⟨vP uZ _,ih (i+1) _ es (by omega) hlt (W.frame _ s' _ _ hst' htk λb _ o e=>e) (λj v' p =>?_) hS' (by rw[tk];exact hG'.same x) λs'' es'' hm'' a b =>?_⟩
   ·obtain ⟨q',a,b⟩:=hv j v' p;exact ⟨q',a,kd.keeps b t0⟩
   ·exact hR s'' es'' (zz W.gtrans (hm2.then_heap htk λb o _ e=>e) hm'') a b
  ·have t1:TS s'.heap h':=λb o hc e=>by
    rw[sb.2 b (λhb=>by
     obtain ⟨ep,t,ho,_⟩:=hS'
     rw[hb,ho] at e;cases e;simp[ay] at hc)]
    exact e
   refine rp ⟨vP uZ _,ih (i+1) _ es' (by omega) hlt (W.frame _ s' _ _ hst' htk λb hb o e =>?_) (λj v' p =>?_) I' (by rw[tk];exact (hG'.more (kd.keeps hq t0) x pm).keeps t1) λs'' es'' hm'' a b =>?_⟩
   ·rw[sb.2 b (λh:b=S=>hSf (h ▸ hb))];exact e
   ·obtain ⟨q',a,b⟩:=hv j v' p;exact ⟨q',a,kd.keeps (kd.keeps b t0) t1⟩
   ·refine hR s'' es'' (zz W.gtrans (hm2.then_heap htk λb o hb e =>?_) hm'') a b
    rw[sb.2 b (λh:b=S=>hb (by rw[h];exact rK))];exact e
end
section
variable  {prog:rO}{w:sC}{A:sR}{E:rg->rj->Prop}{s:rj}
theorem kj (a:rg){Q₁:rg->rj->Prop}
    (h:Q₁ (.ref s.heap.objs.size) { s with heap:=s.heap.push (ay #[] 0 (.fresh 0 0 (!w.params.followText "set-order"))) }) :
    xX (sh prog w) A (.call (.builtin "set.__new__") ⟨[.type "set",a],[]⟩) (wants Q₁ E) s:=by
  refine xU ?_
  show rX _ A.in1 (do checkBuiltinCall "set.__new__" ⟨[.type "set",a],[]⟩;again (.builtin "set.__new__" ⟨[.type "set",a],[]⟩)) _ _ s
  refine rd (y3 (PySem.F.newCall_set_1 a) (rp ⟨vP yV _,tM F.entry_set_new ?_⟩))
  rw[tW yV _]
  unfold Builtin.«set.__new__» Builtin.Frozenset.newClass
  have hsub:=sub_set_self
  obtain ⟨hp,g,d,tk,os⟩:=s
  dsimp only
  wp_walk
  refine xu (rp ?_)
  dsimp only
  simp only[newObj]
  refine rd (wpAny_alloc (rp ?_))
  exact rp h
theorem lD (led:Bool):Tab (.fresh 0 0 led) #[]:=by
 refine ⟨rfl,λi j a b e =>?_,rfl,λi j e =>?_,.inl rfl,sM _,λi j h e =>?_⟩ <;> (simp[SetTable.fresh] at e)
theorem fj {h:Heap}{a:Addr}(ho:h.get? a=some (ay #[] 0 (.fresh 0 0 (!w.params.followText "set-order")))):cc w h a #[] :=
 ⟨0,_,ho,(by rw[Array.map_empty];exact lD _),(by show 0*5<7*3;decide),rfl,rfl⟩
theorem sub_tuple_set:isSubtype (.type "tuple") (.type "set")=pure false:=by rw[yc];kernel_rfl
theorem sub_tuple_frozenset:isSubtype (.type "tuple") (.type "frozenset")=pure false:=by rw[yc];kernel_rfl
end
open PySem PySem.SetTable PyProof.Rows PySem.Spec
section
variable  {prog:rO}{w:sC}{A:sR}{E:rg->rj->Prop}{s:rj}
set_option maxHeartbeats 3200000 in
theorem fk {κ:Type}{kd:Kd prog w κ}{l:Addr}{items:Array rg}{ks:List κ}{Q:rg->rj->Prop}
  (hh:A.handled=none) (hrm:kd.room A.in1.in1.in1) (hl:s.heap.IsTuple l items) (hz:items.size=ks.length) (hi:∀(i:Nat) v,items[i]? = some v->∃q,ks[i]? = some q/\kd.El s.heap v q) (hb:items.size<300)
  (h:∀(h':Heap) (es:Array (Int×rg)) (tk:Nat),s.toks<=tk->cc w h' s.heap.objs.size es->Good kd h' es ks →
   (∀b o,s.heap.get? b=some o->h'.get? b=some o)->Q (.ref s.heap.objs.size) { s with heap:=h',toks:=tk }) :
  rX (sh prog w) A (call (.type "set") [.ref l]) Q E s:=by
 obtain ⟨c,tl,hmro⟩:=tw.mro
 have hmade:=tw.made
 have hsub:=tw.sub
 refine zq (xU ?_)
 show rX _ _ (callAny (.type "set") _) _ _ _
 refine rp ⟨wH _ (by decide +kernel),tM yB ?_⟩
 rw[yr (xV "set" [.ref l] []) rfl]
 have h1:=tw.notType
 have h2:=tw.canCreate
 have hct:=xB (.ref l)
 repeat (any_goals (first | assumption | wp_step))
 have gd:(s.heap.push (ay #[] 0 (.fresh 0 0 (!w.params.followText "set-order")))).objs.size=s.heap.objs.size+1:=tR _ _
 refine vG (kj (w:=w) (.ref l) (E:=E) (Q₁:=λobj s₁=>obj = .ref s.heap.objs.size/\s₁={ s with heap:=s.heap.push (ay #[] 0 (.fresh 0 0 (!w.params.followText "set-order"))) }) ⟨rfl,rfl⟩) λr s₁ hr =>?_
 cases r with
 | error e=>exact hr
 | ok fl =>
  cases fl with
  | ret obj =>
   obtain ⟨rfl,rfl⟩:=hr
   generalize hled:(!w.params.followText "set-order")=led at gd ⊢
   have hS:(s.heap.push (ay #[] 0 (.fresh 0 0 led))).get? s.heap.objs.size=some (ay #[] 0 (.fresh 0 0 led)):=rz _ rfl
   have hT:Shared.TypeIs { s with heap:=s.heap.push (ay #[] 0 (.fresh 0 0 led)) } (.ref s.heap.objs.size) "set" :=⟨_,hS,rfl⟩
   have hli:=tw.init.lookup
   have hbi:=tw.init.bind (.ref s.heap.objs.size)
   repeat (any_goals (first | assumption | wp_step))
   refine vG (x8 (R:=wants (λr s₂=>r = .none/\∃h' es tk,s₂={ s with heap:=h',toks:=tk }/\s.toks<=tk ∧
     cc w h' s.heap.objs.size es/\Good kd h' es ks ∧
     (∀b o,s.heap.get? b=some o->h'.get? b=some o)) E) tw.init.plain yO (check_set_init_1 hT ?_)) λr₂ s₂ hr₂ =>?_
   ·obtain ⟨ol,hol,hcl,nl,hdl⟩:=id hl
    obtain ⟨ocls,odict,odata,oslots⟩:=ol
    simp only at hcl hdl
    subst hcl;subst hdl
    have hol':(s.heap.push (ay #[] 0 (.fresh 0 0 led))).get? l=some { cls :=.type "tuple",dict:=odict,data :=.seq items nl,slots:=oslots }:=rf _ hol
    have hsls:=sub_tuple_set
    have hslf:=sub_tuple_frozenset
    have hne:(uG "tuple" == uG "dict")=false:=by decide
    have hl1:(s.heap.push (ay #[] 0 (.fresh 0 0 led))).IsTuple l items:=⟨_,hol',rfl,nl,rfl⟩
    unfold Builtin.«set.__init__» noKeywords Builtin.Frozenset.updateFrom
    generalize hPI:pyIter=PI
    wp_walk
    subst hPI
    refine vM hl1 ?_
    refine rd (wQ ?_)
    have hlS:l<s.heap.objs.size:=rB hol
    have hh3:A.in1.in1.in1.handled=none:=by simp[hh]
    have hneI:l≠(s.heap.push (ay #[] 0 (.fresh 0 0 led))).objs.size:=by
     rw[gd];exact rQ (tQ hlS)
    have hSf:s.heap.objs.size∉[(s.heap.push (ay #[] 0 (.fresh 0 0 led))).objs.size,l]:=by
     rw[gd];simp only[sv,sq,wc,or_false,not_or]
     exact ⟨rQ (u3 _),uU hlS⟩
    refine iL (kd:=kd) ((yW hh3 _ l hneI items).toS) hrm (λi s' st =>?hI) s.heap.objs.size hSf rK ks hz hb (items.size-0) 0 _ #[] (by omega) (sM _)
     ⟨⟨_,rz _ rfl,rfl,rfl⟩,(hl1.push _)⟩ ?hv (by subst hled;exact fj (rf _ hS)) (Good.nil _) ?hR
    case hI =>
     obtain ⟨o,ho,hc,_⟩:=st.1
     exact ⟨o,ho,by rw[hc];decide⟩
    case hv =>
     intro j v hv
     obtain ⟨q,e,x⟩:=hi j v hv
     exact ⟨q,e,kd.keeps x λb o _ e=>rf _ (rf _ e)⟩
    case hR =>
     intro s' es' hm hS' hG'
     obtain ⟨h',g',d',tk',os'⟩:=s'
     have eg:g'=s.gens:=hm.gens
     have ed:d'=s.drawn:=hm.drawn
     have eo:os'=s.os:=hm.os
     subst eg;subst ed;subst eo
     show rX _ _ _ _ _ _
     refine rp ?_
     show rX _ _ (ret tX) _ _ _
     refine rp ⟨rfl,h',es',tk',rfl,hm.toks,hS',hG',λb o e =>?_⟩
     have hbb:=rB e
     have hb1:b≠s.heap.objs.size:=rQ hbb
     have hb2:b≠(s.heap.push (ay #[] 0 (.fresh 0 0 led))).objs.size:=by
      rw[gd];exact rQ (tQ hbb)
     exact hm.heap b o (by simp only[sv,sq,wc,or_false,not_or];exact ⟨hb1,hb2⟩) (rf _ (rf _ e))
   ·cases r₂ with
    | error e=>exact hr₂
    | ok fl₂ =>
     cases fl₂ with
     | ret r =>
      obtain ⟨rfl,h',es,tk,rfl,htk,hS',hG',hk'⟩:=hr₂
      repeat (any_goals (first | assumption | wp_step))
      exact h _ _ _ htk hS' hG' hk'
     | _=>exact hr₂.elim
  | _=>exact hr.elim
end
open PySem PySem.SetTable PyProof.Rows PySem.Spec
section
variable  {prog:rO}{w:sC}{A:sR}{E:rg->rj->Prop}{s:rj}
set_option maxHeartbeats 3200000 in
theorem call_set_list {κ:Type}{kd:Kd prog w κ}{l:Addr}{items:Array rg}{ks:List κ}{Q:rg->rj->Prop}
  (hh:A.handled=none) (hrm:kd.room A.in1.in1.in1) (hl:s.heap.IsList l items) (hz:items.size=ks.length) (hi:∀(i:Nat) v,items[i]? = some v->∃q,ks[i]? = some q/\kd.El s.heap v q) (hb:items.size<300)
  (h:∀(h':Heap) (es:Array (Int×rg)) (tk:Nat),s.toks<=tk->cc w h' s.heap.objs.size es->Good kd h' es ks →
   (∀b o,s.heap.get? b=some o->h'.get? b=some o)->Q (.ref s.heap.objs.size) { s with heap:=h',toks:=tk }) :
  rX (sh prog w) A (call (.type "set") [.ref l]) Q E s:=by
 obtain ⟨c,tl,hmro⟩:=tw.mro
 have hmade:=tw.made
 have hsub:=tw.sub
 refine zq (xU ?_)
 show rX _ _ (callAny (.type "set") _) _ _ _
 refine rp ⟨wH _ (by decide +kernel),tM yB ?_⟩
 rw[yr (xV "set" [.ref l] []) rfl]
 have h1:=tw.notType
 have h2:=tw.canCreate
 have hct:=xB (.ref l)
 repeat (any_goals (first | assumption | wp_step))
 have gd:(s.heap.push (ay #[] 0 (.fresh 0 0 (!w.params.followText "set-order")))).objs.size=s.heap.objs.size+1:=tR _ _
 refine vG (kj (w:=w) (.ref l) (E:=E) (Q₁:=λobj s₁=>obj = .ref s.heap.objs.size/\s₁={ s with heap:=s.heap.push (ay #[] 0 (.fresh 0 0 (!w.params.followText "set-order"))) }) ⟨rfl,rfl⟩) λr s₁ hr =>?_
 cases r with
 | error e=>exact hr
 | ok fl =>
  cases fl with
  | ret obj =>
   obtain ⟨rfl,rfl⟩:=hr
   generalize hled:(!w.params.followText "set-order")=led at gd ⊢
   have hS:(s.heap.push (ay #[] 0 (.fresh 0 0 led))).get? s.heap.objs.size=some (ay #[] 0 (.fresh 0 0 led)):=rz _ rfl
   have hT:Shared.TypeIs { s with heap:=s.heap.push (ay #[] 0 (.fresh 0 0 led)) } (.ref s.heap.objs.size) "set" :=⟨_,hS,rfl⟩
   have hli:=tw.init.lookup
   have hbi:=tw.init.bind (.ref s.heap.objs.size)
   repeat (any_goals (first | assumption | wp_step))
   refine vG (x8 (R:=wants (λr s₂=>r = .none/\∃h' es tk,s₂={ s with heap:=h',toks:=tk }/\s.toks<=tk ∧
     cc w h' s.heap.objs.size es/\Good kd h' es ks ∧
     (∀b o,s.heap.get? b=some o->h'.get? b=some o)) E) tw.init.plain yO (check_set_init_1 hT ?_)) λr₂ s₂ hr₂ =>?_
   ·obtain ⟨ol,hol,hcl,nl,hdl⟩:=id hl
    obtain ⟨ocls,odict,odata,oslots⟩:=ol
    simp only at hcl hdl
    subst hcl;subst hdl
    have hol':(s.heap.push (ay #[] 0 (.fresh 0 0 led))).get? l=some { cls :=.type "list",dict:=odict,data :=.seq items nl,slots:=oslots }:=rf _ hol
    have hsls:=PySem.F.sub_list_set
    have hslf:=PySem.F.sub_list_frozenset
    have hne:(uG "list" == uG "dict")=false:=by decide
    have hl1:(s.heap.push (ay #[] 0 (.fresh 0 0 led))).IsList l items:=⟨_,hol',rfl,nl,rfl⟩
    unfold Builtin.«set.__init__» noKeywords Builtin.Frozenset.updateFrom
    generalize hPI:pyIter=PI
    wp_walk
    subst hPI
    refine vX hl1 ?_
    refine rd (wQ ?_)
    have hlS:l<s.heap.objs.size:=rB hol
    have hh3:A.in1.in1.in1.handled=none:=by simp[hh]
    have hneI:l≠(s.heap.push (ay #[] 0 (.fresh 0 0 led))).objs.size:=by
     rw[gd];exact rQ (tQ hlS)
    have hSf:s.heap.objs.size∉[(s.heap.push (ay #[] 0 (.fresh 0 0 led))).objs.size,l]:=by
     rw[gd];simp only[sv,sq,wc,or_false,not_or]
     exact ⟨rQ (u3 _),uU hlS⟩
    refine iL (kd:=kd) ((Walks.list hh3 _ l hneI items).toS) hrm (λi s' st =>?hI) s.heap.objs.size hSf rK ks hz hb (items.size-0) 0 _ #[] (by omega) (sM _)
     ⟨⟨_,rz _ rfl,rfl,rfl⟩,(hl1.push _)⟩ ?hv (by subst hled;exact fj (rf _ hS)) (Good.nil _) ?hR
    case hI =>
     obtain ⟨o,ho,hc,_⟩:=st.1
     exact ⟨o,ho,by rw[hc];decide⟩
    case hv =>
     intro j v hv
     obtain ⟨q,e,x⟩:=hi j v hv
     exact ⟨q,e,kd.keeps x λb o _ e=>rf _ (rf _ e)⟩
    case hR =>
     intro s' es' hm hS' hG'
     obtain ⟨h',g',d',tk',os'⟩:=s'
     have eg:g'=s.gens:=hm.gens
     have ed:d'=s.drawn:=hm.drawn
     have eo:os'=s.os:=hm.os
     subst eg;subst ed;subst eo
     show rX _ _ _ _ _ _
     refine rp ?_
     show rX _ _ (ret tX) _ _ _
     refine rp ⟨rfl,h',es',tk',rfl,hm.toks,hS',hG',λb o e =>?_⟩
     have hbb:=rB e
     have hb1:b≠s.heap.objs.size:=rQ hbb
     have hb2:b≠(s.heap.push (ay #[] 0 (.fresh 0 0 led))).objs.size:=by
      rw[gd];exact rQ (tQ hbb)
     exact hm.heap b o (by simp only[sv,sq,wc,or_false,not_or];exact ⟨hb1,hb2⟩) (rf _ (rf _ e))
   ·cases r₂ with
    | error e=>exact hr₂
    | ok fl₂ =>
     cases fl₂ with
     | ret r =>
      obtain ⟨rfl,h',es,tk,rfl,htk,hS',hG',hk'⟩:=hr₂
      repeat (any_goals (first | assumption | wp_step))
      exact h _ _ _ htk hS' hG' hk'
     | _=>exact hr₂.elim
  | _=>exact hr.elim
end
open PySem PySem.SetTable PyProof.Rows
namespace F9
theorem cx:Slot "set_iterator" "__next__" "set_iterator.__next__" :=
 .of (owner := "set_iterator") (n := "__next__") (by rw[typeLookup_type,builtinLookup_eq_fast];kernel_rfl) (by decide +kernel) (by decide +kernel) (by decide +kernel)
  (by first | exact .inl (by decide +kernel) | exact .inr (by decide +kernel)) (by rw[yc];kernel_rfl)
theorem fU:entryFor table "set_iterator.__next__" = some Builtin.«set_iterator.__next__» := entryFor_of_tree (by kernel_rfl)
theorem gX (a:rg):argsOk "set_iterator.__next__" ⟨[a],[]⟩:=by
 unfold argsOk;kernel_rfl
theorem fq:entryFor table "set.__iter__" = some Builtin.«frozenset.__iter__» :=
 entryFor_alias (id' := "frozenset.__iter__") (by kernel_rfl) rfl (by decide +kernel) (by kernel_rfl)
end F9
theorem ft {α:Type}:∀(l:List α) (i:Nat) (x:α),l[i]? = some x->(x :: l.eraseIdx i).Perm l
 | [],i,x,h=>by simp at h
 | y :: l,0,x,h=>by simp at h;subst h;exact vo _
 | y :: l,i+1,x,h=>by
  rw[uW] at h
  rw[w9]
  exact (List.Perm.swap y x _).trans (List.Perm.cons y (ft l i x h))
theorem kn {α:Type}(next:Nat->Nat):∀(fuel k:Nat) (left:List α) (out:Array α),left.length=fuel->(pickOrder.go next fuel k left out).toList.Perm (out.toList++left)
 | 0,k,left,out,h=>by
  have:left=[]:=xc.mp h
  subst this
  unfold pickOrder.go
  rw[tK]
 | fuel+1,k,left,out,h=>by
  unfold pickOrder.go
  have hl:next k%left.length<left.length:=vV _ (by omega)
  have e:=tm hl
  rw[e]
  dsimp only
  have ih:=kn next fuel (k+1) (left.eraseIdx (next k%left.length)) (out.push left[next k%left.length]) (by rw[List.length_eraseIdx,if_pos hl];omega)
  refine ih.trans ?_
  rw[t8,rZ]
  exact tP _ (ft _ _ _ e)
theorem lE {α:Type}(next:Nat->Nat)(xs:Array α):(pickOrder next xs).toList.Perm xs.toList:=by
 unfold pickOrder
 have:=kn next xs.size 0 xs.toList #[] (by simp)
 simpa using this
section
variable  {prog:rO}{w:sC}{A:sR}{E:rg->rj->Prop}{s:rj}
def walkVals (w:sC)(a:Addr)(es:Array (Int×rg))(ep:Nat):List rg :=
 if w.params.followText "set-order" = true then (pickOrder (w.params.setOrder a ep) es).toList.map (·.2) else es.toList.map (·.2)
theorem gx (w:sC)(a:Addr)(es:Array (Int×rg))(ep:Nat):(walkVals w a es ep).Perm (es.toList.map (·.2)):=by
 unfold walkVals
 split
 ·exact (lE _ _).map _
 ·exact vo _
theorem dW {Q:Bool->rj->Prop}(h:Q (w.params.followText "set-order") s):rX (sh prog w) A setsByText Q E s:=by
 unfold setsByText
 exact rd (xu (rp h))
theorem jw {a:Addr}{es:Array (Int×rg)}{ep:Nat}{t:SetTable}{Q:Option (rg×Nat)->rj->Prop}(ho:s.heap.get? a=some (ay es ep t))(T:Tab t (es.map (·.1)))(hl:t.led = !w.params.followText "set-order")(hp:t.plain=true){slot i:Nat}
  (hs:w.params.followText "set-order" = false->below t.place slot=i)
  (hy:∀x slot',(walkVals w a es ep)[i]? = some x->(w.params.followText "set-order" = false->below t.place slot'=i+1)->Q (some (x,slot')) s)
  (hn:(walkVals w a es ep)[i]? = none->Q none s):rX (sh prog w) A (setNext a slot i ep) Q E s:=by
 unfold setNext
 refine rd (aS ho T ?_)
 dsimp only
 refine rd (dW ?_)
 cases hb:w.params.followText "set-order" with
 | true =>
  rw[hb] at hs hy
  simp only[bne_self_eq_false,rJ,if_true,if_false]
  refine rd ?_
  unfold setWalk
  refine rd (aS ho T ?_)
  dsimp only
  refine rd (dW ?_)
  rw[hb]
  simp only[if_true]
  refine rd (xu (rp ?_))
  refine rp ?_
  have ew:(walkVals w a es ep)[i]? = ((pickOrder (w.params.setOrder a ep) es)[i]?).map (·.2):=by
   unfold walkVals
   rw[if_pos hb,sf,rq]
  show Q (((pickOrder (w.params.setOrder a ep) es)[i]?).map λe=>(e.2,slot)) s
  cases hx:(pickOrder (w.params.setOrder a ep) es)[i]? with
  | none=>rw[hx] at ew;exact hn ew
  | some e=>rw[hx] at ew;exact hy _ _ ew (λq=>by cases q)
 | false =>
  have hs':=hs hb
  simp only[rJ,if_false]
  have ew:(walkVals w a es ep)[i]? = (es[i]?).map (·.2):=by
   unfold walkVals
   rw[if_neg (by rw[hb];exact rR),sf,rq]
  show rX _ _ (if (!t.plain && decide (es.size>1))=true then _ else _) _ _ _
  rw[hp]
  simp only[tE,wK,rJ,if_false]
  refine rd ?_
  show rX _ _ (if (!t.led && !es.isEmpty)=true then _ else _) _ _ _
  rw[hl,hb]
  simp only[x9,tE,wK,rJ,if_false]
  refine rp ?_
  rw[hs']
  by_cases hi:i<es.size
  ·have ee:es[i]? = some es[i]:=rP hi
   have hpl:i<t.place.size:=by rw[T.size,tD];exact hi
   have ep':t.place[i]? = some t.place[i]:=rP hpl
   rw[ee,ep']
   rw[ee] at ew
   exact rp (hy _ _ ew λ_=>jk T.rise ep')
  ·have ee:es[i]? = none:=t7 (by omega)
   rw[ee]
   rw[ee] at ew
   exact rp (hn ew)
def dX (h:Heap)(it a:Addr)(slot i n ep:Nat):Prop:=h.get? it=some { cls :=.type "set_iterator",data :=.fields #[.int slot 0,.int i 0,.ref a,.int n 0,.int ep 0] }
theorem dX.typeIs {it a:Addr}{slot i n ep:Nat}(x:dX s.heap it a slot i n ep):s.TypeIs (.ref it) "set_iterator" :=⟨_,x,rfl⟩
end
open PySem PySem.SetTable PyProof.Rows
section
variable  {prog:rO}{w:sC}{A:sR}{E:rg->rj->Prop}{s:rj}
structure jx (w:sC)(h:Heap)(it a:Addr)(es:Array (Int×rg))(ep i:Nat):Prop where
 st:∃t slot,h.get? a=some (ay es ep t)/\Tab t (es.map (·.1))/\t.led=(!w.params.followText "set-order")/\t.plain=true/\(w.params.followText "set-order" = false->below t.place slot=i)/\dX h it a slot i es.size ep
theorem ko {it a:Addr}{es:Array (Int×rg)}{ep i:Nat}{Q:Option rg->rj->Prop}(hh:A.handled=none)(hne:it≠a)(O:jx w s.heap it a es ep i)
  (hy:∀x h',(walkVals w a es ep)[i]? = some x->jx w h' it a es ep (i+1)->Heap.SameBut it s.heap h'->Q (some x) { s with heap:=h' })
  (hn:(walkVals w a es ep)[i]? = none->∀h',Heap.ExtBut it s.heap h'->Q none { s with heap:=h' }) :
  rX (sh prog w) A (pyNext (.ref it)) Q E s:=by
 obtain ⟨t,slot,ho,T,hl,hp,hs,hit⟩:=O.st
 have hf:t.fits es.size=true:=by have:=T.fits;rwa [tD] at this
 unfold pyNext
 refine rd (xo (uv (name:=Str.ofString "__next__") hit.typeIs F9.cx
  (uo F9.cx hit.typeIs F9.fU ?_ (F9.gX _))))
 show rX _ _ (fieldsOf (.ref it) >>= _) _ _ s
 refine rd (wpAny_fieldsOf hit rfl ?_)
 show rX _ _ (setEntries a >>= _) _ _ s
 refine rd (yh ho rfl hf ?_)
 rw[if_neg (by simp)]
 show rX _ _ (setNext a ((slot:Int).toNat) ((i:Int).toNat) ((ep:Int).toNat) >>= _) _ _ s
 rw[ve,ve,ve]
 refine rd (jw ho T hl hp hs (λx slot' ex hs' =>?_) λex =>?_)
 ·dsimp only
  refine rd (tG hit (by simp) λh1 e1 sb1 =>?_)
  refine rd (tG e1 (by simp) λh2 e2 sb2 =>?_)
  refine rp ⟨x,rfl,rp (hy x h2 ex ⟨t,slot',?_,T,hl,hp,hs',?_⟩ (sb1.trans sb2))⟩
  ·rw[(sb1.trans sb2).2 a (vy hne)];exact ho
  ·unfold dX
   rw[e2]
   simp[wJ]
 ·dsimp only
  refine rd (tG hit (by simp) λh1 e1 sb1 =>?_)
  show rX _ _ (newExc (.type "StopIteration") [] >>= _) _ _ _
  refine rd ?_
  simp only[newExc,newTuple]
  refine rd (uw ?_ (by size_fits))
  refine rd (m:=firstArgMember _ _) (y3 (a:=tX) (by first | rfl | (simp only[firstArgMember];rfl)) ?_)
  refine uw ?_ (by size_fits)
  simp only[raiseNew]
  refine rd (wpAny_handled ?_)
  first | rw[show A.in1.handled=none from hh] | rw[hh]
  refine rd (rp (wpAny_throw ?_))
  refine rd (xv (T := "StopIteration") (b:=true) ⟨_,rz _ rfl,rfl⟩ isSubtype_stop ?_)
  exact rp (hn ex _ ((sb1.extBut.push _).push _))
theorem iM {it a S:Addr}{es:Array (Int×rg)}{ep:Nat}{res:rg}{R:Result->rj->Prop}(hh:A.in1.handled=none)(hne:it≠a)(hSI:S≠it)(hSa:S≠a)(hz:es.size<300) :
  ∀(k i:Nat) (h:Heap) (acc:Array rg) (c:Nat),es.size-i=k->i<=es.size->jx w h it a es ep i->h.get? S=some { cls :=.type "list",dict:=none,data :=.seq acc c,slots := #[] }->acc.toList=(walkVals w a es ep).take i →
  (∀h' acc' c',(∀b o,b≠S->b≠it->h.get? b=some o->h'.get? b=some o)->h'.get? S=some { cls :=.type "list",dict:=none,data :=.seq acc' c',slots := #[] }->acc'.toList=walkVals w a es ep->R (.ok (.ret res)) { s with heap:=h' }) →
  xX (sh prog w) A (.builtin "list.extend.loop" ⟨[.ref S,.ref it,res],[]⟩) R { s with heap:=h }:=by
 have lw:(walkVals w a es ep).length=es.size:=by rw[(gx w a es ep).length_eq,rn,rh]
 have zl:300<=rN:=by rw[xh];omega
 intro k
 induction k with
 | zero =>
  intro i h acc c hk hi O hS ha hR
  have hin:i=es.size:=by omega
  subst hin
  refine tM yf ?_
  rw[tW vA _]
  show rX _ A.in1 (pyNext (.ref it) >>= _) _ _ { s with heap:=h }
  refine rd (ko hh hne O (λx h' ex =>?_) λex h' xb =>?_)
  ·rw[vZ (by omega)] at ex;cases ex
  ·refine rp (hR h' acc c (λb o _ hb e=>xb b o hb e) (xb S _ hSI hS) ?_)
   rw[ha,sN (by omega)]
 | succ k ih =>
  intro i h acc c hk hi O hS ha hR
  have hlt:i<es.size:=by omega
  refine tM yf ?_
  rw[tW vA _]
  show rX _ A.in1 (pyNext (.ref it) >>= _) _ _ { s with heap:=h }
  refine rd (ko hh hne O (λx h' ex O' sb =>?_) λex =>?_)
  ·have hS':h'.get? S=some { cls :=.type "list",dict:=none,data :=.seq acc c,slots := #[] }:=by rw[sb.2 S hSI];exact hS
   have hal:acc.size=i:=by rw[<- rh,ha,sA];omega
   show rX _ A.in1 (updateSeq S (·.push x) >>= _) _ _ _
   refine rd ?_
   refine xW (s:={ s with heap:=h' }) hS' rfl (rp ⟨vP vA _,ih (i+1) _ (acc.push x) _ (by omega) hlt ?_ (ui _ hS' rfl) ?_ λh'' acc' c' kk hS'' ha' =>?_⟩)
    (by rw[hal];omega) (by show (acc.push x).size<=rN+1;rw[uO,hal];omega)
   ·obtain ⟨t,slot,ho,T,hl,hp,hs,hit⟩:=O'.st
    exact ⟨t,slot,(tH _ _ hSa).trans ho,T,hl,hp,hs,(tH _ _ hSI).trans hit⟩
   ·rw[t8,ha,zf,ex];rfl
   ·refine hR h'' acc' c' (λb o hb hb2 e=>kk b o hb hb2 ?_) hS'' ha'
    refine (tH _ _ (vy hb)).trans ?_
    rw[sb.2 b hb2];exact e
  ·rw[tm (by omega)] at ex;cases ex
theorem iN {a:Addr}{es:Array (Int×rg)}{R:List rg->rj->Prop}(hh:A.handled=none)(I:cc w s.heap a es)(hz:es.size<300)
  (h:∀h1 vs,vs.Perm (es.toList.map (·.2))->(∀b o,s.heap.get? b=some o->h1.get? b=some o)->s.heap.objs.size<=h1.objs.size->R vs { s with heap:=h1 }) :
  rX (sh prog w) A (collect (.ref a)) R E s:=by
 obtain ⟨ep,t,ho,T,rm,hl,hp⟩:=I
 have hf:t.fits es.size=true:=by have:=T.fits;rwa [tD] at this
 have hlt:=rB ho
 unfold collect
 refine rd (wQ (tM F.entry_proto_collect ?_))
 rw[tW F.plain_proto_collect _]
 show rX _ A.in1 (newList [] >>= λl=>again (.builtin "list.__iadd__" ⟨[l,.ref a],[]⟩)) _ _ s
 refine rd (uw ?_)
 refine rp ⟨vP yC _,tM F.entry_list_iadd ?_⟩
 rw[tW yC _]
 show rX _ A.in1 (uB (.ref s.heap.objs.size) (.ref a) (.ref s.heap.objs.size)) _ _ _
 unfold uB
 have hSa:s.heap.objs.size≠a:=uU hlt
 have z1:(s.heap.push { cls :=.type "list",data :=.seq ([]:List rg).toArray }).objs.size=s.heap.objs.size+1:=tR _ _
 have ho1:(s.heap.push { cls :=.type "list",data :=.seq ([]:List rg).toArray }).get? a=some (ay es ep t):=rf _ ho
 have hT1:Shared.TypeIs { s with heap:=s.heap.push { cls :=.type "list",data :=.seq ([]:List rg).toArray } } (.ref a) "set" :=⟨_,ho1,rfl⟩
 refine rd (wI hT1 ?_)
 have h1:w6 (.ref s.heap.objs.size) (.ref a)=false:=by simp[w6,hSa]
 have h2:(uG "set" == uG "list")=false:=by decide
 have h3:(uG "set" == uG "tuple")=false:=by decide
 simp only[h1,h2,h3,Bool.or_false,rJ,if_false]
 refine rd (wpAny_pyIter_slot hT1 yX (uo yX hT1 F9.fq ?_ (F.args_set_iter_1 _)))
 unfold Builtin.«frozenset.__iter__» Builtin.Frozenset.slot0 slotArgs
 simp only[List.isEmpty_nil,tE,rJ, ↓reduceIte,bind_assoc,uh,bne_self_eq_false]
 unfold Builtin.Frozenset.addrOf Builtin.Frozenset.sizeOf
 refine rd (rp ?_)
 try dsimp only
 refine rd (rp ?_)
 refine rd (rd (yh ho1 rfl hf (rp ?_)))
 refine rd ?_
 unfold setDrawn
 refine rd (aS ho1 T ?_)
 dsimp only
 refine rd (dW ?_)
 show rX _ _ (pure (!w.params.followText "set-order" && (!t.plain && decide (es.size>1)))) _ _ _
 rw[hp]
 simp only[tE,wK,ze]
 refine rp ?_
 simp only[rJ,if_false]
 refine rd (rp ?_)
 refine rd (wpAny_setEpoch_of ho1 rfl hf ?_)
 refine rd (uw (rp ⟨_,rfl, "set_iterator",_,⟨_,rz _ rfl,rfl⟩,F9.cx.lookup,?_⟩))
 have zit:(s.heap.push { cls :=.type "list",data :=.seq ([]:List rg).toArray }).objs.size=s.heap.objs.size+1:=z1
 show rX _ A.in1 (yF [.ref (s.heap.push { cls :=.type "list",data :=.seq ([]:List rg).toArray }).objs.size] (wB (.ref a)) >>= _) _ _ { s with heap:=(s.heap.push { cls :=.type "list",data :=.seq ([]:List rg).toArray }).push { cls :=.type "set_iterator",data :=.fields #[wJ 0,wJ 0,.ref a,wJ es.size,wJ ep] } }
 rw[zit]
 generalize hH:(s.heap.push { cls :=.type "list",data :=.seq ([]:List rg).toArray }).push { cls :=.type "set_iterator",data :=.fields #[wJ 0,wJ 0,.ref a,wJ es.size,wJ ep] }=H
 have kH:∀b o,(s.heap.push { cls :=.type "list",data :=.seq ([]:List rg).toArray }).get? b=some o->H.get? b=some o:=λb o e=>by rw[<- hH];exact rf _ e
 have zH:H.objs.size=s.heap.objs.size+2:=by rw[<- hH,tR,z1]
 have hit:dX H (s.heap.objs.size+1) a 0 0 es.size ep:=by
  unfold dX
  rw[<- hH, <- z1]
  exact rz _ rfl
 have hT2:Shared.TypeIs { s with heap:=H } (.ref a) "set" :=⟨_,kH _ _ ho1,rfl⟩
 refine rd (ue ?_)
 unfold wB
 refine rd (wpAny_specialOf hT2 F.slot_set_len.lookup ?_)
 dsimp only
 rw[show splitId "set.__len__" = some ("set", "__len__") by kernel_rfl]
 dsimp only
 refine rd (xv hT2 sub_set_self ?_)
 simp only[tE,rJ,if_false]
 show rX _ _ (typeOf (.ref a) >>= _) _ _ _
 refine rd (wI hT2 ?_)
 refine rp ?_
 show rX _ A.in1 (rule "list.extend.makes-room" >>= λ_=>Builtin.List.listTouch (.ref s.heap.objs.size) >>= λ_ =>
  again (.builtin "list.extend.loop" ⟨[.ref s.heap.objs.size,.ref (s.heap.objs.size+1),.ref s.heap.objs.size],[]⟩)) _ _ _
 refine rd (vj ?_)
 have hS₁:H.get? s.heap.objs.size=some { cls :=.type "list",data :=.seq ([]:List rg).toArray }:=kH _ _ (rz _ rfl)
 refine rd ?_
 show rX _ A.in1 (updateSeq s.heap.objs.size (·.push .none) >>= λ_=>updateSeq s.heap.objs.size (·.pop)) _ _ _
 refine rd (xW (s:={ s with heap:=H }) hS₁ rfl ?_)
 have hS₂:=ui (uH (·.push tX)) hS₁ rfl
 refine xW hS₂ rfl ?_
 have hS₃:=ui (uH (·.pop)) hS₂ rfl
 have oth:∀b o,b≠s.heap.objs.size->H.get? b=some o->((H.update s.heap.objs.size (uH (·.push tX))).update s.heap.objs.size (uH (·.pop))).get? b=some o :=
  λb o hb e=>(tH _ _ (vy hb)).trans ((tH _ _ (vy hb)).trans e)
 refine rp ⟨vP vA _,iM (it:=s.heap.objs.size+1) (a:=a) (es:=es) (ep:=ep) (s:=s) hh (uU (tQ hlt)) (rQ (u3 _)) hSa hz es.size 0 _ _ _ rfl (sM _)
  ⟨t,0,oth a _ (vy hSa) (kH _ _ ho1),T,hl,hp,λ_=>jm T.rise,oth _ _ (uU (u3 _)) hit⟩ hS₃ rfl λh' acc' c' kk hS' ha =>?_⟩
 show rX _ A (load s.heap.objs.size >>= _) _ _ { s with heap:=h' }
 refine rd (zp hS' ?_)
 have kf:∀b o,s.heap.get? b=some o->h'.get? b=some o:=λb o e=>by
  have:=rB e
  exact kk b o (rQ this) (rQ (tQ this)) (oth b o (rQ this) (kH b o (rf _ e)))
 refine rp ?_
 rw[ha]
 exact h h' _ (gx w a es ep) kf (vC (rB hS'))
end
open PySem PySem.SetTable PyProof.Rows Srt
def Kd.sub {prog:rO}{w:sC}{κ:Type}(kd:Kd prog w κ)(M:rg->Prop):Kd prog w κ where
 El:=λh v k=>kd.El h v k/\M v
 hash:=kd.hash
 room:=kd.room
 keeps:=λx t=>⟨kd.keeps x.1 t,x.2⟩
 inj:=λx y=>kd.inj x.1 y.1
 add:=by
  intro A E s a es v k Q hr I els hv hz hin hnew
  refine kd.add hr I (λe he =>?_) hv.1 hz (λx tk htk=>hin ?_ tk htk) λx h' es' tk htk sb I' pm=>hnew ?_ h' es' tk htk sb I' pm
  ·obtain ⟨k',a1,a2,a3⟩:=els e he;exact ⟨k',a1,a2⟩
  ·obtain ⟨e,he,y⟩:=x
   obtain ⟨k',a1,a2,a3⟩:=els e he
   exact ⟨e,he,y,a3⟩
  ·rintro ⟨e,he,y,_⟩;exact x ⟨e,he,y⟩
section
variable  {prog:rO}{w:sC}{A:sR}{E:rg->rj->Prop}{s:rj}{O:wA}{key:rg->O.α}
theorem jy {a:Addr}{es:Array (Int×rg)}{Q:rg->rj->Prop}(hh:A.handled=none)(I:cc w s.heap a es)(hz:es.size<300)(C:∀vs:List rg,vs.Perm (es.toList.map (·.2))->gN prog w s vs O key)
  (h:∀(h':Heap) (p:Addr) (out:List rg) (n:Nat),(∀b o,s.heap.get? b=some o->h'.get? b=some o)->s.heap.objs.size<=p->h'.get? p=some (seqObj "list" out.toArray n)->out.Perm (es.toList.map (·.2))->out.Pairwise (λx y=>O.kle (key x) (key y))->Q (.ref p) { s with heap:=h' }) :
  rX (sh prog w) A (call (.builtin "sorted") [.ref a]) Q E s:=by
 refine wN kind_sorted plain_sorted entry_sorted (args_sorted1 _) ?_
 unfold Builtin.«sorted»
 refine rd (m:=checkCount "sorted" 1 1 _) (rp ?_)
 refine rd (iN (by simpa using hh) I hz λh1 vs pv k1 z1 =>?_)
 have hz':vs.length<=rN:=by
  rw[pv.length_eq,rn,rh]
  have:300<=rN:=by rw[xh];omega
  omega
 refine rd (xn ?_ hz')
 have hoL:(h1.push (seqObj "list" vs.toArray 0)).get? h1.objs.size=some (seqObj "list" vs.toArray 0):=rz _ rfl
 have kL:∀b o,s.heap.get? b=some o->(h1.push (seqObj "list" vs.toArray 0)).get? b=some o:=λb o e=>rf _ (k1 b o e)
 refine rd (ue (uo slot_list_sort ⟨_,hoL,rfl⟩ entry_list_sort (cY (key:=key) (O:=O) hoL hz' (λh2 h6 k6 =>?_) λout pm ps=>⟨_,rfl,?_⟩) (args_list_sort _)))
 ·exact (C vs pv).ok h2 _ h6 λb o e=>k6 b o (rQ (rF (rB e) z1)) (kL b o e)
 ·obtain ⟨n,en⟩:=sortedHeap_at (out:=out.toArray) hoL
  refine rp ⟨_,rfl,h _ _ out n (λb o e =>?_) z1 en (pm.trans pv) ps⟩
  have lt:=rF (rB e) z1
  rw[sortedHeap_old (rQ lt) (by rw[zr];exact tQ lt)]
  exact kL b o e
end
end STab
namespace L2
open PySem PySem.Spec PyProof.Rows
section
variable  {X:Cx}
def dD (w:sC)(a:Addr)(ys:List V):HO :=.ext λh=>∃es,STab.cc w h a es/\Vals ys (es.toList.map (·.2))
theorem oh {prog:rO}{w:sC}{H:Hp}{h:Heap}{a:Addr}{ys:List V}{es:Array (Int×rg)}(I:STab.cc w h a es)(r:Vals ys (es.toList.map (·.2))):aR prog w (upd H a (dD w a ys)) h a (dD w a ys):=by
 refine ⟨⟨es,I,r⟩,?_,λh1 h2 ⟨es',I',r'⟩ k=>⟨es',I'.at k,r'⟩⟩
 obtain ⟨ep,t,ho,_⟩:=I
 exact ⟨_,ho⟩
theorem iO:∀{ns:List Int} {xs:List rg} {prog:rO} {w:sC},uc xs ns->ItemsAre (intKind prog w) ns xs
 | _,_,_,_,.nil =>.nil
 | _,_,_,_,.cons n t r =>.cons (intKind_is _ _ _ _) (iO r)
theorem Inv.tk {pins:List (Addr×Obj)}{σ:St}{H:Hp}{s:rj}(I:Inv X pins σ H s){b:Addr}{ns:List Int}(h:SqT X.K H b (ns.map V.int)):STab.TK X.prog X.w s.heap ns b:=by
 obtain ⟨its,r,⟨o,e,c,n,d⟩,_⟩:=I.tuple h
 exact ⟨o,_,n,e,c,d,iO (by simpa using cw r)⟩
theorem pull {α β:Type}{f:α -> β}{ts:List α}:∀{l:List β},(∀v∈l,∃t∈ts,v=f t)->∃us:List α,l=us.map f/\∀t∈us,t∈ts
 | [],_=>⟨[],rfl,λt h=>by cases h⟩
 | v :: l,h=>by
  obtain ⟨t,ht,e⟩:=h v rK
  obtain ⟨us,e2,m⟩:=pull (l:=l) λv' hv=>h v' (r6 _ hv)
  refine ⟨t :: us,by rw[sI, <- e, <- e2],λt' ht' =>?_⟩
  rcases sv.mp ht' with rfl | h'
  ·exact ht
  ·exact m _ h'
theorem lF (hh:X.A.handled=none)(hu:X.A.units+64<cLine):bG X (.type "set") (λxs H Q=>∃(p:Addr) (ts:List (Addr×List Int)),xs=[.ref p]/\(SqL X.K H p (ts.map λt =>.ref t.1)\/SqT X.K H p (ts.map λt =>.ref t.1))/\(∀t∈ts,SqT X.K H t.1 (t.2.map V.int))/\ts.length<300 ∧
  ∀(a:Addr) (us:List (Addr×List Int)),H a=none->(∀t∈us,t∈ts)->(us.map (·.2)).Nodup->(∀t∈ts,t.2∈us.map (·.2))->us.length<=ts.length->Q (.ref a) (upd H a (dD X.w a (us.map λt =>.ref t.1)))):=by
 intro pins s σ H xs vs Q I r h
 obtain ⟨p,ts,rfl,hs,ht,hl,q⟩:=h
 obtain ⟨u,rfl,ru⟩:=vals1 r
 cases (show u=si p from ru)
 have goal:∀(items:Array rg),items.toList=(ts.map λt=>si t.1)->∀(h':Heap) (es:Array (Int×rg)) (tk:Nat),s.toks<=tk->STab.cc X.w h' s.heap.objs.size es->STab.Good ((STab.eB X.prog X.w).sub (· ∈ items.toList)) h' es (ts.map (·.2)) →
   (∀b o,s.heap.get? b=some o->h'.get? b=some o)->EP X pins σ Q (.ref s.heap.objs.size) { s with heap:=h',toks:=tk }:=by
  intro items ei h' es tk _ S G k
  obtain ⟨us,eu,mu⟩:=pull (f:=λt:Addr×List Int=>si t.1) (ts:=ts) (l:=es.toList.map (·.2)) (λv hv=>by
   obtain ⟨e,he,rfl⟩:=sJ.mp hv
   obtain ⟨_,_,_,_,m⟩:=G.el e (td.mp he)
   rw[ei] at m
   obtain ⟨t,ht',e'⟩:=sJ.mp m
   exact ⟨t,ht',e'.symm⟩)
  have tk':∀t∈us,STab.TK X.prog X.w h' t.2 t.1:=λt m=>(I.tk (ht t (mu t m))).keep λb o _ e=>k b o e
  have elu:∀t∈us,((STab.eB X.prog X.w).sub (· ∈ items.toList)).El h' (.ref t.1) t.2:=λt m=>⟨⟨t.1,rfl,tk' t m⟩,by
   rw[ei];exact sJ.mpr ⟨t,mu t m,rfl⟩⟩
  have nd:(us.map (·.2)).Nodup:=by
   have d:=G.dis
   have d2:(es.toList.map (·.2)).Pairwise (λv v'=>∀k,((STab.eB X.prog X.w).sub (· ∈ items.toList)).El h' v k->¬ ((STab.eB X.prog X.w).sub (· ∈ items.toList)).El h' v' k):=by
    rw[tF];exact d
   rw[eu,tF] at d2
   unfold List.Nodup
   rw[tF]
   refine d2.imp_of_mem λ{t t'} m m' x e=>x t.2 (elu t m) ?_
   have:=elu t' m'
   rw[<- e] at this
   exact this
  have cov:∀t∈ts,t.2∈us.map (·.2):=λt m=>by
   obtain ⟨e,he,x,_⟩:=G.all t.2 (sJ.mpr ⟨t,m,rfl⟩)
   have:e.2∈us.map λt=>si t.1:=by rw[<- eu];exact sJ.mpr ⟨e,td.mpr he,rfl⟩
   obtain ⟨u,hu',e'⟩:=sJ.mp this
   obtain ⟨b,eb,x⟩:=x
   rw[<- e'] at eb
   injection eb with eb
   subst eb
   exact sJ.mpr ⟨u,hu',(tk' u hu').inj x⟩
  have hlen:us.length<=ts.length:=by
   have:=G.len
   rw[rn] at this
   have e2:=congrArg List.length eu
   rw[rn,rn,rh] at e2
   omega
  refine ⟨.ref s.heap.objs.size,_,I.laid k (rA _) (oh (ys:=us.map λt=>V.ref t.1) S (by rw[eu];exact cX)),rfl,q _ us (I.hok.fresh (rA _)) mu nd cov hlen⟩
 have rm:((STab.eB X.prog X.w).sub (λv=>True)).room X.A.in1.in1.in1:=by show X.A.units+1+1+1<cLine;omega
 have itm:∀(its:List rg),its=(ts.map λt=>si t.1)->∀(i:Nat) (v:rg),its.toArray[i]? = some v->∃q,(ts.map (·.2))[i]? = some q/\((STab.eB X.prog X.w).sub (· ∈ its.toArray.toList)).El s.heap v q:=by
  intro its ei i v hv
  rw[sF,ei,sf] at hv
  cases ht':ts[i]? with
  | none=>rw[ht'] at hv;cases hv
  | some t =>
   rw[ht'] at hv
   cases hv
   have m:=rT ht'
   refine ⟨t.2,by rw[sf,ht'];rfl,⟨t.1,rfl,I.tk (ht t m)⟩,?_⟩
   show si t.1∈its
   rw[ei]
   exact sJ.mpr ⟨t,m,rfl⟩
 rcases hs with hs | hs
 ·obtain ⟨its,rv,⟨o,n,e,c,dn,d⟩,z⟩:=I.list hs
  have ei:=cj rv
  have lz:its.length=ts.length:=by rw[ei,rn]
  refine STab.call_set_list (kd:=(STab.eB X.prog X.w).sub (· ∈ its.toArray.toList)) (items:=its.toArray) (ks:=ts.map (·.2)) hh rm ⟨o,e,c,n,d⟩ (by simp[lz]) (λi v hv =>?_) (by simpa [lz] using hl) (goal its.toArray (by simpa using ei))
  exact itm its ei i v hv
 ·obtain ⟨its,rv,⟨o,e,c,n,d⟩,z⟩:=I.tuple hs
  have ei:=cj rv
  have lz:its.length=ts.length:=by rw[ei,rn]
  refine STab.fk (kd:=(STab.eB X.prog X.w).sub (· ∈ its.toArray.toList)) (items:=its.toArray) (ks:=ts.map (·.2)) hh rm ⟨o,e,c,n,d⟩ (by simp[lz]) (λi v hv =>?_) (by simpa [lz] using hl) (goal its.toArray (by simpa using ei))
  exact itm its ei i v hv
theorem Inv.dD {pins:List (Addr×Obj)}{σ:St}{H:Hp}{s:rj}(I:Inv X pins σ H s){a:Addr}{ys:List V}(h:H a=some (dD X.w a ys)):∃es,STab.cc X.w s.heap a es/\Vals ys (es.toList.map (·.2)):=by
 exact (I.hok a _ h).1
theorem fV (hh:X.A.handled=none):bG X (.builtin "sorted") (λxs H Q=>∃(a:Addr) (ts:List (Addr×List Int)),xs=[.ref a]/\H a=some (dD X.w a (ts.map λt =>.ref t.1))/\(∀t∈ts,SqT X.K H t.1 (t.2.map V.int)/\t.2≠[])/\ts.length<300 ∧
  ∀(l:Addr) (out:List (Addr×List Int)),H l=none->out.Perm ts->out.Pairwise (λa b=>HT.lexLt b.2 a.2=false)->Q (.ref l) (upd H l (.lst (out.map λt =>.ref t.1)))):=by
 intro pins s σ H xs us Q I r h
 obtain ⟨a,ts,rfl,hs,ht,hl,q⟩:=h
 obtain ⟨u,rfl,ru⟩:=vals1 r
 cases (show u=si a from ru)
 obtain ⟨es,S,rv⟩:=I.dD hs
 have ei:=cj rv
 have lz:es.size=ts.length:=by have:=rv.length;simp at this;omega
 have tup:∀t∈ts,Srt.bT s.heap (si t.1) t.2:=λt hm=>by
  obtain ⟨jts,jr,⟨jo,je,jc,jn,jd⟩,_⟩:=I.tuple (ht t hm).1
  exact ⟨t.1,jo,_,jn,rfl,je,jc,jd,by simpa using cw jr⟩
 have hv:∀v∈es.toList.map (·.2),∃ns,Srt.bT s.heap v ns/\ns≠[]:=λv hv=>by
  rw[ei] at hv
  obtain ⟨t,hm,rfl⟩:=sJ.mp hv
  exact ⟨t.2,tup t hm,(ht t hm).2⟩
 refine STab.jy (O:=Srt.lexOrd) (key:=Srt.bJ s.heap) hh S (by omega) (λvs pv=>Srt.dB λv hm=>hv v (pv.mem_iff.mp hm)) λh' l out m k hl' el pm ps =>?_
 rw[ei] at pm
 obtain ⟨out',pm',rfl⟩:=fh pm
 have z:ts.length<=rN:=by have:300<=rN:=(by rw[xh];omega);omega
 refine ⟨.ref l,_,I.newList k hl' el cX (by rw[rn,pm'.length_eq];exact z),rfl,q l _ (I.hok.fresh hl') pm' ?_⟩
 refine (tF.mp ps).imp_of_mem λ{a b} ha hb le =>?_
 have le':HT.lexLt (Srt.bJ s.heap (si b.1)) (Srt.bJ s.heap (si a.1))=false:=le
 rw[(tup a (pm'.mem_iff.mp ha)).ints,(tup b (pm'.mem_iff.mp hb)).ints] at le'
 exact le'
end
open PySem PySem.Spec PyProof.Rows
section
variable  {X:Cx}{w:sC}
theorem jz (hw:X.w=w)(hh:X.A.handled=none)(hu:X.A.units+64<cLine):bG X (.type "set") (λxs H Q=>∃(p:Addr) (ts:List (Addr×List Int)),xs=[.ref p]/\(SqL X.K H p (ts.map λt =>.ref t.1)\/SqT X.K H p (ts.map λt =>.ref t.1))/\(∀t∈ts,SqT X.K H t.1 (t.2.map V.int))/\ts.length<300 ∧
  ∀(a:Addr) (us:List (Addr×List Int)),H a=none->(∀t∈us,t∈ts)->(us.map (·.2)).Nodup->(∀t∈ts,t.2∈us.map (·.2))->us.length<=ts.length->Q (.ref a) (upd H a (dD w a (us.map λt =>.ref t.1)))):=by
 subst hw
 exact lF hh hu
theorem fu (hw:X.w=w)(hh:X.A.handled=none):bG X (.builtin "sorted") (λxs H Q=>∃(a:Addr) (ts:List (Addr×List Int)),xs=[.ref a]/\H a=some (dD w a (ts.map λt =>.ref t.1))/\(∀t∈ts,SqT X.K H t.1 (t.2.map V.int)/\t.2≠[])/\ts.length<300 ∧
  ∀(l:Addr) (out:List (Addr×List Int)),H l=none->out.Perm ts->out.Pairwise (λa b=>HT.lexLt b.2 a.2=false)->Q (.ref l) (upd H l (.lst (out.map λt =>.ref t.1)))):=by
 subst hw
 exact fV hh
end
end L2
namespace HT
open PySem PySem.Spec PyProof.Rows
section
variable  {prog:rO}{w:sC}{A:sR}{E:rg->rj->Prop}{s:rj}{l:Addr}{xs:Array (Int×Tok)}
theorem gy {items:Array rg}{Q:rg->rj->Prop}(hl:s.heap.IsTuple l items)
  (h:∀s₂:rj,s₂={ s with heap:=s.heap.push { cls :=.type "tuple_iterator",data :=.fields #[.ref l,.int 0 0] } } →
   (s₂.heap.IsTupleIter s.heap.objs.size l 0/\s₂.heap.IsTuple l items)->(∀b∈[s.heap.objs.size,l],b<s₂.heap.objs.size)->l≠s.heap.objs.size->Q (.ref s.heap.objs.size) s₂) :
  rX (sh prog w) A (pyIter (.ref l)) Q E s:=by
 have hlt:l<s.heap.objs.size:=by obtain ⟨_,e,_⟩:=hl;exact rB e
 refine vM hl (h _ rfl ⟨⟨_,rz _ rfl,rfl,rfl⟩,?_⟩ (λb hb =>?_) (rQ hlt))
 ·obtain ⟨o,e,c,d⟩:=hl
  exact ⟨o,rf _ e,c,d⟩
 show b<(s.heap.push _).objs.size
 rw[tR]
 rcases sv.mp hb with rfl | hb
 ·exact u3 _
 ·rcases sv.mp hb with rfl | hb
  ·exact tQ hlt
  ·cases hb
theorem gz {h':Heap}(hk:∀b o,b∉[s.heap.objs.size]->(s.heap.push { cls :=.type "tuple_iterator",data :=.fields #[.ref l,.int 0 0] }).get? b=some o->h'.get? b=some o) :
  ∀b o,s.heap.get? b=some o->h'.get? b=some o:=λb o e=>by
 refine hk b o (λhm =>?_) (rf _ e)
 rcases sv.mp hm with e1 | hm
 ·exact absurd (e1 ▸ rB e) (tN _)
 ·cases hm
theorem oi {Q:rg->rj->Prop}(hh:A.handled=none)(hl:s.heap.IsTuple l (vQ xs))(hne:0<xs.size)
  (h:∀v h' tk,(vQ xs)[argBest (λi j=>decide (numAt xs i>numAt xs j)) (xs.size-1)]? = some v->(∀b o,s.heap.get? b=some o->h'.get? b=some o)->Q v { s with heap:=h',toks:=tk }) :
  rX (sh prog w) A (call (.builtin "max") [.ref l]) Q E s:=by
 refine call_max_walk (gy hl λs₂ e st hfp hlI =>?_)
 subst e
 refine ⟨_,_,_,_,_,_,_,rfl,yW (A:=A.in1) hh _ l hlI (vQ xs),st,hfp,by simpa [vQ] using hne,CmpOf.ints_gt (numAt xs) (λ_ _=>intItems_at),λv h' tk hP hk =>?_⟩
 exact h v h' tk (by simpa [vQ] using hP) (gz hk)
theorem oj {Q:rg->rj->Prop}(hh:A.handled=none)(hl:s.heap.IsTuple l (vQ xs))(hne:0<xs.size)
  (h:∀v h' tk,(vQ xs)[argBest (λi j=>decide (numAt xs i<numAt xs j)) (xs.size-1)]? = some v->(∀b o,s.heap.get? b=some o->h'.get? b=some o)->Q v { s with heap:=h',toks:=tk }) :
  rX (sh prog w) A (call (.builtin "min") [.ref l]) Q E s:=by
 refine call_min_walk (gy hl λs₂ e st hfp hlI =>?_)
 subst e
 refine ⟨_,_,_,_,_,_,_,rfl,yW (A:=A.in1) hh _ l hlI (vQ xs),st,hfp,by simpa [vQ] using hne,CmpOf.ints_lt (numAt xs) (λ_ _=>intItems_at),λv h' tk hP hk =>?_⟩
 exact h v h' tk (by simpa [vQ] using hP) (gz hk)
end
end HT
namespace L2
open PySem PyProof.Rows
section
variable  {X:Cx}{K:rk}
theorem ii2 {i j:Int}{t1 t2:Tok}:vQ #[(i,t1),(j,t2)] = #[vp i t1,vp j t2]:=by simp[vQ]
theorem lG (hc:X.calm=true)(hk:X.K=K:=by rfl):bG X (.builtin "min") (λxs H Q=>∃(p:Addr) (i j:Int),xs=[.ref p]/\SqT K H p [.int i,.int j]/\Q (.int (if j<i then j else i)) H):=by
 subst hk
 intro pins s σ H xs us Q I r h
 obtain ⟨p,i,j,rfl,hq,q⟩:=h
 obtain ⟨u,rfl,ru⟩:=vals1 r
 cases (show u=si p from ru)
 obtain ⟨its,rv,ht,_⟩:=I.tuple hq
 obtain ⟨x,y,rfl,⟨t1,rfl⟩,⟨t2,rfl⟩⟩:=vals2 rv
 refine HT.oj (I.ok.hd hc) (xs := #[(i,t1),(j,t2)]) (by rw[ii2];exact ht) (by simp) λv h' tk hv k =>?_
 have ev:∃t,v = .int (if j<i then j else i) t:=by
  have hb:argBest (λa b=>decide (numAt #[(i,t1),(j,t2)] a<numAt #[(i,t1),(j,t2)] b)) (#[(i,t1),(j,t2)].size-1)=if j<i then 1 else 0:=by
   show (if decide (j<i)=true then 1 else 0)=_
   by_cases h:j<i
   ·rw[decide_eq_true h,if_pos h,if_pos rfl]
   ·rw[decide_eq_false h,if_neg h,if_neg rR]
  rw[hb,ii2] at hv
  by_cases h:j<i
  ·rw[if_pos h] at hv ⊢
   exact ⟨t2,(r9 (show some (vp j t2)=some v from hv)).symm⟩
  ·rw[if_neg h] at hv ⊢
   exact ⟨t1,(r9 (show some (vp i t1)=some v from hv)).symm⟩
 obtain ⟨t,rfl⟩:=ev
 exact ⟨.int _,H,I.kept k,⟨_,rfl⟩,q⟩
theorem lH (hc:X.calm=true)(hk:X.K=K:=by rfl):bG X (.builtin "max") (λxs H Q=>∃(p:Addr) (i j:Int),xs=[.ref p]/\SqT K H p [.int i,.int j]/\Q (.int (if j>i then j else i)) H):=by
 subst hk
 intro pins s σ H xs us Q I r h
 obtain ⟨p,i,j,rfl,hq,q⟩:=h
 obtain ⟨u,rfl,ru⟩:=vals1 r
 cases (show u=si p from ru)
 obtain ⟨its,rv,ht,_⟩:=I.tuple hq
 obtain ⟨x,y,rfl,⟨t1,rfl⟩,⟨t2,rfl⟩⟩:=vals2 rv
 refine HT.oi (I.ok.hd hc) (xs := #[(i,t1),(j,t2)]) (by rw[ii2];exact ht) (by simp) λv h' tk hv k =>?_
 have ev:∃t,v = .int (if j>i then j else i) t:=by
  have hb:argBest (λa b=>decide (numAt #[(i,t1),(j,t2)] a>numAt #[(i,t1),(j,t2)] b)) (#[(i,t1),(j,t2)].size-1)=if j>i then 1 else 0:=by
   show (if decide (j>i)=true then 1 else 0)=_
   by_cases h:j>i
   ·rw[decide_eq_true h,if_pos h,if_pos rfl]
   ·rw[decide_eq_false h,if_neg h,if_neg rR]
  rw[hb,ii2] at hv
  by_cases h:j>i
  ·rw[if_pos h] at hv ⊢
   exact ⟨t2,(r9 (show some (vp j t2)=some v from hv)).symm⟩
  ·rw[if_neg h] at hv ⊢
   exact ⟨t1,(r9 (show some (vp i t1)=some v from hv)).symm⟩
 obtain ⟨t,rfl⟩:=ev
 exact ⟨.int _,H,I.kept k,⟨_,rfl⟩,q⟩
end
open PySem PySem.Spec PyProof.Rows
theorem Inv.lI {X:Cx}{pins:List (Addr×Obj)}{σ:St}{H:Hp}{s:rj}{h':Heap}{t':Nat}{ch:List Addr}(I:Inv X pins σ H s)(f:∀b∈ch,eD X pins H b)
  (k:∀b ob,b∉ch->s.heap.get? b=some ob->h'.get? b=some ob):Inv X pins σ H { s with heap:=h',toks:=t' }:=by
 have nit:∀b u,H b=some u->b∉ch:=λb u e z=>by have:=(f b z).1;rw[this] at e;cases e
 refine I.step (g':=s.gens) (d':=s.drawn) (ch:=ch) (λb hb =>?_) (λb o _ _ hc e _=>k b o hc e) (λb o _ _ hc e _=>⟨o.slots,k b o hc e⟩) (λ_ _ _ _ n=>n)
  (λb o hc e=>⟨o,k b o hc e⟩) (λ_ _ e=>e) (λ_ _ _ e=>e) (λb ps e=>⟨#[],by rw[e];simp⟩) (λm hm =>?_) (λb u e =>?_) I.bare
 ·obtain ⟨g0,g1,g2,g3,g4,g5⟩:=f b hb
  exact ⟨g3,g1,g4,g5⟩
 ·obtain ⟨o,es,ep,ho,r⟩:=hm
  exact ⟨o,es,ep,k _ o (λz=>(f _ z).2.1 rfl) ho,r⟩
 ·refine (I.hok b u e).ib (λc v hc q=>k c v ?_ q) (λ_ q=>q) λ_ _ q=>q
  rcases hc with z | z
  ·rw[z];exact nit b u e
  ·exact nit c _ z
theorem ql (n a b:Nat)(h1:a<n)(h2:b<n):ZipApart (n+4) (n+2) (n+3) n (n+1) a b :=
  ⟨λz=>absurd (show n+2=n+4 from z) (by omega),λz=>absurd (show n+3=n+4 from z) (by omega),λz=>absurd (show n=n+4 from z) (by omega),λz=>absurd (show n+1=n+4 from z) (by omega),λz=>absurd (show n+2=n+3 from z) (by omega),λz=>absurd (show n+2=n from z) (by omega),λz=>absurd (show n+2=n+1 from z) (by omega),λz=>absurd (show n+3=n from z) (by omega),λz=>absurd (show n+3=n+1 from z) (by omega),λz=>absurd (show n=n+1 from z) (by omega),
   λz=>absurd (show a=n+4 from z) (by omega),λz=>absurd (show a=n+3 from z) (by omega),λz=>absurd (show a=n from z) (by omega),λz=>absurd (show a=n+1 from z) (by omega),λz=>absurd (show b=n+4 from z) (by omega),λz=>absurd (show b=n+3 from z) (by omega),λz=>absurd (show b=n from z) (by omega),λz=>absurd (show b=n+1 from z) (by omega)⟩
theorem boot_zip:sO "zip" = some (.type "zip"):=by decide +kernel
section
variable  {X:Cx}
end
open PySem PySem.Spec PyProof.Rows
theorem lJ (ns:List Int)(lo hi:Option Int):∃ms:List Int,gK (ns.map V.int) lo hi=ms.map V.int/\ms.length<=ns.length/\∀v∈ms,v∈ns:=by
 refine ⟨(ns.drop (HT.sIx (ns.map V.int).length 0 lo)).take (HT.sIx (ns.map V.int).length (ns.map V.int).length hi-HT.sIx (ns.map V.int).length 0 lo),?_,?_,λv hv=>uL (uN hv)⟩
 ·unfold gK
  rw[zu,zv]
 ·rw[sA,uE]
  omega
def Pt (n:Nat)(H:Hp)(p:Addr):Prop:=∃xs:List Int,xs.length=n/\H p=some (.lst (xs.map V.int))
structure Bu (n:Nat)(p:Addr)(H H':Hp):Prop where
 pot:Pt n H' p
 st:∀q o,q≠p->H q=some o->H' q=some o
theorem Pt.same {n:Nat}{p:Addr}{H H1:Hp}(a:Pt n H p)(s:aM H H1):Pt n H1 p:=by obtain ⟨xs,l,e⟩:=a;exact ⟨xs,l,s _ _ e⟩
theorem Pt.neT {n:Nat}{p b:Addr}{H:Hp}{ys:List V}(a:Pt n H p)(h:H b=some (.tup ys)):b≠p:=by
 obtain ⟨xs,_,e⟩:=a
 exact ia h e (by intro z;cases z)
theorem Bu.refl {n:Nat}{p:Addr}{H:Hp}(h:Pt n H p):Bu n p H H:=⟨h,λ_ _ _ z=>z⟩
theorem Bu.trans {n:Nat}{p:Addr}{H H1 H2:Hp}(a:Bu n p H H1)(b:Bu n p H1 H2):Bu n p H H2:=⟨b.pot,λq o m z=>b.st q o m (a.st q o m z)⟩
theorem Bu.same {n:Nat}{p:Addr}{H H1 H2:Hp}(a:Bu n p H H1)(b:aM H1 H2):Bu n p H H2:=⟨a.pot.same b,λq o m z=>b _ _ (a.st q o m z)⟩
theorem Bu.put {n:Nat}{p:Addr}{H H1:Hp}(a:Bu n p H H1){ys:List Int}(l:ys.length=n):Bu n p H (upd H1 p (.lst (ys.map V.int))):=⟨⟨ys,l,ag⟩,λq o m z=>by rw[au m];exact a.st q o m z⟩
theorem Bu.qm {n:Nat}{p l:Addr}{H H1:Hp}(a:Bu n p H H1)(hl:H l=none)(np:l≠p)(o:HO):Bu n p H (upd H1 l o):=⟨by obtain ⟨xs,z,e⟩:=a.pot;exact ⟨xs,z,by rw[au np.symm];exact e⟩,λq u m z=>by rw[au (ak z hl)];exact a.st q u m z⟩
theorem Bu.tup {n:Nat}{p q:Addr}{H H1:Hp}(a:Bu n p H H1)(h:Pt n H p){xs:List V}(t:H q=some (.tup xs)):H1 q=some (.tup xs):=a.st q _ (h.neT t) t
theorem Bu.fresh {n:Nat}{p:Addr}{H H':Hp}{o:HO}(h:H p=none)(b:Bu n p (upd H p o) H'):aM H H':=λq u e=>by
 have m:q≠p:=ak e h
 refine b.st q u m ?_
 rw[au m]
 exact e
variable  {X:Cx}
open PySem PySem.Spec PyProof.Rows
def ItB:Bool->Heap->Addr->Addr->Nat->Prop
 | true,h,it,l,i=>h.IsListIter it l i
 | false,h,it,l,i=>h.IsTupleIter it l i
def SB':Bool->Heap->Addr->Array rg->Prop
 | true,h,l,xs=>h.IsList l xs
 | false,h,l,xs=>h.IsTuple l xs
theorem ItB.to {b:Bool}{h h':Heap}{it l:Addr}{i:Nat}(x:ItB b h it l i)(k:∀o,h.get? it=some o->h'.get? it=some o):ItB b h' it l i:=by
 cases b
 ·exact Heap.IsTupleIter.at (show h.IsTupleIter it l i from x) k
 ·exact Heap.IsListIter.at (show h.IsListIter it l i from x) k
theorem SB'.to {b:Bool}{h h':Heap}{l:Addr}{xs:Array rg}(x:SB' b h l xs)(k:∀o,h.get? l=some o->h'.get? l=some o):SB' b h' l xs:=by
 cases b
 ·obtain ⟨o,e,r⟩:=(show h.IsTuple l xs from x);exact ⟨o,k o e,r⟩
 ·obtain ⟨o,e,r⟩:=(show h.IsList l xs from x);exact ⟨o,k o e,r⟩
theorem ItB.lt {b:Bool}{h:Heap}{it l:Addr}{i:Nat}(x:ItB b h it l i):it<h.objs.size:=by
 cases b
 ·obtain ⟨o,e,_⟩:=(show h.IsTupleIter it l i from x);exact rB e
 ·obtain ⟨o,e,_⟩:=(show h.IsListIter it l i from x);exact rB e
theorem ItB.obj {b:Bool}{h:Heap}{it l:Addr}{i:Nat}(x:ItB b h it l i):∃o,h.get? it=some o/\∀v,o.data ≠ .cell v:=by
 cases b
 ·obtain ⟨o,e,_,d⟩:=(show h.IsTupleIter it l i from x);exact ⟨o,e,λv z=>by rw[d] at z;cases z⟩
 ·obtain ⟨o,e,_,d⟩:=(show h.IsListIter it l i from x);exact ⟨o,e,λv z=>by rw[d] at z;cases z⟩
section
variable  {prog:rO}{w:sC}{A:sR}{E:rg->rj->Prop}{s:rj}
theorem mS {b:Bool}{it l:Addr}{i:Nat}{xs:Array rg}{x:rg}{Q:rg->rj->Prop}(hi:ItB b s.heap it l i)(hl:SB' b s.heap l xs)(hx:xs[i]? = some x)
  (q:∀h',ItB b h' it l (i+1)->Heap.SameBut it s.heap h'->Q x { s with heap:=h' }):rX (sh prog w) A (Builtin.SmallTypes.nextOf (.ref it)) Q E s:=by
 cases b
 ·exact jf hi hl hx q
 ·exact wpAny_nextOf_list_item hi hl hx q
theorem gA {b:Bool}{it l:Addr}{i:Nat}{xs:Array rg}{Q:rg->rj->Prop}(hh:A.handled=none)(hi:ItB b s.heap it l i)(hl:SB' b s.heap l xs)(hx:xs[i]? = none)
  (q:∀h' e,Heap.ExtBut it s.heap h'->(∃o,h'.get? e=some o/\o.cls = .type "StopIteration")->E (.ref e) { s with heap:=h' }):rX (sh prog w) A (Builtin.SmallTypes.nextOf (.ref it)) Q E s:=by
 cases b
 ·exact fe hh hi hl hx q
 ·exact wpAny_nextOf_list_end hh hi hl hx q
theorem lK {c d:Bool}{z TI TO i1 i2 l1 l2:Addr}{k1 k2:Nat}{xs ys:Array rg}{x y a b:rg}{Q:rg->rj->Prop}(D:ZipApart z TI TO i1 i2 l1 l2)
  (hz:IsZip s.heap z TI TO .none) (hTI:IsPair s.heap TI (.ref i1) (.ref i2)) (hTO:IsPair s.heap TO a b)
  (j1:ItB c s.heap i1 l1 k1) (j2:ItB d s.heap i2 l2 k2) (m1:SB' c s.heap l1 xs) (m2:SB' d s.heap l2 ys) (hx:xs[k1]? = some x) (hy:ys[k2]? = some y)
  (hQ:∀h',IsZip h' z TI TO (wJ s.heap.objs.size)->IsPair h' TO x y->ItB c h' i1 l1 (k1+1)->ItB d h' i2 l2 (k2+1)->IsPair h' s.heap.objs.size x y->h'.objs.size=s.heap.objs.size+1 →
   (∀c o,c≠z->c≠TO->c≠i1->c≠i2->s.heap.get? c=some o->h'.get? c=some o)->Q (.ref s.heap.objs.size) { s with heap:=h' }) :
  rX (sh prog w) A (Builtin.«zip.__next__» ⟨[.ref z],[]⟩) (λfin s'=>∃v,fin = .done (.ret v)/\Q v s') E s:=by
 show rX _ _ (field (.ref z) 2 >>= _) _ _ _;refine rd (uz hz rfl (x :=.bool false) rfl ?_)
 show rX _ _ (field (.ref z) 3 >>= _) _ _ _;refine rd (uz hz rfl (x :=.ref TI) rfl ?_)
 refine rd (uf hTI rfl ?_);show rX _ _ (Builtin.SmallTypes.ownedTupleIsFree (.ref z) >>= _) _ _ _
 refine rd ?_;unfold Builtin.SmallTypes.ownedTupleIsFree
 refine rd (uz hz rfl (x :=.none) rfl (rp ?_));simp only[if_true]
 refine rd (vj ?_);refine rd (uz hz rfl (x :=.ref TO) rfl ?_)
 refine rd (tG hz (by simp) λg1 hz1 s1 =>?_);replace hz1:IsZip g1 z TI TO .ellipsis:=hz1
 refine rd ?_;simp only[xq,yY,xG,zg]
 refine rd (rd (xp ?_));show rX _ _ (Builtin.SmallTypes.nextOf (.ref i1) >>= _) _ _ _
 refine rd (mS (j1.to λo e=>s1.extBut _ _ D.i1z e) (m1.to λo e=>s1.extBut _ _ D.l1z e) hx λg2 j1' s2=>rp ?_)
 have t2:IsPair g2 TO a b:=s2.extBut _ _ D.TOi1 (s1.extBut _ _ D.TOz hTO)
 refine rd (uf t2 rfl ?_);refine rd (wk t2 λg3 t3 s3 =>?_)
 replace t3:IsPair g3 TO x b:=t3;refine rd (y6 (rp ?_))
 refine rd (rd (xp ?_));show rX _ _ (Builtin.SmallTypes.nextOf (.ref i2) >>= _) _ _ _
 refine rd (mS (((j2.to λo e=>s1.extBut _ _ D.i2z e).to λo e=>s2.extBut _ _ D.i12.symm e).to λo e=>s3.extBut _ _ D.TOi2.symm e) (((m2.to λo e=>s1.extBut _ _ D.l2z e).to λo e=>s2.extBut _ _ D.l2i1 e).to λo e=>s3.extBut _ _ D.l2TO e) hy λg4 j2' s4=>rp ?_)
 have t4:IsPair g4 TO x b:=s4.extBut _ _ D.TOi2 t3
 refine rd (uf t4 rfl ?_);refine rd (wk t4 λg5 t5 s5 =>?_)
 replace t5:IsPair g5 TO x y:=t5;refine rd (y6 (rp (rp ?_)))
 refine rd (uf t5 rfl ?_);refine rd (wpAny_newTuple ?_)
 have sz:g5.objs.size=s.heap.objs.size:=by rw[s5.1,s4.1,s3.1,s2.1,s1.1]
 have z5:IsZip g5 z TI TO .ellipsis:=s5.extBut _ _ D.TOz.symm (s4.extBut _ _ D.i2z.symm (s3.extBut _ _ D.TOz.symm (s2.extBut _ _ D.i1z.symm hz1)))
 have k5:∀c o,c≠z->c≠TO->c≠i1->c≠i2->s.heap.get? c=some o->g5.get? c=some o:=λc o c1 c2 c3 c4 e=>s5.extBut _ _ c2 (s4.extBut _ _ c4 (s3.extBut _ _ c2 (s2.extBut _ _ c3 (s1.extBut _ _ c1 e))))
 have n1:ItB c g5 i1 l1 (k1+1):=((j1'.to λo e=>s3.extBut _ _ D.TOi1.symm e).to λo e=>s4.extBut _ _ D.i12 e).to λo e=>s5.extBut _ _ D.TOi1.symm e
 have n2:ItB d g5 i2 l2 (k2+1):=j2'.to λo e=>s5.extBut _ _ D.TOi2.symm e
 have zl:z<g5.objs.size:=rB z5
 show rX _ _ (Builtin.SmallTypes.ownedTupleHandOut (.ref z) (.ref g5.objs.size) >>= _) _ _ _;refine rd ?_
 unfold Builtin.SmallTypes.ownedTupleHandOut
 have z6:IsZip (g5.push { cls :=.type "tuple",data :=.seq #[x,y] }) z TI TO .ellipsis:=rf _ z5
 refine rd (tG z6 (by simp) λg7 z7 s7 =>?_);replace z7:IsZip g7 z TI TO (wJ g5.objs.size):=z7
 refine tG z7 (by simp) λg8 z8 s8 =>?_;replace z8:IsZip g8 z TI TO (wJ g5.objs.size):=z8
 have up:∀c o,c≠z->g5.get? c=some o->g8.get? c=some o:=λc o c1 e=>s8.extBut _ _ c1 (s7.extBut _ _ c1 (rf _ e))
 have p8:IsPair g8 g5.objs.size x y:=s8.extBut _ _ (uU zl) (s7.extBut _ _ (uU zl) (rz _ rfl))
 have e8:g8.objs.size=g5.objs.size+1:=by rw[s8.1,s7.1,tR]
 rw[sz] at z8 p8 e8
 refine rp ⟨_,rfl,?_⟩;show Q (.ref g5.objs.size) _;rw[sz]
 exact hQ g8 z8 (up _ _ D.TOz t5) (n1.to λo e=>up _ o D.i1z e) (n2.to λo e=>up _ o D.i2z e) p8 e8 λc o c1 c2 c3 c4 e=>up c o c1 (k5 c o c1 c2 c3 c4 e)
theorem mT {c d:Bool}{z TI TO i1 i2 l1 l2:Addr}{k1 k2:Nat}{xs ys:Array rg}{a b:rg}{Q:Fin->rj->Prop}(hh:A.handled=none)(D:ZipApart z TI TO i1 i2 l1 l2)
  (hz:IsZip s.heap z TI TO .none) (hTI:IsPair s.heap TI (.ref i1) (.ref i2)) (hTO:IsPair s.heap TO a b)
  (j1:ItB c s.heap i1 l1 k1) (j2:ItB d s.heap i2 l2 k2) (m1:SB' c s.heap l1 xs) (m2:SB' d s.heap l2 ys) (hend:xs[k1]? = none\/ys[k2]? = none)
  (hE:∀h' e,(∀c o,c≠z->c≠TO->c≠i1->c≠i2->s.heap.get? c=some o->h'.get? c=some o)->(∃o,h'.get? e=some o/\o.cls = .type "StopIteration")->E (.ref e) { s with heap:=h' }) :
  rX (sh prog w) A (Builtin.«zip.__next__» ⟨[.ref z],[]⟩) Q E s:=by
 show rX _ _ (field (.ref z) 2 >>= _) _ _ _;refine rd (uz hz rfl (x :=.bool false) rfl ?_)
 show rX _ _ (field (.ref z) 3 >>= _) _ _ _;refine rd (uz hz rfl (x :=.ref TI) rfl ?_)
 refine rd (uf hTI rfl ?_);show rX _ _ (Builtin.SmallTypes.ownedTupleIsFree (.ref z) >>= _) _ _ _
 refine rd ?_;unfold Builtin.SmallTypes.ownedTupleIsFree
 refine rd (uz hz rfl (x :=.none) rfl (rp ?_));simp only[if_true]
 refine rd (vj ?_);refine rd (uz hz rfl (x :=.ref TO) rfl ?_)
 refine rd (tG hz (by simp) λg1 hz1 s1 =>?_);replace hz1:IsZip g1 z TI TO .ellipsis:=hz1
 refine rd ?_;simp only[xq,yY,xG,zg]
 refine rd (rd (xp ?_));show rX _ _ (Builtin.SmallTypes.nextOf (.ref i1) >>= _) _ _ _
 cases hx:xs[k1]? with
 | none =>
  refine rd (gA hh (j1.to λo e=>s1.extBut _ _ D.i1z e) (m1.to λo e=>s1.extBut _ _ D.l1z e) hx λg2 e s2 he =>?_)
  obtain ⟨oe,hoe,hce⟩:=he
  have z2:IsZip g2 z TI TO .ellipsis:=s2 _ _ D.i1z.symm hz1
  have hez:e≠z:=λx=>by subst x;rw[z2] at hoe;cases hoe;simp at hce
  refine tG z2 (by simp) λg3 _ s3=>hE g3 e (λc o c1 _ c3 _ x=>s3.extBut _ _ c1 (s2 _ _ c3 (s1.extBut _ _ c1 x))) ⟨oe,s3.extBut _ _ hez hoe,hce⟩
 | some x =>
  have hy:ys[k2]? = none:=by rcases hend with h | h;rw[hx] at h;cases h;exact h
  refine rd (mS (j1.to λo e=>s1.extBut _ _ D.i1z e) (m1.to λo e=>s1.extBut _ _ D.l1z e) hx λg2 j1' s2=>rp ?_)
  have t2:IsPair g2 TO a b:=s2.extBut _ _ D.TOi1 (s1.extBut _ _ D.TOz hTO)
  refine rd (uf t2 rfl ?_);refine rd (wk t2 λg3 t3 s3 =>?_)
  refine rd (y6 (rp ?_));refine rd (rd (xp ?_))
  show rX _ _ (Builtin.SmallTypes.nextOf (.ref i2) >>= _) _ _ _;refine rd (gA hh (((j2.to λo e=>s1.extBut _ _ D.i2z e).to λo e=>s2.extBut _ _ D.i12.symm e).to λo e=>s3.extBut _ _ D.TOi2.symm e) (((m2.to λo e=>s1.extBut _ _ D.l2z e).to λo e=>s2.extBut _ _ D.l2i1 e).to λo e=>s3.extBut _ _ D.l2TO e) hy λg4 e s4 he =>?_)
  obtain ⟨oe,hoe,hce⟩:=he
  have z4:IsZip g4 z TI TO .ellipsis:=s4 _ _ D.i2z.symm (s3.extBut _ _ D.TOz.symm (s2.extBut _ _ D.i1z.symm hz1))
  have hez:e≠z:=λx=>by subst x;rw[z4] at hoe;cases hoe;simp at hce
  refine tG z4 (by simp) λg5 _ s5=>hE g5 e (λc o c1 c2 c3 c4 x=>s5.extBut _ _ c1 (s4 _ _ c4 (s3.extBut _ _ c2 (s2.extBut _ _ c3 (s1.extBut _ _ c1 x))))) ⟨oe,s5.extBut _ _ hez hoe,hce⟩
theorem iP {c d:Bool}{z TI TO i1 i2 l1 l2:Addr}{k1 k2:Nat}{xs ys:Array rg}{x y a b:rg}{Q:Option rg->rj->Prop}(D:ZipApart z TI TO i1 i2 l1 l2)
  (hz:IsZip s.heap z TI TO .none) (hTI:IsPair s.heap TI (.ref i1) (.ref i2)) (hTO:IsPair s.heap TO a b)
  (j1:ItB c s.heap i1 l1 k1) (j2:ItB d s.heap i2 l2 k2) (m1:SB' c s.heap l1 xs) (m2:SB' d s.heap l2 ys) (hx:xs[k1]? = some x) (hy:ys[k2]? = some y)
  (hQ:∀h',IsZip h' z TI TO (wJ s.heap.objs.size)->IsPair h' TO x y->ItB c h' i1 l1 (k1+1)->ItB d h' i2 l2 (k2+1)->IsPair h' s.heap.objs.size x y->h'.objs.size=s.heap.objs.size+1 →
   (∀c o,c≠z->c≠TO->c≠i1->c≠i2->s.heap.get? c=some o->h'.get? c=some o)->Q (some (.ref s.heap.objs.size)) { s with heap:=h' }):rX (sh prog w) A (pyNext (.ref z)) Q E s:=by
 have hT:s.TypeIs (.ref z) "zip" :=⟨_,hz,rfl⟩
 unfold pyNext;exact rd (xo (uv (name:=Str.ofString "__next__") hT wz (uo wz hT yP (lK D hz hTI hTO j1 j2 m1 m2 hx hy λh' a1 a2 a3 a4 a5 a6 a7=>rp (hQ h' a1 a2 a3 a4 a5 a6 a7)) (yD _))))
theorem eF {c d:Bool}{z TI TO i1 i2 l1 l2:Addr}{k1 k2:Nat}{xs ys:Array rg}{a b:rg}{Q:Option rg->rj->Prop}(hh:A.handled=none)(D:ZipApart z TI TO i1 i2 l1 l2)
  (hz:IsZip s.heap z TI TO .none) (hTI:IsPair s.heap TI (.ref i1) (.ref i2)) (hTO:IsPair s.heap TO a b)
  (j1:ItB c s.heap i1 l1 k1) (j2:ItB d s.heap i2 l2 k2) (m1:SB' c s.heap l1 xs) (m2:SB' d s.heap l2 ys) (hend:xs[k1]? = none\/ys[k2]? = none)
  (hQ:∀h',(∀c o,c≠z->c≠TO->c≠i1->c≠i2->s.heap.get? c=some o->h'.get? c=some o)->Q none { s with heap:=h' }):rX (sh prog w) A (pyNext (.ref z)) Q E s:=by
 have hT:s.TypeIs (.ref z) "zip" :=⟨_,hz,rfl⟩
 unfold pyNext;refine rd (xo (uv (name:=Str.ofString "__next__") hT wz (uo wz hT yP (mT hh D hz hTI hTO j1 j2 m1 m2 hend λh' e hk he =>?_) (yD _))))
 obtain ⟨o,ho,hc⟩:=he
 refine rd (xv (T := "StopIteration") (b:=true) ⟨o,ho,hc⟩ isSubtype_stop ?_);exact rp (hQ _ hk)
def kq:Bool->String
 | true => "list_iterator"
 | false => "tuple_iterator"
def zB1 (c:Bool)(h:Heap)(l1:Addr):Heap:=h.push { cls :=.type (kq c),data :=.fields #[.ref l1,.int 0 0] }
def zB2 (c d:Bool)(h:Heap)(l1 l2:Addr):Heap:=(zB1 c h l1).push { cls :=.type (kq d),data :=.fields #[.ref l2,.int 0 0] }
def zB3 (c d:Bool)(h:Heap)(l1 l2:Addr):Heap:=(zB2 c d h l1 l2).push { cls :=.type "tuple",data :=.seq #[.ref h.objs.size,.ref (zB1 c h l1).objs.size] }
def zB4 (c d:Bool)(h:Heap)(l1 l2:Addr):Heap:=(zB3 c d h l1 l2).push { cls :=.type "tuple",data :=.seq #[.none,.none] }
def zB5 (c d:Bool)(h:Heap)(l1 l2:Addr):Heap:=(zB4 c d h l1 l2).push { cls :=.type "zip",data :=.fields #[.none,.bool false,.bool false,.ref (zB2 c d h l1 l2).objs.size,.ref (zB3 c d h l1 l2).objs.size] }
theorem oX {c:Bool}{l:Addr}{xs:Array rg}{Q:rg->rj->Prop}(hl:SB' c s.heap l xs)(q:Q (.ref s.heap.objs.size) { s with heap:=zB1 c s.heap l }):rX (sh prog w) A (pyIter (.ref l)) Q E s:=by
 cases c
 ·exact vM hl q
 ·exact vX hl q
theorem mU (c d:Bool)(l1 l2:Addr)(xs ys:Array rg):Meets (Builtin.«zip.__new__» ⟨[.type "zip",.ref l1,.ref l2],[]⟩) (λ_ R s=>SB' c s.heap l1 xs/\SB' d s.heap l2 ys ∧
   R (.ok (.ret (.ref (zB4 c d s.heap l1 l2).objs.size))) { s with heap:=zB5 c d s.heap l1 l2 }) :=
 .of_wp λprog w A R s h=>by
  obtain ⟨hp,g,dr,tk,os⟩:=s;obtain ⟨hl1,hl2,h⟩:=h
  have hsub:=sub_zip
  have m1:SB' c (Shared.heap ⟨hp,g,dr,tk,os⟩) l1 xs:=hl1
  have m2:SB' d (Shared.heap ⟨zB1 c hp l1,g,dr,tk,os⟩) l2 ys:=hl2.to λo e=>rf _ e
  wp_walk using oX m1,oX m2
  exact ⟨_,rfl,h⟩
theorem lL {c d:Bool}{l1 l2:Addr}{xs ys:Array rg}{Q:rg->rj->Prop}(m1:SB' c s.heap l1 xs)(m2:SB' d s.heap l2 ys)
  (h:∀h',IsZip h' (s.heap.objs.size+4) (s.heap.objs.size+2) (s.heap.objs.size+3) .none->IsPair h' (s.heap.objs.size+2) (.ref s.heap.objs.size) (.ref (s.heap.objs.size+1)) →
   IsPair h' (s.heap.objs.size+3) .none .none->ItB c h' s.heap.objs.size l1 0->ItB d h' (s.heap.objs.size+1) l2 0 →
   (∀c o,s.heap.get? c=some o->h'.get? c=some o)->Q (.ref (s.heap.objs.size+4)) { s with heap:=h' }):rX (sh prog w) A (call (.type "zip") [.ref l1,.ref l2]) Q E s:=by
 refine callType_new F.called_zip (by decide) (F.typeCall_zip_2 _ _) (F.newCall_zip_2 _ _) (λobj=>F.args_object_init_3 obj _ _) F.entry_zip_new (mU c d l1 l2 xs ys) ⟨m1,m2,?_⟩
 have z1:(zB1 c s.heap l1).objs.size=s.heap.objs.size+1:=tR ..
 have z2:(zB2 c d s.heap l1 l2).objs.size=s.heap.objs.size+2:=(tR ..).trans (by rw[z1])
 have z3:(zB3 c d s.heap l1 l2).objs.size=s.heap.objs.size+3:=(tR ..).trans (by rw[z2])
 have z4:(zB4 c d s.heap l1 l2).objs.size=s.heap.objs.size+4:=(tR ..).trans (by rw[z3])
 have g5:(zB5 c d s.heap l1 l2).get? (zB4 c d s.heap l1 l2).objs.size=some { cls :=.type "zip",data :=.fields #[.none,.bool false,.bool false,.ref (zB2 c d s.heap l1 l2).objs.size,.ref (zB3 c d s.heap l1 l2).objs.size] }:=rz _ rfl
 have g4:(zB5 c d s.heap l1 l2).get? (zB3 c d s.heap l1 l2).objs.size=some { cls :=.type "tuple",data :=.seq #[.none,.none] }:=rf _ (rz _ rfl)
 have g3:(zB5 c d s.heap l1 l2).get? (zB2 c d s.heap l1 l2).objs.size=some { cls :=.type "tuple",data :=.seq #[.ref s.heap.objs.size,.ref (zB1 c s.heap l1).objs.size] }:=rf _ (rf _ (rz _ rfl))
 have g2:(zB5 c d s.heap l1 l2).get? (zB1 c s.heap l1).objs.size=some { cls :=.type (kq d),data :=.fields #[.ref l2,.int 0 0] }:=rf _ (rf _ (rf _ (rz _ rfl)))
 have g1:(zB5 c d s.heap l1 l2).get? s.heap.objs.size=some { cls :=.type (kq c),data :=.fields #[.ref l1,.int 0 0] }:=rf _ (rf _ (rf _ (rf _ (rz _ rfl))))
 show _/\_
 rw[z2,z3,z4] at g5
 rw[z1,z2] at g3
 rw[z3] at g4
 rw[z1] at g2
 rw[z4]
 refine ⟨⟨_,g5,rfl⟩,h _ g5 g3 g4 ?_ ?_ λc' o x=>rf _ (rf _ (rf _ (rf _ (rf _ x))))⟩
 ·cases c
  ·exact ⟨_,g1,rfl,rfl⟩
  ·exact ⟨_,g1,rfl,rfl⟩
 ·cases d
  ·exact ⟨_,g2,rfl,rfl⟩
  ·exact ⟨_,g2,rfl,rfl⟩
end
def SqB (K:rk):Bool->Hp->Addr->List V->Prop
 | true,H,a,xs=>SqL K H a xs
 | false,H,a,xs=>SqT K H a xs
theorem SqB.row {X:Cx}{c:Bool}{pins:List (Addr×Obj)}{σ:St}{H:Hp}{s:rj}(I:Inv X pins σ H s){a:Addr}{xs:List V}(h:SqB X.K c H a xs):∃its:List rg,Vals xs its/\SB' c s.heap a its.toArray:=by
 cases c
 ·obtain ⟨its,r,p,_⟩:=I.tuple (show SqT X.K H a xs from h);exact ⟨its,r,p⟩
 ·obtain ⟨its,r,p,_⟩:=I.list (show SqL X.K H a xs from h);exact ⟨its,r,p.isList⟩
theorem SB'.lt {c:Bool}{h:Heap}{l:Addr}{xs:Array rg}(x:SB' c h l xs):l<h.objs.size:=by
 cases c
 ·obtain ⟨o,e,_⟩:=(show h.IsTuple l xs from x);exact rB e
 ·obtain ⟨o,e,_⟩:=(show h.IsList l xs from x);exact rB e
theorem SqB.inj {X:Cx}{c:Bool}{pins:List (Addr×Obj)}{σ:St}{H:Hp}{s:rj}(I:Inv X pins σ H s){a:Addr}{xs ys:List V}(h:SqB X.K c H a xs)(g:SqB X.K c H a ys):xs=ys:=by
 cases c
 ·exact I.f6 h g
 ·exact I.ig h g
def ItZ (K:rk)(c d:Bool)(a b:Addr):It :=
 ⟨λi H=>∃xs ys u v,SqB K c H a xs/\SqB K d H b ys/\xs[i]? = some u/\ys[i]? = some v,λi H x H'=>∃T u v,H T=none/\x = .ref T/\H'=upd H T (.tup [u,v])/\(∀xs,SqB K c H a xs->xs[i]? = some u)/\∀ys,SqB K d H b ys->ys[i]? = some v,λi H=>∃xs ys,SqB K c H a xs/\SqB K d H b ys/\(xs.length<=i\/ys.length<=i)⟩
theorem lM {P:rO}{w:sC}{K:rk}{elts:List Expr}{k:Nat}{pos:Pos}(c d:Bool)(a b z TI TO i1 i2:Addr)(D:ZipApart z TI TO i1 i2 a b):Turn P w K (.Tuple elts k pos) (ItZ K c d a b) [z,TI,TO,i1,i2] z (λi h=>IsZip h z TI TO .none/\IsPair h TI (.ref i1) (.ref i2)/\(∃x y,IsPair h TO x y)/\ItB c h i1 a i/\ItB d h i2 b i) where
 mem:=by simp
 obj:=λi h ⟨hz,hI,⟨x,y,hO⟩,h1,h2⟩ e he=>by
  have he':e=z\/e=TI\/e=TO\/e=i1\/e=i2:=by simpa using he
  rcases he' with q | q | q | q | q
  ·subst q;exact ⟨_,hz,λv z=>nomatch z⟩
  ·subst q;exact ⟨_,hI,λv z=>nomatch z⟩
  ·subst q;exact ⟨_,hO,λv z=>nomatch z⟩
  ·subst q;exact h1.obj
  ·subst q;exact h2.obj
 keep:=λi h h' ⟨hz,hI,⟨x,y,hO⟩,h1,h2⟩ kp=>⟨kp z (by simp) _ hz,kp TI (by simp) _ hI,⟨x,y,kp TO (by simp) _ hO⟩,h1.to λo e=>kp i1 (by simp) o e,h2.to λo e=>kp i2 (by simp) o e⟩
 item:=λX eP eW eK hcalm i pins s σ H E I f ⟨hz,hI,⟨x,y,hO⟩,h1,h2⟩ go=>by
  subst eP eW eK
  obtain ⟨xs,ys,u,v,ha,hb,hu,hv⟩:=go
  obtain ⟨its,r,pl⟩:=SqB.row I ha
  obtain ⟨jts,r',pl'⟩:=SqB.row I hb
  obtain ⟨u',eu,ru⟩:=r.get hu
  obtain ⟨v',ev,rv⟩:=r'.get hv
  refine iP D hz hI hO h1 h2 pl pl' (x:=u') (y:=v') (by rw[sF];exact eu) (by rw[sF];exact ev) λh' o1 o2 o3 o4 o5 o6 kp =>?_
  refine ⟨_,rfl,?_⟩
  refine wpAny_letOwnedTupleGo_zip o1 λh2' e2 sb =>?_
  have ez:z≠s.heap.objs.size:=rQ (rB hz)
  have lt:∀e∈[z,TI,TO,i1,i2],e≠s.heap.objs.size:=λe he=>by
   have he':e=z\/e=TI\/e=TO\/e=i1\/e=i2:=by simpa using he
   rcases he' with q | q | q | q | q
   ·rw[q];exact ez
   ·rw[q];exact rQ (rB hI)
   ·rw[q];exact rQ (rB hO)
   ·rw[q];exact rQ h1.lt
   ·rw[q];exact rQ h2.lt
  have kp2:∀e ob,e∉[z,TI,TO,i1,i2]->s.heap.get? e=some ob->h2'.get? e=some ob:=λe ob he eb=>by
   have n1:e≠z:=λq=>he (by simp[q])
   have n2:e≠TO:=λq=>he (by simp[q])
   have n3:e≠i1:=λq=>he (by simp[q])
   have n4:e≠i2:=λq=>he (by simp[q])
   rw[sb.2 e n1];exact kp e ob n1 n2 n3 n4 eb
  have j1:ItB c h2' i1 a (i+1):=o3.to λob eb=>by rw[sb.2 i1 D.i1z];exact eb
  have j2:ItB d h2' i2 b (i+1):=o4.to λob eb=>by rw[sb.2 i2 D.i2z];exact eb
  have jI:IsPair h2' TI (.ref i1) (.ref i2):=by
   show h2'.get? TI=_
   rw[sb.2 TI D.TIz]
   exact kp TI _ D.TIz D.TITO D.TIi1 D.TIi2 hI
  have jO:IsPair h2' TO u' v':=by
   show h2'.get? TO=_
   rw[sb.2 TO D.TOz]
   exact o2
  have tp:h2'.get? s.heap.objs.size=some { cls :=.type "tuple",data :=.seq #[u',v'] }:=by rw[sb.2 _ (vy ez)];exact o5
  refine ⟨.ref s.heap.objs.size,upd H s.heap.objs.size (.tup [u,v]),I.jb (ch:=[z,TI,TO,i1,i2]) f kp2 (λe he =>?_) (rA _) ?_,rfl,⟨s.heap.objs.size,u,v,I.hok.fresh (rA _),rfl,rfl,λzs hy =>?_,λzs hy =>?_⟩,⟨e2,jI,⟨_,_,jO⟩,j1,j2⟩,λe he =>?_⟩
  ·have he':e=z\/e=TI\/e=TO\/e=i1\/e=i2:=by simpa using he
   rcases he' with q | q | q | q | q
   ·rw[q];exact ⟨_,e2⟩
   ·rw[q];exact ⟨_,jI⟩
   ·rw[q];exact ⟨_,jO⟩
   ·rw[q];obtain ⟨o,ho,_⟩:=j1.obj;exact ⟨o,ho⟩
   ·rw[q];obtain ⟨o,ho,_⟩:=j2.obj;exact ⟨o,ho⟩
  ·refine ⟨(by show 2<=rN;decide),[u',v'],.cons ru (.cons rv .nil),_,tp,⟨rfl,rfl⟩,_,rfl⟩
  ·rw[SqB.inj I hy ha];exact hu
  ·rw[SqB.inj I hy hb];exact hv
  ·rw[au (lt e he)];exact (f e he).1
 done:=λX eP eW eK hcalm i pins s σ H E I f ⟨hz,hI,⟨x,y,hO⟩,h1,h2⟩ stop=>by
  subst eP eW eK
  obtain ⟨xs,ys,ha,hb,hl⟩:=stop
  obtain ⟨its,r,pl⟩:=SqB.row I ha
  obtain ⟨jts,r',pl'⟩:=SqB.row I hb
  have l:=r.length
  have l':=r'.length
  refine eF (I.ok.hd hcalm) D hz hI hO h1 h2 pl pl' (hl.imp (λ_=>by rw[sF];exact wO.mpr (by omega)) (λ_=>by rw[sF];exact wO.mpr (by omega))) λh' ex=>⟨rfl,?_⟩
  exact I.lI (ch:=[z,TI,TO,i1,i2]) (h':=h') (t':=s.toks) f λe o he eb=>ex e o (λq=>he (by simp[q])) (λq=>he (by simp[q])) (λq=>he (by simp[q])) (λq=>he (by simp[q])) eb
 self:=λA i s Q E ⟨hz,_⟩ q=>wpAny_pyIter_zip hz q
def qX (K:rk)(c d:Bool)(ta:TA):TI:=λσ H R=>ta σ H λvs H1=>∃a b,vs=[.ref a,.ref b]/\(∃xs,SqB K c H1 a xs)/\(∃ys,SqB K d H1 b ys)/\R (ItZ K c d a b) H1
theorem om {X:Cx}(c d:Bool){a b:Expr}{ta:TA}{p pos pos':Pos}{elts:List Expr}{k:Nat}(hg:Gl X "zip")(hm:X.mg "zip" = none)(ha:PA X [a,b] ta)(hs:sU [a,b] X.env=[(false,eval a X.env),(false,eval b X.env)]:=by rfl)(hs2:sU [b] X.env=[(false,eval b X.env)]:=by rfl) :
  PI X (.Tuple elts k pos') (.Call (.Name "zip" p) [a,b] [] pos) (qX X.K c d ta):=by
 intro pins s σ H R I h
 refine Call_ (eN I hg hm boot_zip (va (thn (ha pos pins s σ H _ I h) λus s1 ⟨vs,H1,I1,r1,q1⟩ =>?_) (by rw[hs,hs2]) (by rw[hs2];rfl)))
 obtain ⟨l1,l2,e,⟨xs,hx⟩,⟨ys,hy⟩,q⟩:=q1
 subst e
 cases r1 with
 | cons r rr =>
  cases rr with
  | cons r' rr =>
   cases rr
   cases r
   cases r'
   have fp:∀b∈[s1.heap.objs.size+4,s1.heap.objs.size+2,s1.heap.objs.size+3,s1.heap.objs.size,s1.heap.objs.size+1],eD X pins H1 b:=λb hb=>by
    have ge:s1.heap.objs.size<=b:=by
     simp at hb
     omega
    exact I1.l6 ge (I1.hok.fresh ge)
   obtain ⟨its,rv,pl⟩:=SqB.row I1 hx
   obtain ⟨jts,rv',pl'⟩:=SqB.row I1 hy
   have D:=ql _ _ _ pl.lt pl'.lt
   refine lL pl pl' λh' hz hI hO h1 h2 kp =>?_
   have T:=lM (P:=X.prog) (w:=X.w) (K:=X.K) (elts:=elts) (k:=k) (pos:=pos') c d l1 l2 _ _ _ _ _ D
   refine T.self _ 0 _ _ _ ⟨hz,hI,⟨_,_,hO⟩,h1,h2⟩ ?_
   exact ⟨_,_,_,_,H1,rfl,I1.kept (t':=s1.toks) kp,T,⟨hz,hI,⟨_,_,hO⟩,h1,h2⟩,fp,q⟩
theorem qY {K:rk}{c d:Bool}{a b:Addr}{xs ys:List V}{k l:Nat}{tc:TT}{te:TE}{τ:St}{H:Hp}{Q:VK}(n:Nat)(n1:n<=xs.length)(n2:n<=ys.length)(n3:n=xs.length\/n=ys.length)(Pv:Nat->List V->Hp->Prop)(hkl:k≠l)(h0:Pv 0 [] H)(hz:n<=rN)
  (hl:∀i zs H,i<=n->Pv i zs H->SqB K c H a xs/\SqB K d H b ys)
  (hs:∀i x y zs H T,xs[i]? = some x->ys[i]? = some y->zs.length<=i->H T=none->Pv i zs H->qW k l tc te τ Pv i x y zs (upd H T (.tup [x,y])))
  (hd:∀zs H,zs.length<=n->Pv n zs H->∀r,H r=none->Q (.ref r) (upd H r (.lst zs))):j4 (ItZ K c d a b) (oU K k l) tc te τ Q H:=by
 refine ⟨λi m σ zs H=>m=n-i/\i<=n/\(∀a b,(σ.set k (some a)).set l (some b)=(τ.set k (some a)).set l (some b))/\zs.length<=i/\Pv i zs H,⟨n,by simp,sM _,λ_ _=>rfl,rA _,h0⟩,?_⟩
 rintro i m σ zs H ⟨rfl,hi,hτ,hy,pv⟩
 obtain ⟨q1,q2⟩:=hl i zs H hi pv
 by_cases hlt:i<n
 ·refine .inr ⟨⟨xs,ys,xs[i]'(by omega),ys[i]'(by omega),q1,q2,by simp[show i<xs.length by omega],by simp[show i<ys.length by omega]⟩,λx H' y =>?_⟩
  obtain ⟨T,u,v,hT,ex,eH,hu,hv⟩:=y
  subst ex eH
  refine ⟨T,_,rfl,SqT.of ag,rfl,_,_,rfl,_,_,rfl,rfl,?_⟩
  rw[hτ]
  have hσ:∀a b,((((τ.set k (some u)).set l (some v)).set k (some a)).set l (some b))=(τ.set k (some a)).set l (some b):=λa b=>by
   rw[List.set_comm _ _ (vy hkl),xI,xI]
  refine hs i u v zs _ T (hu xs q1) (hv ys q2) hy hT pv _ _ (λy4 H4 p4=>⟨by omega,n-(i+1),by omega,rfl,hlt,hσ,by rw[rC,sL];omega,p4⟩) λH3 p3=>⟨n-(i+1),by omega,rfl,hlt,hσ,by omega,p3⟩
 ·have e:i=n:=by omega
  subst e
  exact .inl ⟨⟨xs,ys,q1,q2,n3.elim (λz =>.inl (by omega)) (λz =>.inr (by omega))⟩,by omega,hd zs H hy pv⟩
open PySem PySem.Spec PyProof.Rows Builtin Builtin.Str
theorem iQ:∀{ws:List Str} {us:List rg},Vals (ws.map V.str) us->∃l:List (Str×Tok),us=strValues l/\l.map (·.1)=ws
 | [],_,r=>by cases r;exact ⟨[],rfl,rfl⟩
 | w :: ws,_,r=>by
  cases r with
  | cons h t =>
   obtain ⟨l,rfl,e⟩:=iQ t
   obtain ⟨tk,rfl⟩:=h
   exact ⟨(w,tk) :: l,rfl,by rw[sI,e]⟩
theorem gB:∀l:List (Str×Tok),Vals ((l.map (·.1)).map V.str) (strValues l)
 | [] =>.nil
 | p :: l =>.cons ⟨p.2,rfl⟩ (gB l)
section
variable  {X:Cx}
def tBMS (r:V->List V->Hp->VK->Prop)(to:TE)(t:TA):TE:=λσ H Q=>to σ H λx H1=>(∃z,x = .str z)/\t σ H1 λxs H2=>r x xs H2 Q
theorem fv {o e:Expr}{es:List Expr}{to:TE}{t:TA}{name:Str}{apos cpos:Pos}{id:String}{r:V->List V->Hp->VK->Prop}(slot:Slot "str" name id)(hty:typeOf (.builtin id)=pure (.type "method_descriptor"))(hm:MtR X id r)(ho:PE X o to)(ha:PA X (e :: es) t)
  (hbase:attributeBase o name X.env (eval o X.env)=eval o X.env:=by rfl)
  (hfew:((xw cpos (sU (e :: es) X.env)).all (λx => !x.1) && (backToKw cpos (keywordEach [] X.env)).all (λx=>x.1.isSome)
   && decide ((e :: es).length+([]:List Keyword).length+(if ([]:List Keyword).isEmpty then 0 else 1)<30))=true:=by rfl)
  (hline:(apos.endLine == cpos.line)=true:=by rfl) (hs:sU (e :: es) X.env=(false,eval e X.env) :: sU es X.env:=by rfl) (hplain:(xw cpos (sU es X.env)).any (·.1)=false:=by rfl) :
  PE X (.Call (.Attribute o name apos) (e :: es) [] cpos) (tBMS r to t):=by
 intro pins s σ H Q I h
 refine xE hbase hfew hline rfl (thn (ho pins s σ H _ I h) λv s1 ⟨x,H1,I1,r1,ty,q1⟩ =>?_)
 obtain ⟨z,rfl⟩:=ty
 obtain ⟨tk,rfl⟩:=r1
 refine ⟨"str",id,PySem.F.plainAttrs_str,slot,hty,w5 _ _ _,(λa e=>nomatch e),?_⟩
 have hA:=ha cpos pins s1 σ H1 _ I1 q1
 rw[hs] at hA ⊢
 refine xy (by show (false || (xw cpos (sU es X.env)).any (·.1))=false;rw[hplain] <;> rfl) (x4 ?_)
 exact thn hA λus s2 ⟨vs,H2,I2,r2,q2⟩=>hm pins s2 σ H2 (.str z) vs _ us Q I2 ⟨_,rfl⟩ r2 q2
theorem lN:MtR X "str.startswith" (λx vs H Q=>∃y z,x = .str y/\vs=[.str z]/\Q (.bl (Txt.startswith y z)) H):=by
 intro pins s σ H x vs v us Q I rx rv h
 obtain ⟨y,z,rfl,rfl,q⟩:=h
 obtain ⟨t1,rfl⟩:=rx
 obtain ⟨u,rfl,⟨t2,rfl⟩⟩:=vals1 rv
 exact SC.startswith ⟨.bl _,H,I,rfl,q⟩
theorem kr:MtR X "str.join" (λx vs H Q=>∃(z:Str) (p:Addr) (ws:List Str),x = .str z/\vs=[.ref p]/\SqL X.K H p (ws.map V.str)/\JoinOk z ws=true/\Q (.str (Txt.join z ws)) H):=by
 intro pins s σ H x vs v us Q I rx rv h
 obtain ⟨z,p,ws,rfl,rfl,hp,jo,q⟩:=h
 obtain ⟨t1,rfl⟩:=rx
 obtain ⟨u,rfl,ru⟩:=vals1 rv
 cases (show u=si p from ru)
 obtain ⟨its,r,pl,_⟩:=I.list hp
 obtain ⟨l,rfl,e⟩:=iQ r
 exact SC.join pl.isList e jo λt' k=>⟨.str _,H,I.tok _,⟨_,rfl⟩,q⟩
def parted (y z:Str):List Str:=match occurrences y z 0 y.length 1 with
 | i :: _=>[strSub y 0 i,z,strSub y (i+z.length) y.length]
 | []=>[y,Str.empty,Str.empty]
theorem gY:MtR X "str.partition" (λx vs H Q=>∃y z:Str,x = .str y/\vs=[.str z]/\(z.length == 0)=false/\y.length<=rN/\∀p,H p=none->Q (.ref p) (upd H p (.tup ((parted y z).map V.str)))):=by
 intro pins s σ H x vs v us Q I rx rv h
 obtain ⟨y,z,rfl,rfl,hz,hy,q⟩:=h
 obtain ⟨t1,rfl⟩:=rx
 obtain ⟨u,rfl,⟨t2,rfl⟩⟩:=vals1 rv
 refine xY F.slot_str_partition (w5 _ _ _) F.entry_str_partition (F.args_str_partition_2 _ _) (meets_str_partition y z t1 t2 hz hy) ?_
 have q:=q _ (I.hok.fresh (rA s.heap.objs.size))
 unfold parted at q
 have new:∀(a b c:rg) (x y z:Str) (tk:Nat),RelV (.str x) a->RelV (.str y) b->RelV (.str z) c->Inv X pins σ (upd H s.heap.objs.size (.tup [.str x,.str y,.str z])) { s with heap:=s.heap.push { cls :=.type "tuple",data :=.seq [a,b,c].toArray },toks:=tk }:=λa b c x y z tk ra rb rc =>
  I.laid (λ_ _ e=>rf _ e) (rA _) ⟨by show 3<=rN;decide,[a,b,c],.cons ra (.cons rb (.cons rc .nil)),_,rz _ rfl,⟨rfl,rfl⟩,_,rfl⟩
 cases h:occurrences y z 0 y.length 1 with
 | nil =>
  rw[h] at q
  exact ⟨.ref _,_,new _ _ _ _ _ _ _ ⟨_,rfl⟩ ⟨_,rfl⟩ ⟨_,rfl⟩,rfl,q⟩
 | cons i r =>
  rw[h] at q
  exact ⟨.ref _,_,new _ _ _ _ _ _ _ ⟨_,rfl⟩ ⟨_,rfl⟩ ⟨_,rfl⟩,rfl,q⟩
theorem mV:MtR X "str.split" (λx vs H Q=>∃y z:Str,x = .str y/\vs=[.str z]/\(z.length == 0)=false/\y.length<=rN/\(partsBetween y (occurrences y z 0 y.length (y.length+1)) z.length).length<=rN/\∀p,H p=none->Q (.ref p) (upd H p (.lst ((Txt.split y z).map V.str)))):=by
 intro pins s σ H x vs v us Q I rx rv h
 obtain ⟨y,z,rfl,rfl,hz,hy,hn,q⟩:=h
 obtain ⟨t1,rfl⟩:=rx
 obtain ⟨u,rfl,⟨t2,rfl⟩⟩:=vals1 rv
 have q:=q _ (I.hok.fresh (rA s.heap.objs.size))
 have new:∀(l:List (Str×Tok)) (tk:Nat),l.length<=rN->l.map (·.1)=Txt.split y z->EP X pins σ Q (.ref s.heap.objs.size) { s with heap:=s.heap.push { cls :=.type "list",data :=.seq (strValues l).toArray },toks:=tk }:=λl tk hl e =>
  ⟨.ref _,_,I.laid (o :=.lst ((Txt.split y z).map V.str)) (λ_ _ e=>rf _ e) (rA _) ⟨by rw[<- e,rn,rn];exact hl,strValues l,_,by rw[<- e];exact gB l,rz _ rfl⟩,rfl,q⟩
 cases h1:(decide (y.length<z.length) || decide (strKind y<strKind z)) with
 | true=>exact xY u6 (w5 _ _ _) vL (vF _ _) (meets_str_split_cannot_occur y z t1 t2 h1) (new [(y,t1)] _ (by show 1<=rN;decide) (if_pos h1).symm)
 | false =>
  cases hf:(occurrences y z 0 y.length (y.length+1)).isEmpty with
  | true=>exact xY u6 (w5 _ _ _) vL (vF _ _) (meets_str_split_not_found y z t1 t2 h1 hz hf) (new [(y,t1)] _ (by show 1<=rN;decide) ((if_neg (by rw[h1];decide)).trans (if_pos hf)).symm)
  | false =>
   refine xY u6 (w5 _ _ _) vL (vF _ _) (meets_str_split_sep y z t1 t2 h1 hz hf hy hn) ?_
   have k:=new (numbered s.toks (partsBetween y (occurrences y z 0 y.length (y.length+1)) z.length)) (s.toks+(partsBetween y (occurrences y z 0 y.length (y.length+1)) z.length).length) (by rw[<- rn (f:=(·.1)),numbered_texts];exact hn) ((numbered_texts _ _).trans ((if_neg (by rw[h1];decide)).trans (if_neg (by rw[hf];decide))).symm)
   rw[<- strsFrom_eq] at k
   exact k
end
open PySem PySem.Spec PyProof.Rows Builtin Builtin.Str
section
variable  {X:Cx}
def shown:V->Option Str
 | .str z=>some z
 | .int i=>if i.natAbs.log2<1920 then some (toString i) else none
 | _=>none
def qo (t:TE):TE:=λσ H Q=>t σ H λx H1=>∃z,shown x=some z/\z.length<=rN/\Q (.str z) H1
theorem cK {e:Expr}{t:TE}{pos:Pos}(h:PE X e t):PE X (.FormattedValue e (-1) none pos) (qo t):=by
 intro pins s σ H Q I q
 refine wpAny_FormattedValue_plain (thn (h pins s σ H _ I q) λv s1 p1 =>?_)
 obtain ⟨x,H1,I1,r1,z,ez,lz,q1⟩:=p1
 cases x with
 | str y =>
  cases (r9 ez:y=z)
  obtain ⟨tk,rfl⟩:=r1
  exact wpAny_formatField_str (hx:=lz) ⟨.str _,H1,I1,⟨_,rfl⟩,q1⟩ ⟨.str _,H1,I1.tok _,⟨_,rfl⟩,q1⟩
 | int i =>
  by_cases hl:i.natAbs.log2<1920
  ·have e:=(if_pos hl).symm.trans ez
   cases (r9 e)
   obtain ⟨tk,rfl⟩:=r1
   exact wpAny_formatField_int hl ⟨.str _,H1,I1.tok _,⟨_,rfl⟩,q1⟩
  ·cases (if_neg hl).symm.trans ez
 | non=>cases ez
 | bl b=>cases ez
 | byt b=>cases ez
 | flt b=>cases ez
 | ref a=>cases ez
 | ty n=>cases ez
def mW:List TE->Str->TE
 | [],acc,_,H,Q=>acc.length<=rN/\Q (.str acc) H
 | t :: ts,acc,σ,H,Q=>t σ H λx H1=>∃y,x = .str y/\(acc++y).length<=rN/\mW ts (acc++y) σ H1 Q
def PFs (X:Cx):List Expr->List TE->Prop
 | [],[]=>True
 | e :: es,t :: ts=>PE X e t/\PFs X es ts
 | _,_=>False
theorem ku:PFs X [] []:=trivial
theorem cn {e:Expr}{es:List Expr}{t:TE}{ts:List TE}(h:PE X e t)(hs:PFs X es ts):PFs X (e :: es) (t :: ts):=⟨h,hs⟩
theorem iR {pins:List (Addr×Obj)}{σ:St}{Q:VK}:∀{es:List Expr} {ts:List TE} {acc:Str} {H:Hp} {s:rj},PFs X es ts->Inv X pins σ H s->mW ts acc σ H Q->Joins (sh X.prog X.w) X.A X.xe (evalEach es X.env) acc (λout s1=>out.length<=rN/\EP X pins σ Q (.str out s1.toks) { s1 with toks:=s1.toks+1 }) s
 | [],[],acc,H,s,_,I,q=>⟨q.1,.str acc,H,I.tok _,⟨_,rfl⟩,q.2⟩
 | e :: es,t :: ts,acc,H,s,p,I,q=>thn (p.1 pins s σ H _ I q) λv s1 z=>by
  obtain ⟨x,H1,I1,r1,y,rfl,hl,q1⟩:=z
  obtain ⟨tk,rfl⟩:=r1
  exact ⟨y,tk,rfl,hl,iR p.2 I1 q1⟩
 | [],_ :: _,_,_,_,p,_,_=>p.elim
 | _ :: _,[],_,_,_,p,_,_=>p.elim
theorem kv {e1 e2:Expr}{es:List Expr}{ts:List TE}{pos:Pos}(h:PFs X (e1 :: e2 :: es) ts):PE X (.JoinedStr (e1 :: e2 :: es) pos) (mW ts Str.empty):=λpins s σ H Q I q=>wpAny_JoinedStr (iR h I q)
end
open PySem PySem.Spec PyProof.Rows Builtin Builtin.Str
def Its (z:Str):It:=⟨λi _=>i<z.cps.size,λi H x H'=>H'=H/\∃c,z.cps[i]? = some c/\x = .str ⟨#[c]⟩,λi _=>z.cps.size<=i⟩
theorem mX {P:rO}{w:sC}{K:rk}{tg:Expr}{z:Str}{tk:Tok}(it:Addr):Turn P w K tg (Its z) [it] it (λi h=>h.IsStrIter it (strIterType z) z tk i) where
 mem:=by simp
 obj:=λi h st b hb=>by
  obtain rfl:b=it:=by simpa using hb
  obtain ⟨o,e,c,d⟩:=st
  exact ⟨o,e,λv z=>by rw[d] at z;cases z⟩
 keep:=λi h h' st k=>by
  obtain ⟨o,e,r⟩:=st
  exact ⟨o,k it (by simp) o e,r⟩
 item:=by
  intro X hP hw hK hcl i pins s σ H E I hf st hg
  subst hP hw hK
  obtain ⟨f0,f1,f2,f3,f4,f5⟩:=hf it (by simp)
  have ec:z.cps[i]? = some z.cps[i]:=rP hg
  have go:∀h':Heap,h'.IsStrIter it (strIterType z) z tk (i+1)->Heap.SameBut it s.heap h'->∃u,some (Value.str ⟨#[z.cps[i]]⟩ s.toks)=some u/\rX (sh X.prog X.w) X.A (letOwnedTupleGo tg (.ref it) u) (λ_ s2=>∃x H',Inv X pins σ H' s2/\RelV x u/\(Its z).yld i H x H'/\s2.heap.IsStrIter it (strIterType z) z tk (i+1)/\∀b∈[it],H' b=none) E { s with heap:=h',toks:=s.toks+1 }:=λh' st' sb=>by
   have I1:Inv X pins σ H { s with heap:=h',toks:=s.toks+1 }:=I.turned (t':=s.toks+1) (λb o hb e=>(sb.2 b hb).trans e) f0 f1 f3 f4 f5
   obtain ⟨o,e,c,dd⟩:=id st'
   refine ⟨_,rfl,jN (s:={ s with heap:=h',toks:=s.toks+1 }) e c dd ?_ ⟨.str ⟨#[z.cps[i]]⟩,H,I1,⟨_,rfl⟩,⟨rfl,_,ec,rfl⟩,st',λb hb=>(hf b hb).1⟩⟩
   unfold strIterType
   split <;> decide
  cases ha:z.cps.all (· < 128) with
  | true =>
   have et:strIterType z = "str_ascii_iterator" := by simp[strIterType,ha]
   rw[et] at st go ⊢
   exact wpAny_pyNext_ascii_item st ec λh' st' sb=>go h' st' sb
  | false =>
   have et:strIterType z = "str_iterator" := by simp[strIterType,ha]
   rw[et] at st go ⊢
   exact wpAny_pyNext_wide_item st ec λh' st' sb=>go h' st' sb
 done:=by
  intro X hP hw hK hcl i pins s σ H E I hf st hg
  subst hP hw hK
  obtain ⟨f0,f1,f2,f3,f4,f5⟩:=hf it (by simp)
  cases ha:z.cps.all (· < 128) with
  | true =>
   have et:strIterType z = "str_ascii_iterator" := by simp[strIterType,ha]
   rw[et] at st
   exact wpAny_pyNext_ascii_end (I.ok.hd hcl) st (t7 hg) λh' eb=>⟨rfl,I.turned (t':=s.toks) (λb o hb e=>eb b o hb e) f0 f1 f3 f4 f5⟩
  | false =>
   have et:strIterType z = "str_iterator" := by simp[strIterType,ha]
   rw[et] at st
   exact wpAny_pyNext_wide_end (I.ok.hd hcl) st (t7 hg) λh' eb=>⟨rfl,I.turned (t':=s.toks) (λb o hb e=>eb b o hb e) f0 f1 f3 f4 f5⟩
 self:=λA i s Q E st h=>by
  cases ha:z.cps.all (· < 128) with
  | true =>
   have et:strIterType z = "str_ascii_iterator" := by simp[strIterType,ha]
   rw[et] at st
   exact wpAny_pyIter_striter_ascii st h
  | false =>
   have et:strIterType z = "str_iterator" := by simp[strIterType,ha]
   rw[et] at st
   exact wpAny_pyIter_striter_wide st h
def iStr (tl:TE):TI:=λσ H R=>tl σ H λx H1=>∃z,x = .str z/\R (Its z) H1
theorem qp {X:Cx}{tg l:Expr}{tl:TE}(hl:PE X l tl):PI X tg l (iStr tl):=by
 intro pins s σ H R I h
 refine thn (hl pins s σ H _ I h) λv s1 p1 =>?_
 obtain ⟨_,H1,I1,r1,z,rfl,q⟩:=p1
 obtain ⟨tk,rfl⟩:=r1
 refine wpAny_pyIter_strU ⟨s1.heap.objs.size,[s1.heap.objs.size],_,_,_,rfl,I1.kept (t':=s1.toks) λb o e=>rf _ e,mX (tk:=tk) _,⟨_,rz _ rfl,rfl,rfl⟩,λb hb =>?_,q⟩
 obtain rfl:b=s1.heap.objs.size:=by simpa using hb
 exact I1.l6 (rA _) (I1.hok.fresh (rA _))
theorem lO {z:Str}{k:Nat}{tc:TT}{te:TE}{τ:St}{H:Hp}{Q:VK}(Pv:Nat->List V->Hp->Prop)(h0:Pv 0 [] H)(hz:z.cps.size<=rN)
  (hs:∀i c ys H,z.cps[i]? = some c->ys.length<=i->Pv i ys H->oT k tc te τ Pv i (.str ⟨#[c]⟩) ys H)
  (hd:∀ys H,ys.length<=z.cps.size->Pv z.cps.size ys H->∀l,H l=none->Q (.ref l) (upd H l (.lst ys))) :
  j4 (Its z) (f7 k) tc te τ Q H:=by
 refine ⟨λi m σ ys H=>m=z.cps.size-i/\i<=z.cps.size/\(∀x,σ.set k (some x)=τ.set k (some x))/\ys.length<=i/\Pv i ys H,⟨z.cps.size,by simp,sM _,λ_=>rfl,rA _,h0⟩,?_⟩
 rintro i m σ ys H ⟨rfl,hi,hτ,hy,p⟩
 by_cases hlt:i<z.cps.size
 ·refine .inr ⟨hlt,λx H' y =>?_⟩
  obtain ⟨e,c,hc,rfl⟩:=y
  subst e
  show tc (σ.set k (some _)) _ _
  rw[hτ (.str ⟨#[c]⟩)]
  have hσ:∀v,(τ.set k (some (.str ⟨#[c]⟩))).set k (some v)=τ.set k (some v):=λv=>by rw[xI]
  refine hs i c ys _ hc hy p _ _ (λy4 H4 p4=>⟨by omega,z.cps.size-(i+1),by omega,rfl,hlt,hσ,by rw[rC,sL];omega,p4⟩) λH3 p3=>⟨z.cps.size-(i+1),by omega,rfl,hlt,hσ,by omega,p3⟩
 ·obtain rfl:i=z.cps.size:=by omega
  exact .inl ⟨rA _,by omega,hd ys H hy p⟩
theorem lP {X:Cx}:bG X (.type "int") (λxs H Q=>∃(z:Str) (n:Int),xs=[.str z]/\intText? z=some n/\z.length<=640/\Q (.int n) H):=by
 intro pins s σ H xs us Q I r h
 obtain ⟨z,n,rfl,hn,hl,q⟩:=h
 obtain ⟨u,rfl,⟨tk,rfl⟩⟩:=vals1 r
 exact PySem.W.KIN.call_text hn hl ⟨.int n,H,I.tok _,⟨_,rfl⟩,q⟩
open PySem PySem.Spec PyProof.Rows
def oo (P:rO)(w:sC)(K:rk)(mg:Str->Option rg)(base:Heap)(k:Nat)(f:Addr)(ps:List Str)(sp:Sp):Prop:=∃fd,bE P w K mg base CX0 k f fd ps sp/\PySem.W.keepIn K (.ref f)=true/\Binds K fd ps []
theorem Cal.val {P:rO}{w:sC}{K:rk}{mg:Str->Option rg}{base:Heap}{k:Nat}{x:Str}{ps:List Str}{sp:Sp}(c:Cal P w K mg base k x ps sp):∃f,mg x=some (.ref f)/\oo P w K mg base k f ps sp:=by
 obtain ⟨f,fd,F,m,kp,b⟩:=c.ex
 exact ⟨f,m,fd,F,kp,b⟩
def qq (X:Cx)(k:Nat)(tf:TE)(t:TA):TE:=λσ H Q=>tf σ H λx H1=>∃f ps sp,x = .ref f/\oo X.prog X.w X.K X.mg X.base k f ps sp/\t σ H1 λvs H2=>sp vs H2 Q E0
theorem mY {X:Cx}(k:Nat){j:Nat}{x:Str}{e:Expr}{es:List Expr}{tf:TE}{t:TA}{p pos:Pos}(hv:PE X (.Name x p) tf)(hr:cg j X.A)(hj:k<=j)(ha:PA X (e :: es) t)
  (he:sU (e :: es) X.env=(false,eval e X.env) :: sU es X.env:=by rfl) (hpl:(xw pos (sU es X.env)).any (·.1)=false:=by rfl) :
  PE X (.Call (.Name x p) (e :: es) [] pos) (qq X k tf t):=by
 intro pins s σ H Q I h
 refine vO (thn (hv pins s σ H _ I h) λv s1 p1 =>?_)
 obtain ⟨_,H1,I1,r1,f,ps,sp,rfl,C,q⟩:=p1
 cases r1
 obtain ⟨fd,F,kp,b⟩:=C
 refine yk (h₀:=X.base) I1.ok.mod.kin kp (thn (ha pos pins s1 σ H1 _ I1 q) λus s2 p2 =>?_) he hpl
 obtain ⟨vs,H2,I2,r,q2⟩:=p2
 exact ⟨I2.kIn,mj F (hr.mono hj) b .nil oR I2 r (by rw[tK];exact q2)⟩
open PySem PySem.Spec PyProof.Rows Builtin Builtin.Str
theorem kz {c:Nat}:∀{a b A B:List Nat},c∉a->c∉b->a++c :: A=b++c :: B->a=b/\A=B
 | [],[],_,_,_,_,h=>⟨rfl,(xg h).2⟩
 | [],y :: b,_,_,_,hb,h=>absurd (by rw[(xg h).1];exact rK) hb
 | x :: a,[],_,_,ha,_,h=>absurd (by rw[<- (xg h).1];exact rK) ha
 | x :: a,y :: b,_,_,ha,hb,h=>by
  obtain ⟨h1,h2⟩:=xg h
  obtain ⟨e1,e2⟩:=kz (λz=>ha (r6 _ z)) (λz=>hb (r6 _ z)) h2
  exact ⟨by rw[h1,e1],e2⟩
theorem cy (x y:Str):(x++y).cps.toList=x.cps.toList++y.cps.toList:=by
 show (x.cps++y.cps).toList=_
 simp
theorem dE {x y:Str}(h:x.cps.toList=y.cps.toList):x=y:=by
 cases x;cases y
 congr 1
 exact xr.mp h
theorem dF (c:Nat)(x y:Str)(r:List Str):(Str.join ⟨#[c]⟩ (x :: y :: r)).cps.toList=x.cps.toList++c :: (Str.join ⟨#[c]⟩ (y :: r)).cps.toList:=by
 show (x++⟨#[c]⟩++Str.join ⟨#[c]⟩ (y :: r)).cps.toList=_
 rw[cy,cy,rZ]
 rfl
theorem iS {c:Nat}:∀{xs ys:List Str},xs≠[]->ys≠[]->(∀p∈xs,c∉p.cps.toList)->(∀p∈ys,c∉p.cps.toList)->(Str.join ⟨#[c]⟩ xs).cps.toList=(Str.join ⟨#[c]⟩ ys).cps.toList->xs=ys
 | [],_,h,_,_,_,_=>absurd rfl h
 | _,[],_,h,_,_,_=>absurd rfl h
 | [x],[y],_,_,_,_,e=>by rw[dE (show x.cps.toList=y.cps.toList from e)]
 | [x],y :: z :: s,_,_,hx,_,e=>by
  rw[dF] at e
  exact absurd (show c∈x.cps.toList by rw[show x.cps.toList=_ from e];exact rS _ rK) (hx x rK)
 | x :: z :: r,[y],_,_,_,hy,e=>by
  rw[dF] at e
  exact absurd (show c∈y.cps.toList by rw[show y.cps.toList=_ from e.symm];exact rS _ rK) (hy y rK)
 | x :: z :: r,y :: w :: s,_,_,hx,hy,e=>by
  rw[dF,dF] at e
  obtain ⟨e1,e2⟩:=kz (hx x rK) (hy y rK) e
  rw[dE e1,iS (xs:=z :: r) (ys:=w :: s) (by simp) (by simp) (λp hp=>hx p (r6 _ hp)) (λp hp=>hy p (r6 _ hp)) e2]
theorem gZ {c:Nat}{ws:List Str}(h0:ws≠[])(hf:∀p∈ws,c∉p.cps.toList):Txt.split (Txt.join ⟨#[c]⟩ ws) ⟨#[c]⟩=ws:=by
 refine iS (λz =>?_) h0 (StrLaws.split_free _ c) hf ?_
 ·have:=split_pos (Txt.join ⟨#[c]⟩ ws) ⟨#[c]⟩
  rw[z] at this
  exact absurd this (by decide)
 ·rw[StrLaws.join_split]
  show (glued ⟨#[c]⟩ ws).cps.toList=_
  rw[vd]
theorem lQ {a b:Str}{c:Nat}(h:c∉a.cps.toList):parted (a++⟨#[c]⟩++b) ⟨#[c]⟩=[a,⟨#[c]⟩,b]:=by
 have ex:(a++⟨#[c]⟩++b).cps.toList=a.cps.toList++c :: b.cps.toList:=by
  rw[cy,cy,rZ];rfl
 have lx:(a++⟨#[c]⟩++b).length=a.length+(b.length+1):=by
  show (a++⟨#[c]⟩++b).cps.size=a.cps.size+(b.cps.size+1)
  rw[<- rh,ex,rC,rL,rh,rh]
 have la:a.cps.toList.length=a.length:=rh
 have lb:b.cps.toList.length=b.length:=rh
 generalize a++⟨#[c]⟩++b=X at ex lx
 have hA:StrLaws.At X ⟨#[c]⟩ X.length a.length:=by
  refine (yE X c a.length).mpr ?_
  rw[ex,tY (by omega),la,Nat.sub_self];rfl
 unfold parted
 rcases StrLaws.occ_head X ⟨#[c]⟩ 1 (rA 1) with ⟨e,n⟩ | ⟨i,r,e,at',first⟩
 ·exact absurd hA (n _)
 ·have hi:i=a.length:=by
   have ci:=(yE X c i).mp at'
   rcases Nat.lt_trichotomy i a.length with y | y | y
   ·rw[ex,ud (by omega)] at ci
    exact absurd (rT ci) h
   ·exact y
   ·exact absurd hA (first _ y)
  subst hi
  rw[e]
  show [strSub X 0 a.length,_,strSub X (a.length+1) X.length]=_
  have e1:strSub X 0 a.length=a:=by
   apply dE
   rw[xN,yb,ex,Nat.sub_zero, <- la,yT]
   rfl
  have e2:strSub X (a.length+1) X.length=b:=by
   apply dE
   rw[xN,ex,show a.length+1=a.cps.toList.length+1 by rw[la],List.drop_append,List.drop_of_length_le (by omega),vI]
   rw[show a.cps.toList.length+1-a.cps.toList.length=1 by omega]
   show b.cps.toList.take _=_
   exact sN (by omega)
  rw[e1,e2]
end L2
namespace HT
open PySem PyProof.Rows
def lexLe:List Int->List Int->Bool
 | [],_=>true
 | _ :: _,[]=>false
 | x :: xs,y :: ys=>if x=y then lexLe xs ys else decide (x<=y)
theorem fw (x y:Int)(xs ys:List Int):lexLe (x :: xs) (y :: ys)=if x=y then lexLe xs ys else decide (x<=y):=rfl
theorem fW:lexLe [] []=true:=rfl
theorem fx (y:Int)(ys:List Int):lexLe [] (y :: ys)=true:=rfl
theorem fy (x:Int)(xs:List Int):lexLe (x :: xs) []=false:=rfl
theorem mZ (A:sR)(s:rj)(a:Int)(t:Tok)(c:Int)(u:Tok)(prog:rO)(w:sC)(E:rg->rj->Prop)(Q:rg->rj->Prop)(h:Q (.bool (decide (a<=c))) s) :
  rX (sh prog w) A (richCompare .LtE (.int a t) (.int c u)) Q E s :=
 (PyProof.Rows.le_int h:rX (sh prog w) A (uA .LtE (.int a t) (.int c u)) Q E s)
section
open PySem.SeqAt
open PySem.AutoSeq1 (wpAny_loadPart')
open PySem.MeetsSeq PySem.MeetsSeq2 PySem.MeetsSeq3
theorem fX (l b:Addr)(items items2:Array rg)(n n2:Nat)(dd dd2:Option Addr)(sl sl2:Array (Option rg))(ns ms:List Int)(hi:uc items.toList ns)(hj:uc items2.toList ms) :
  Meets (Builtin.«tuple.__le__» ⟨[.ref l,.ref b],[]⟩)
   (λ_ R s=>s.heap.get? l=some { cls :=.type "tuple",dict:=dd,data :=.seq items n,slots:=sl }/\s.heap.get? b=some { cls :=.type "tuple",dict:=dd2,data :=.seq items2 n2,slots:=sl2 } ∧
    R (.ok (.ret (.bool (lexLe ns ms)))) s) :=
 .of_wp λprog w A R s h=>by
  obtain ⟨hp,g,d,tk,os⟩:=s;obtain ⟨hl,hb,h⟩:=h
  have f2:=wV
  have z1:items.size=ns.length:=by rw[<- hi.length];simp
  have z2:items2.size=ms.length:=by rw[<- hj.length];simp
  wp_walk using wpAny_loadPart' hl,wpAny_loadPart' hb,vx _ (λrest b s'=>b.1=none/\s'=⟨hp,g,d,tk,os⟩/\∃(vs ws:List rg) (ns' ms':List Int),rest=vs.zip ws ∧
   uc vs ns'/\uc ws ms'/\ns'.length+items2.size=ms'.length+items.size/\R (.ok (.ret (.bool (lexLe ns' ms')))) ⟨hp,g,d,tk,os⟩) _
  case turn =>
   rintro ⟨y,x⟩ rest b s' ⟨hb',rfl,vs,ws,ns',ms',hz,hvi,hwi,hlen,hR⟩
   cases hvi with
   | nil=>rw[yx] at hz;cases hz
   | cons a t hvi' =>
    cases hwi with
    | nil=>rw[yl] at hz;cases hz
    | cons c u hwi' =>
     rw[uI] at hz
     injection hz with hyx hrest
     injection hyx with hy hx
     subst hy hx
     rw[fw] at hR
     simp only[rL] at hlen
     obtain ⟨e,he,hiff⟩:=il A.in1 ⟨hp,g,d,tk,os⟩ a t c u
     refine rd (he prog w _ _ ?_)
     cases e with
     | true =>
      rw[if_pos (hiff.mp rfl)] at hR
      wp_walk
      exact ⟨rfl,rfl,_,_,_,_,hrest,hvi',hwi',by omega,hR⟩
     | false =>
      rw[if_neg (λq=>absurd (hiff.mpr q) rR)] at hR
      have hri:=mZ A.in1 ⟨hp,g,d,tk,os⟩ a t c u prog w
      wp_walk using hri
      exact ⟨_,rfl,by simpa using hR⟩
  case fin =>
   rintro ⟨b1,b2⟩ s' ⟨hb',rfl,vs,ws,ns',ms',hz,hvi,hwi,hlen,hR⟩
   simp only at hb'
   subst hb'
   have hv:lexLe ns' ms'=decide (items.size<=items2.size):=by
    cases hvi with
    | nil =>
     cases hwi with
     | nil =>
      simp only[uh] at hlen
      rw[fW]
      exact (decide_eq_true (by omega)).symm
     | cons c u hw =>
      simp only[uh,rL] at hlen
      rw[fx]
      exact (decide_eq_true (by omega)).symm
    | cons a t hv =>
     cases hwi with
     | nil =>
      simp only[uh,rL] at hlen
      rw[fy]
      exact (decide_eq_false (by omega)).symm
     | cons c u hw =>
      rw[uI] at hz
      cases hz
   rw[hv] at hR
   wp_walk
   exact ⟨_,rfl,by simpa [Builtin.Tuple.tupleCompareSizes] using hR⟩
  case h =>
   exact ⟨rfl,rfl,items.toList,items2.toList,ns,ms,rfl,hi,hj,by omega,h⟩
end
section
variable  {prog:rO}{w:sC}{A:sR}{E:rg->rj->Prop}{s:rj}
theorem jA {l b:Addr}{items items2:Array rg}{ns ms:List Int}{Q:rg->rj->Prop}(hl:IsTup s.heap l items)(hb:IsTup s.heap b items2)(hi:uc items.toList ns)(hj:uc items2.toList ms)
  (hu:A.units<cLine) (h:Q (.bool (lexLe ns ms)) s):rX (sh prog w) A (uA .LtE (.ref l) (.ref b)) Q E s:=by
 obtain ⟨⟨cls,dd,data,sl⟩,ho,hc,n,hd⟩:=id hl
 obtain ⟨⟨cls2,dd2,data2,sl2⟩,ho2,hc2,n2,hd2⟩:=id hb
 simp only at hc hd hc2 hd2
 subst hc hd hc2 hd2
 exact xC (op :=.LtE) ⟨_,ho,rfl⟩ ⟨_,ho2,rfl⟩ PySem.F.slot_tuple_le PySem.F.entry_tuple_le (PySem.F.args_tuple_le_2 _ _) (fX l b items items2 n n2 dd dd2 sl sl2 ns ms hi hj)
  ⟨ho,ho2,show Value.bool (lexLe ns ms)≠Value.notImplemented/\Q (.bool (lexLe ns ms)) s from ⟨(λx=>nomatch x),h⟩⟩ hu
end
end HT
namespace L2
open PySem PySem.Spec PyProof.Rows
section
variable  {X:Cx}
def rLeT (K:rk):R2:=λx y H Q=>∃a b ns ms,x = .ref a/\y = .ref b/\SqT K H a (ns.map V.int)/\SqT K H b (ms.map V.int)/\Q (.bl (HT.lexLe ns ms)) H
theorem qr (hu:X.A.units<cLine):OpR X (uA .LtE) (rLeT X.K):=by
 intro pins s σ H x y v u Q I rx ry h
 obtain ⟨a,b,ns,ms,rfl,rfl,ha,hb,q⟩:=h
 cases rx
 cases ry
 obtain ⟨its,r1,p1,_⟩:=I.tuple ha
 obtain ⟨its2,r2,p2,_⟩:=I.tuple hb
 exact HT.jA p1 p2 (intsAre_of r1:uc its.toArray.toList ns) (intsAre_of r2:uc its2.toArray.toList ms) hu ⟨.bl (HT.lexLe ns ms),H,I,rfl,q⟩
end
open PySem PySem.Spec PyProof.Rows
def bQ (K:rk)(x:Str)(st:Stmt):Prop:=∃(f:Addr) (od an:Option Addr) (sl:Array (Option rg)) (oc kV dc pm cd ct:rg),sP K sr x=some (some (.ref f))/\K.lookup f=some ⟨oc,od,.func (PySem.W.fnOf x x (bO st) (bI st) (aq st) .none kV dc pm an cd ct),sl⟩/\PySem.W.codeIn K cd x=true/\PySem.W.keepIn K (.ref f)=true
theorem bQ.mk {K:rk}{x:Str}{st:Stmt}{f:Addr}{od an:Option Addr}{sl:Array (Option rg)}{oc kV dc pm cd ct:rg}(a:sP K sr x=some (some (.ref f)))(l:K.lookup f=some ⟨oc,od,.func (PySem.W.fnOf x x (bO st) (bI st) (aq st) .none kV dc pm an cd ct),sl⟩)(c:PySem.W.codeIn K cd x=true)(k:PySem.W.keepIn K (.ref f)=true):bQ K x st:=⟨_,_,_,_,_,_,_,_,_,_,a,l,c,k⟩
theorem bQ.cal {K:rk}{x:Str}{st:Stmt}(hf:bQ K x st)(P:rO)(w:sC)(base:Heap){h:Heap}{mg:Str->Option rg}(X:K.In h)(G:h.Ns sr mg){lv:Nat}{ps:List Str}{sp:Sp}(ok:∀{f:Addr} {fd:sV},Fun K x x st f fd->bE P w K mg base CX0 lv f fd ps sp)
  (hb:∀(kV doc pm:rg) (an:Option Addr) (cdv ct:rg) (us:List rg),us.length=ps.length->bindArgs (PySem.W.fnOf x x (bO st) (bI st) (aq st) .none kV doc pm an cdv ct) ⟨us,[]⟩=pure (ps.zip us)):Cal P w K mg base lv x ps sp:=by
 obtain ⟨f,od,an,sl,oc,kV,dc,pm,cd,ct,a,l,c,k⟩:=hf
 have F:=i6 l c k
 exact ⟨_,_,ok F,vh X G a,k,F.binds hb⟩
open PySem PySem.Spec PyProof.Rows
theorem bQ.qZ {K:rk}{x:Str}{st:Stmt}(hf:bQ K x st)(P:rO)(w:sC)(base:Heap){h:Heap}{mg:Str->Option rg}(X:K.In h)(G:h.Ns sr mg){ps:List Str}{sp:Nat->Sp}(h0:∀vs H Q E,¬ sp 0 vs H Q E)
  (ok:∀n,Cal P w K mg base n x ps (sp n)->∀{f:Addr} {fd:sV},Fun K x x st f fd->bE P w K mg base CX0 (n+1) f fd ps (sp (n+1)))
  (hb:∀(kV doc pm:rg) (an:Option Addr) (cdv ct:rg) (us:List rg),us.length=ps.length->bindArgs (PySem.W.fnOf x x (bO st) (bI st) (aq st) .none kV doc pm an cdv ct) ⟨us,[]⟩=pure (ps.zip us)):∀n,Cal P w K mg base n x ps (sp n):=by
 obtain ⟨f,od,an,sl,oc,kV,dc,pm,cd,ct,a,l,c,k⟩:=hf
 have F:=i6 l c k
 intro n
 induction n with
 | zero=>exact ⟨_,_,⟨λvs H Q E z=>absurd z (h0 _ _ _ _),λA outer s H args us vs Q E hr he hb hv hs=>absurd hs (h0 _ _ _ _)⟩,vh X G a,k,F.binds hb⟩
 | succ n ih=>exact ⟨_,_,ok n ih F,vh X G a,k,F.binds hb⟩
end L2
set_option maxHeartbeats 800000
namespace K79
open PySem L2
def top (i:Nat):Stmt:=PySem.Challenge.pw_ringfell_k79_webs_written.main.body.getD i (.Pass ⟨0,0,0,0⟩)
abbrev dh:Stmt:=top 7
abbrev fz:Stmt:=top 8
abbrev cM:Stmt:=top 9
abbrev cN:Stmt:=top 10
abbrev dY:Stmt:=top 11
abbrev fA:Stmt:=top 12
abbrev cz:Stmt:=top 13
abbrev bV:Stmt:=top 14
abbrev di:Stmt:=top 15
abbrev fB:Stmt:=top 16
abbrev cO:Stmt:=top 17
abbrev jB:Stmt:=top 19
abbrev jC:Stmt:=top 20
abbrev jD:Stmt:=top 21
abbrev g9:Stmt:=top 22
abbrev dZ:Stmt:=top 23
abbrev lR:Stmt:=top 24
structure Blt (mg:Str->Option rg):Prop where
 b_all:mg "all" = none
 b_bool:mg "bool" = none
 b_int:mg "int" = none
 b_isinstance:mg "isinstance" = none
 b_len:mg "len" = none
 b_list:mg "list" = none
 b_max:mg "max" = none
 b_min:mg "min" = none
 b_range:mg "range" = none
 b_set:mg "set" = none
 b_sorted:mg "sorted" = none
 b_str:mg "str" = none
 b_tuple:mg "tuple" = none
 b_zip:mg "zip" = none
theorem m5:sO "all" = some (.builtin "all"):=by decide +kernel
theorem oq:sO "bool" = some (.type "bool"):=by decide +kernel
theorem m6:sO "int" = some (.type "int"):=by decide +kernel
theorem aI:sO "isinstance" = some (.builtin "isinstance"):=by decide +kernel
theorem cP:sO "len" = some (.builtin "len"):=by decide +kernel
theorem kA:sO "list" = some (.type "list"):=by decide +kernel
theorem qs:sO "max" = some (.builtin "max"):=by decide +kernel
theorem m7:sO "min" = some (.builtin "min"):=by decide +kernel
theorem qt:sO "set" = some (.type "set"):=by decide +kernel
theorem gC:sO "sorted" = some (.builtin "sorted"):=by decide +kernel
theorem cQ:sO "str" = some (.type "str"):=by decide +kernel
theorem bW:sO "tuple" = some (.type "tuple"):=by decide +kernel
structure Cst (mg:Str->Option rg):Prop where
 c_MOST_PLACES:∃t,mg "MOST_PLACES" = some (.int 40 t)
 c_MOST_TIES:∃t,mg "MOST_TIES" = some (.int 200 t)
 c_FIGURES:∃t,mg "FIGURES" = some (.str "0123456789" t)
theorem hu8 {A:sR}{k:Nat}(hr:cg k A):A.units+8<cLine:=uJ (wx (by decide:8<=64) _) hr.units
abbrev kB:Sp:=λvs H Q _=>∃c m:Int,vs=[.int c,.int m]/\0<=m/\m<=1000/\∀n:Int,Q (.int n) H
@[irreducible] def hJ:Sp:=kB
theorem dj {vs:List V}{H:Hp}{Q:VK}{E:XK}:hJ vs H Q E↔kB vs H Q E:=by
 delta hJ
 exact vn
abbrev kC:Sp:=λvs H Q _=>∃(p:Addr) (m:Int),vs=[.ref p,.int m]/\Pt 1 H p/\0<m/\m<1073741824/\∀(d:Int) (H':Hp),0<=d->d<m->Bu 1 p H H'->Q (.int d) H'
@[irreducible] def fC:Sp:=kC
theorem bu {vs:List V}{H:Hp}{Q:VK}{E:XK}:fC vs H Q E↔kC vs H Q E:=by
 delta fC
 exact vn
section
variable  {P:rO}{w:sC}{K:rk}{mg:Str->Option rg}{base:Heap}{f T:Addr}{fd:sV}
theorem kD:aJ ["pot", "many", "digit"] ["pot", "many"] (aq jC):=⟨rfl,rfl,rfl,by decide +kernel,rfl,by decide +kernel,by decide +kernel⟩
theorem ot (F:Fun K "_law_take" "_law_take" jC f fd)(B:Blt mg)(C:Cst mg):bE P w K mg base CX0 1 f fd ["pot", "many"] fC:=by
 refine F.ok kD (λvs H Q E h =>?_) (λcdv A outer s H vs Q E hr h =>?_)
 ·obtain ⟨_,_,rfl,_⟩:=bu.mp h
  rfl
 obtain ⟨p,m,rfl,hp,h0,h1,q⟩:=bu.mp h
 refine ⟨_,(@af _ _ _ _ _ (@aG _ _ 2 _ _ _ _ kD.nd rfl (Or.inl rfl) (@aY _ _ _ _ _ _ _ _ eS (@bH _ _ _ _ _ _ _ bX (pv 0) ai (λ_ _=>rfl)) (pv 1)) rfl (by first | exact .inl rfl | exact .inr rfl | assumption))
  (@af _ _ _ _ _ (@pQ _ _ _ _ _ _ (@aY _ _ _ _ _ _ _ _ jQ (@bH _ _ _ _ _ _ _ bX (pv 0) ai (λ_ _=>rfl)) (pv 1)) (pP (pv 0) ai set_list) rfl rfl rfl)
  (@ax _ _ _ (@aQ _ _ _ _ (pv 2))))),?_⟩
 have bt:=Bu.refl hp
 obtain ⟨xs,lx,ep⟩:=hp
 match xs,lx with
 | [x],_ =>
  refine ⟨_,rfl,p,_,0,_,rfl,rfl,SqL.of ep,rfl,_,rfl,_,_,rfl,rfl,h0,?_⟩
  refine ⟨_,rfl,p,_,0,_,rfl,rfl,SqL.of ep,rfl,_,rfl,_,_,rfl,rfl,⟨h0,h1⟩,_,rfl,p,_,0,0,rfl,rfl,ep,rfl,?_⟩
  refine ⟨_,rfl,?_⟩
  exact q _ _ (wy _ (by omega)) (vK _ h0) (bt.put (ys:=[x/m]) rfl)
end
section
variable  {P:rO}{w:sC}{K:rk}{mg:Str->Option rg}{base:Heap}{f T:Addr}{fd:sV}
theorem cA:aJ ["cell", "many", "number", "one", "k", "two"] ["cell", "many"] (aq jB):=⟨rfl,rfl,rfl,by decide +kernel,rfl,by decide +kernel,by decide +kernel⟩
theorem ou (F:Fun K "_law_deal" "_law_deal" jB f fd)(B:Blt mg)(C:Cst mg):bE P w K mg base CX0 1 f fd ["cell", "many"] hJ:=by
 refine F.ok cA (λvs H Q E h =>?_) (λcdv A outer s H vs Q E hr h =>?_)
 ·obtain ⟨_,_,rfl,_⟩:=dj.mp h
  rfl
 obtain ⟨c,m,rfl,m0,m1,q⟩:=dj.mp h
 refine ⟨_,(@af _ _ _ _ _ (@bL _ _ _ _ _ _ _ _ (aZ qO (pv 0) (@aY _ _ _ _ _ _ _ _ ma ai ai) (aL _)) (@ax _ _ _ (@aQ _ _ _ _ (@aY _ _ _ _ _ _ _ _ i3 (pv 0) (@aY _ _ _ _ _ _ _ _ ma ai ai)))) aP)
  (@af _ _ _ _ _ (@aG _ _ 2 _ _ _ _ cA.nd rfl (Or.inl rfl) ai rfl (by first | exact .inl rfl | exact .inr rfl | assumption))
  (@af _ _ _ _ _ (@aG _ _ 3 _ _ _ _ cA.nd rfl (Or.inl rfl) (@aY _ _ _ _ _ _ _ _ gI (@aY _ _ _ _ _ _ _ _ eS (pv 0) ai) ai) rfl (by first | exact .inl rfl | exact .inr rfl | assumption))
  (@af _ _ _ _ _ (@dg _ _ _ _ _ _ _ _ uQ rfl (dQ rfl B.b_range (@aa _ _ _ _ _ (pv 1) ae rfl)) (bp (i:=4) cA.nd rfl (Or.inl rfl))
   (@af _ _ _ _ _ (@aG _ _ 3 _ _ _ _ cA.nd rfl (Or.inl rfl) (@aY _ _ _ _ _ _ _ _ eS (@aY _ _ _ _ _ _ _ _ gI (@aY _ _ _ _ _ _ _ _ gI (@aY _ _ _ _ _ _ _ _ eR (pv 3) ai) (@aY _ _ _ _ _ _ _ _ eR (@aY _ _ _ _ _ _ _ _ eR ai (pv 4)) (pv 4))) ai) ai) rfl (by first | exact .inl rfl | exact .inr rfl | assumption))
   (@af _ _ _ _ _ (@aG _ _ 5 _ _ _ _ cA.nd rfl (Or.inl rfl) (@aY _ _ _ _ _ _ _ _ eS (@aY _ _ _ _ _ _ _ _ eR (pv 3) (pv 3)) ai) rfl (by first | exact .inl rfl | exact .inr rfl | assumption))
   (@ax _ _ _ (@aG _ _ 2 _ _ _ _ cA.nd rfl (Or.inl rfl) (@aY _ _ _ _ _ _ _ _ gI (@aY _ _ _ _ _ _ _ _ eR (pv 2) ai) (@aY _ _ _ _ _ _ _ _ eS (@aY _ _ _ _ _ _ _ _ jQ (pv 5) ai) ai)) rfl (by first | exact .inl rfl | exact .inr rfl | assumption))))) (λ_=>rfl))
  (@ax _ _ _ (@aQ _ _ _ _ (pv 2))))))),?_⟩
 refine ⟨_,rfl,_,_,rfl,rfl,⟨by decide,by decide,by decide⟩,_,_,rfl,rfl,_,rfl,qU (λz =>?_) (λz =>?_)⟩
 ·exact ⟨_,rfl,_,_,rfl,rfl,⟨by decide,by decide,by decide⟩,_,_,rfl,rfl,q _⟩
 refine ⟨_,rfl,_,_,rfl,rfl,(by show (0:Int)<_;decide),_,_,rfl,rfl,?_⟩
 have b1:=wy c (b:=2147483647) (by decide)
 have b2:=vK c (b:=2147483647) (by decide)
 generalize c%2147483647+16807=o at b1 b2
 refine ⟨_,rfl,m,rfl,by omega,by omega,dR (λk σ H'=>(∃(gr on:Int) (c4 c5:Option V),σ=[some (.int c),some (.int m),some (.int gr),some (.int on),c4,c5])/\H'=H) ⟨⟨_,_,_,_,rfl⟩,rfl⟩ ?_ ?_⟩
 ·rintro k σ H' hk ⟨⟨gr,on,c4,c5,rfl⟩,rfl⟩
  have hk':(k:Int)<m:=by omega
  refine ⟨_,rfl,_,_,rfl,rfl,.inr ⟨by decide,by decide⟩,_,rfl,_,_,rfl,rfl,.inl ⟨by decide,by decide⟩,_,rfl,_,_,rfl,rfl,.inl ⟨by omega,by omega⟩,_,_,rfl,rfl,_,_,rfl,rfl,_,_,rfl,rfl,(by show (0:Int)<_;decide),?_⟩
  have d1:=wy (on*48271+7919*(0+(k:Int))*(0+(k:Int))+104729) (b:=2147483647) (by decide)
  have d2:=vK (on*48271+7919*(0+(k:Int))*(0+(k:Int))+104729) (b:=2147483647) (by decide)
  generalize (on*48271+7919*(0+(k:Int))*(0+(k:Int))+104729)%2147483647=o2 at d1 d2 ⊢
  refine ⟨_,rfl,_,rfl,_,_,rfl,rfl,.inl ⟨by omega,by omega⟩,_,_,rfl,rfl,(by show (0:Int)<_;decide),?_⟩
  exact ⟨_,rfl,_,_,rfl,rfl,.inr ⟨by decide,by decide⟩,_,rfl,_,_,rfl,rfl,⟨by decide,by decide⟩,_,_,rfl,rfl,(by show (0:Int)<_;decide),_,_,rfl,rfl,⟨_,_,_,_,rfl⟩,rfl⟩
 ·rintro σ H' ⟨⟨gr,on,c4,c5,rfl⟩,rfl⟩
  exact ⟨_,rfl,q _⟩
end
open PySem L2
structure Wp (H:Hp)(r:Addr)(m:Int)(ts:List (Addr×List Int)):Prop where
 at':∃t,H r=some (.tup [.int m,.ref t])/\H t=some (.tup (ts.map λu =>.ref u.1))
 tup:∀u∈ts,H u.1=some (.tup (u.2.map V.int))
 pr:∀u∈ts,∃a b:Int,u.2=[a,b]/\0<=a/\a<m/\0<=b/\b<m
 len:ts.length<=200
theorem Wp.same {H H':Hp}{r:Addr}{m:Int}{ts:List (Addr×List Int)}(h:Wp H r m ts)(s:aM H H'):Wp H' r m ts :=
 let ⟨p,e1,e2⟩:=h.at'
 ⟨⟨p,s _ _ e1,s _ _ e2⟩,λu hu=>s _ _ (h.tup u hu),h.pr,h.len⟩
theorem item {ts:List (Addr×List Int)}{i:Nat}{x:V}(e:(ts.map λt:Addr×List Int=>V.ref t.1)[i]? = some x):∃u,ts[i]? = some u/\x = .ref u.1:=by
 rw[sf] at e
 cases z:ts[i]? with
 | none=>rw[z] at e;cases e
 | some tt=>rw[z] at e;exact ⟨tt,rfl,(r9 e).symm⟩
abbrev nT (i:Int):Str:=Str.ofString (toString i)
theorem cf:∀n:Nat,n<41->(nT (n:Int)).length<=2:=by decide +kernel
theorem eC {i:Int}(h0:0<=i)(h1:i<=40):(nT i).length<=2:=by
 obtain ⟨n,rfl⟩:∃n:Nat,i=n:=⟨i.toNat,by omega⟩
 exact cf n (by omega)
theorem dk {i:Int}(h0:0<=i)(h1:i<=40):i.natAbs.log2<1920:=uJ (Nat.log2_le_self _) (by omega)
theorem shown_int {i:Int}(h0:0<=i)(h1:i<=40):shown (.int i)=some (nT i):=if_pos (dk h0 h1)
theorem aV (x y:Str):(x++y).length=x.length+y.length:=by
 show (x.cps++y.cps).size=_
 rw[uP];rfl
def pw (sg:Str)(p:List Int):Str:=Str.empty++nT (p.getD 0 0)++sg++nT (p.getD 1 0)
def hdw (wd:Str)(m:Int):Str:=Str.empty++wd ++ " " ++ nT m
def ptx (wd sg:Str)(m:Int)(ns:List (List Int)):Str:=Txt.join " " (hdw wd m :: ns.map (pw sg))
theorem len0:(Str.empty:Str).length=0:=rfl
theorem ow:(" " : Str).length=1:=rfl
theorem ox {wd:Str}{m:Int}(hw:wd.length<=10)(h0:0<=m)(h1:m<=40):(hdw wd m).length<=13:=by
 unfold hdw
 have:=eC h0 h1
 rw[aV,aV,aV,len0,ow]
 omega
theorem jE {sg:Str}{p:List Int}(hs:sg.length<=2)(h:∃a b:Int,p=[a,b]/\0<=a/\a<=40/\0<=b/\b<=40):(pw sg p).length<=13:=by
 obtain ⟨a,b,rfl,a0,a1,b0,b1⟩:=h
 unfold pw
 have h1:=eC a0 a1
 have h2:=eC b0 b1
 rw[aV,aV,aV,len0]
 show 0+(nT a).length+sg.length+(nT b).length<=13
 omega
theorem kE {ws:List Str}(h:∀w∈ws,w.length<=13)(l:ws.length<=300):JoinOk " " ws=true:=by
 unfold JoinOk
 rw[StrLaws.joinFits (B:=13) h (by rw[ow];omega)]
 rfl
theorem fD {n:Nat}(h:n<=5000):n<rN:=uJ h (by decide)
theorem aN {n:Nat}(h:n<=5000):n<=rN:=vC (fD h)
abbrev oY:Sp:=λvs H Q _=>∃(wd sg:Str) (r:Addr) (m:Int) (ts:List (Addr×List Int)),vs=[.str wd,.ref r,.str sg]/\Wp H r m ts/\0<=m/\m<=40/\wd.length<=10/\sg.length<=2/\∀H',aM H H'->Q (.str (ptx wd sg m (ts.map (·.2)))) H'
@[irreducible] def m8:Sp:=oY
theorem dG {vs:List V}{H:Hp}{Q:VK}{E:XK}:m8 vs H Q E↔oY vs H Q E:=by
 delta m8
 exact vn
section
variable  {P:rO}{w:sC}{K:rk}{mg:Str->Option rg}{base:Heap}{f T:Addr}{fd:sV}
theorem bA:aJ ["word", "web", "sign", "many", "words", "pair", "one", "other"] ["word", "web", "sign"] (aq dh):=⟨rfl,rfl,rfl,by decide +kernel,rfl,by decide +kernel,by decide +kernel⟩
theorem iT (F:Fun K "pairs_text" "pairs_text" dh f fd)(B:Blt mg)(C:Cst mg):bE P w K mg base CX0 1 f fd ["word", "web", "sign"] m8:=by
 refine F.ok bA (λvs H Q E h =>?_) (λcdv A outer s H vs Q E hr h =>?_)
 ·obtain ⟨_,_,_,_,_,rfl,_⟩:=dG.mp h
  rfl
 obtain ⟨wd,sg,r,m,ts,rfl,W,m0,m1,lw,ls,q⟩:=dG.mp h
 refine ⟨_,(@af _ _ _ _ _ (@aG _ _ 3 _ _ _ _ bA.nd rfl (Or.inl rfl) (@bH _ _ _ _ _ _ _ bY (pv 1) ai (λ_ _=>rfl)) rfl (by first | exact .inl rfl | exact .inr rfl | assumption))
  (@af _ _ _ _ _ (@aG _ _ 4 _ _ _ _ bA.nd rfl (Or.inl rfl) (@cp _ _ _ _ (@aa _ _ _ _ _ (kv (cn (cK (pv 0)) (cn aT (cn (cK (pv 3)) ku)))) ae rfl)) rfl (by first | exact .inl rfl | exact .inr rfl | assumption))
  (@af _ _ _ _ _ (@dg _ _ _ _ _ _ _ _ uQ rfl (@l7 _ _ _ _ (@bH _ _ _ _ _ _ _ bY (pv 1) ai (λ_ _=>rfl))) (bp (i:=5) bA.nd rfl (Or.inl rfl))
   (@af _ _ _ _ _ (@aG _ _ 6 _ _ _ _ bA.nd rfl (Or.inl rfl) (@bH _ _ _ _ _ _ _ bY (pv 5) ai (λ_ _=>rfl)) rfl (by first | exact .inl rfl | exact .inr rfl | assumption))
   (@af _ _ _ _ _ (@aG _ _ 7 _ _ _ _ bA.nd rfl (Or.inl rfl) (@bH _ _ _ _ _ _ _ bY (pv 5) ai (λ_ _=>rfl)) rfl (by first | exact .inl rfl | exact .inr rfl | assumption))
   (@ax _ _ _ (eJ (j0 u0 uS uT cT (pv 4) (@aa _ _ _ _ _ (kv (cn (cK (pv 6)) (cn (cK (pv 2)) (cn (cK (pv 7)) ku)))) ae rfl)))))) (λ_=>rfl))
  (@ax _ _ _ (@aQ _ _ _ _ (fv xO xP kr aT (@aa _ _ _ _ _ (pv 4) ae rfl))))))),?_⟩
 obtain ⟨t,e1,e2⟩:=W.at'
 have lh:=ox lw m0 m1
 have hl1:(Str.empty++wd).length<=10:=by rw[aV,len0];omega
 have hl2:(Str.empty++wd ++ " ").length<=11:=by rw[aV,ow];omega
 refine ⟨_,rfl,r,_,0,_,rfl,rfl,SqT.of e1,rfl,_,rfl,wd,rfl,aN (by omega),wd,rfl,aN (by omega), " ",rfl,aN (by omega),_,rfl,nT m,shown_int m0 m1,aN (by have:=eC m0 m1;omega),nT m,rfl,aN (by show (hdw wd m).length<=5000;omega),aN (by show (hdw wd m).length<=5000;omega),(by show 1<=rN;decide),λl hl =>?_⟩
 have g1:=ah hl (.lst [.str (Str.empty++wd ++ " " ++ nT m)])
 have el:upd H l (.lst [.str (Str.empty++wd ++ " " ++ nT m)]) l=some (.lst [.str (hdw wd m)]):=ag
 have e2':=g1 _ _ e2
 generalize upd H l (.lst [.str (Str.empty++wd ++ " " ++ nT m)])=H1 at g1 el e2'
 refine ⟨_,rfl,r,_,1,_,rfl,rfl,SqT.of (g1 _ _ e1),rfl,t,rfl,⟨_,SqT.of e2'⟩,jP (xs:=ts.map λu =>.ref u.1) (λi σ H'=>(∃c5 c6 c7,σ=[some (.str wd),some (.ref r),some (.str sg),some (.int m),some (.ref l),c5,c6,c7])/\aM H H'/\H' l=some (.lst ((hdw wd m :: ((ts.take i).map (·.2)).map (pw sg)).map V.str))) ⟨⟨_,_,_,rfl⟩,g1,el⟩ (λi σ H' _ k=>SqT.of (k.2.1 _ _ e2)) ?_ ?_⟩
 ·rintro i x σ H2 hx ⟨⟨c5,c6,c7,rfl⟩,s2,el2⟩
  obtain ⟨u,eu,rfl⟩:=item hx
  have mu:=rT eu
  obtain ⟨a,b,ep,a0,a1,b0,b1⟩:=W.pr u mu
  have tu:=s2 _ _ (W.tup u mu)
  rw[ep] at tu
  have lp:(pw sg u.2).length<=13:=jE ls ⟨a,b,ep,a0,by omega,b0,by omega⟩
  have ea:=eC a0 (show a<=40 by omega)
  have eb:=eC b0 (show b<=40 by omega)
  rw[ep] at lp
  have l1:(Str.empty++nT a).length<=2:=by rw[aV,len0];omega
  have l2:(Str.empty++nT a++sg).length<=4:=by rw[aV];omega
  refine ⟨_,rfl,u.1,_,0,.int a,rfl,rfl,SqT.of tu,rfl,_,rfl,u.1,_,1,.int b,rfl,rfl,SqT.of tu,rfl,?_⟩
  refine ⟨_,rfl,.inl ⟨rfl,_,SqL.of el2⟩,_,rfl,nT a,shown_int a0 (by omega),aN (by omega),nT a,rfl,aN (by omega),_,rfl,sg,rfl,aN (by omega),sg,rfl,aN (by omega),_,rfl,nT b,shown_int b0 (by omega),aN (by omega),nT b,rfl,aN (by show (pw sg [a,b]).length<=5000;omega),aN (by show (pw sg [a,b]).length<=5000;omega),l,_,_,rfl,rfl,el2,?_,⟨_,_,_,rfl⟩,?_,?_⟩
  ·have:=W.len
   rw[rn,rL,rn,rn,sA]
   exact fD (by omega)
  ·exact λq o e=>by rw[au (ak e hl)];exact s2 _ _ e
  ·rw[ag,vf,eu,sE,sE,sI,sI,sE]
   show _=some (HO.lst (V.str (hdw wd m) :: (_++[V.str (pw sg u.2)])))
   rw[ep]
   rfl
 ·rintro σ H2 ⟨⟨c5,c6,c7,rfl⟩,s2,el2⟩
  rw[rn,xt] at el2
  refine ⟨⟨_,rfl⟩,_,rfl, " ",l,_,rfl,rfl,SqL.of el2,kE (λw hw =>?_) ?_,q _ s2⟩
  ·rcases sv.mp hw with rfl | hw
   ·exact lh
   ·obtain ⟨p,hp,rfl⟩:=sJ.mp hw
    obtain ⟨u,hu,rfl⟩:=sJ.mp hp
    obtain ⟨a,b,ep,a0,a1,b0,b1⟩:=W.pr u hu
    exact jE ls ⟨a,b,ep,a0,by omega,b0,by omega⟩
  ·have:=W.len
   rw[rL,rn,rn];omega
end
open PySem L2
def pw2 (sg:Str)(p:List Int):Str:=nT (p.getD 0 0)++sg++nT (p.getD 1 0)
theorem kF (x:Str):Str.empty++x=x:=Str.append_left_empty rfl
theorem oZ (sg:Str):pw sg=pw2 sg:=by
 funext p
 unfold pw pw2
 rw[kF]
def wds (wd sg:Str)(m:Int)(ns:List (List Int)):List Str:=wd :: nT m :: ns.map (pw2 sg)
theorem m9 (wd sg:Str)(m:Int)(ns:List (List Int)):ptx wd sg m ns=Txt.join " " (wds wd sg m ns):=by
 unfold ptx wds Txt.join hdw
 rw[vd,vd,oZ,kF]
 cases ns.map (pw2 sg) with
 | nil=>rfl
 | cons y r =>
  show wd ++ " " ++ nT m ++ " " ++ Str.join " " (y :: r)=wd ++ " " ++ (nT m ++ " " ++ Str.join " " (y :: r))
  apply dE
  simp only[cy,rZ]
abbrev o7:Sp:=λvs H Q _=>∃(r:Addr) (m:Int) (ts:List (Addr×List Int)),vs=[.ref r]/\Wp H r m ts/\0<=m/\m<=40/\∀H',aM H H'->Q (.str (Txt.join " " (wds "web" "-" m (ts.map (·.2))))) H'
@[irreducible] def oy:Sp:=o7
theorem fE {vs:List V}{H:Hp}{Q:VK}{E:XK}:oy vs H Q E↔o7 vs H Q E:=by
 delta oy
 exact vn
section
variable  {P:rO}{w:sC}{K:rk}{mg:Str->Option rg}{base:Heap}{f T:Addr}{fd:sV}
theorem lS:aJ ["web"] ["web"] (aq fz):=⟨rfl,rfl,rfl,by decide +kernel,rfl,by decide +kernel,by decide +kernel⟩
theorem lT (F:Fun K "web_text" "web_text" fz f fd)(B:Blt mg)(cPairsText:Cal P w K mg base 1 "pairs_text" ["word", "web", "sign"] m8)(C:Cst mg):bE P w K mg base CX0 2 f fd ["web"] oy:=by
 refine F.ok lS (λvs H Q E h =>?_) (λcdv A outer s H vs Q E hr h =>?_)
 ·obtain ⟨_,_,_,rfl,_⟩:=fE.mp h
  rfl
 obtain ⟨r,m,ts,rfl,W,m0,m1,q⟩:=fE.mp h
 refine ⟨_,(@ax _ _ _ (@aQ _ _ _ _ (aH cPairsText hr (by decide) rfl (@aa _ _ _ _ _ aT (@aa _ _ _ _ _ (pv 0) (@aa _ _ _ _ _ aT ae rfl) rfl) rfl)))),?_⟩
 refine ⟨_,rfl,dG.mpr ⟨"web", "-",r,m,ts,rfl,W,m0,m1,by decide,by decide,λH1 s1 =>?_⟩⟩
 rw[m9]
 exact q H1 s1
end
abbrev o8:Sp:=λvs H Q _=>∃(r:Addr) (m:Int) (ts:List (Addr×List Int)),vs=[.ref r]/\Wp H r m ts/\0<=m/\m<=40/\∀H',aM H H'->Q (.str (Txt.join " " (wds "ways" ">" m (ts.map (·.2))))) H'
@[irreducible] def oz:Sp:=o8
theorem fF {vs:List V}{H:Hp}{Q:VK}{E:XK}:oz vs H Q E↔o8 vs H Q E:=by
 delta oz
 exact vn
section
variable  {P:rO}{w:sC}{K:rk}{mg:Str->Option rg}{base:Heap}{f T:Addr}{fd:sV}
theorem hU:aJ ["web"] ["web"] (aq cM):=⟨rfl,rfl,rfl,by decide +kernel,rfl,by decide +kernel,by decide +kernel⟩
theorem hV (F:Fun K "oneway_text" "oneway_text" cM f fd)(B:Blt mg)(cPairsText:Cal P w K mg base 1 "pairs_text" ["word", "web", "sign"] m8)(C:Cst mg):bE P w K mg base CX0 2 f fd ["web"] oz:=by
 refine F.ok hU (λvs H Q E h =>?_) (λcdv A outer s H vs Q E hr h =>?_)
 ·obtain ⟨_,_,_,rfl,_⟩:=fF.mp h
  rfl
 obtain ⟨r,m,ts,rfl,W,m0,m1,q⟩:=fF.mp h
 refine ⟨_,(@ax _ _ _ (@aQ _ _ _ _ (aH cPairsText hr (by decide) rfl (@aa _ _ _ _ _ aT (@aa _ _ _ _ _ (pv 0) (@aa _ _ _ _ _ aT ae rfl) rfl) rfl)))),?_⟩
 refine ⟨_,rfl,dG.mpr ⟨"ways", ">",r,m,ts,rfl,W,m0,m1,by decide,by decide,λH1 s1 =>?_⟩⟩
 rw[m9]
 exact q H1 s1
end
abbrev o9:Sp:=λvs H Q _=>∃(l t:Addr) (sg:Str) (m:Int) (ws:List Str) (ts:List (Addr×List Int)),vs=[.ref l,.ref t,.str sg]/\H l=some (.lst (ws.map V.str))/\H t=some (.tup (ts.map λu =>.ref u.1))/\(∀u∈ts,H u.1=some (.tup (u.2.map V.int)))/\(∀u∈ts,∃a b:Int,u.2=[a,b]/\0<=a/\a<m/\0<=b/\b<m)/\m<=40/\ts.length<=200/\ws.length<=50/\(∀w∈ws,w.length<=13)/\sg.length<=2/\∀H',(∀q o,q≠l->H q=some o->H' q=some o)->Q (.str (Txt.join " " (ws++(ts.map (·.2)).map (pw2 sg)))) H'
@[irreducible] def oA:Sp:=o9
theorem dH {vs:List V}{H:Hp}{Q:VK}{E:XK}:oA vs H Q E↔o9 vs H Q E:=by
 delta oA
 exact vn
section
variable  {P:rO}{w:sC}{K:rk}{mg:Str->Option rg}{base:Heap}{f T:Addr}{fd:sV}
theorem dq:aJ ["words", "pairs", "sign", "one", "other"] ["words", "pairs", "sign"] (aq dZ):=⟨rfl,rfl,rfl,by decide +kernel,rfl,by decide +kernel,by decide +kernel⟩
theorem jF (F:Fun K "_law_written" "_law_written" dZ f fd)(B:Blt mg)(C:Cst mg):bE P w K mg base CX0 1 f fd ["words", "pairs", "sign"] oA:=by
 refine F.ok dq (λvs H Q E h =>?_) (λcdv A outer s H vs Q E hr h =>?_)
 ·obtain ⟨_,_,_,_,_,_,rfl,_⟩:=dH.mp h
  rfl
 obtain ⟨l,t,sg,m,ws,ts,rfl,el,et,tt,pr,m1,l2,lw,wl,ls,q⟩:=dH.mp h
 refine ⟨_,(@af _ _ _ _ _ (@dg _ _ _ _ _ _ _ _ uQ rfl (@l7 _ _ _ _ (pv 1)) (l5 rfl (dv (bp (i:=3) dq.nd rfl (Or.inl rfl)) (dv (bp (i:=4) dq.nd rfl (Or.inl rfl)) jM)))
   (@ax _ _ _ (eJ (j0 u0 uS uT cT (pv 0) (@aa _ _ _ _ _ (@aY _ _ _ _ _ _ _ _ eV (@aY _ _ _ _ _ _ _ _ eV (aX bD rfl B.b_str cQ (@aa _ _ _ _ _ (pv 3) ae rfl)) (pv 2)) (aX bD rfl B.b_str cQ (@aa _ _ _ _ _ (pv 4) ae rfl))) ae rfl)))) (λ_=>rfl))
  (@ax _ _ _ (@aQ _ _ _ _ (fv xO xP kr aT (@aa _ _ _ _ _ (pv 0) ae rfl))))),?_⟩
 have nt:t≠l:=ia et el nofun
 refine ⟨_,rfl,t,rfl,⟨_,SqT.of et⟩,jP (xs:=ts.map λu =>.ref u.1) (λi σ H'=>(∃c3 c4,σ=[some (.ref l),some (.ref t),some (.str sg),c3,c4])/\(∀q o,q≠l->H q=some o->H' q=some o)/\H' l=some (.lst ((ws++((ts.take i).map (·.2)).map (pw2 sg)).map V.str))) ⟨⟨_,_,rfl⟩,λq o _ e=>e,by rw[el];simp⟩ (λi σ H' _ k=>SqT.of (k.2.1 _ _ nt et)) ?_ ?_⟩
 ·rintro i x σ H2 hx ⟨⟨c3,c4,rfl⟩,s2,el2⟩
  obtain ⟨u,eu,rfl⟩:=item hx
  have mu:=rT eu
  obtain ⟨a,b,ep,a0,a1,b0,b1⟩:=pr u mu
  have tu:=s2 _ _ (ia (tt u mu) el nofun) (tt u mu)
  rw[ep] at tu
  have ea:=eC a0 (show a<=40 by omega)
  have eb:=eC b0 (show b<=40 by omega)
  have l1:(nT a++sg).length<=4:=by rw[aV];omega
  refine ⟨u.1,_,rfl,SqT.of tu,rfl,_,_,rfl,_,_,rfl,rfl,?_⟩
  refine ⟨_,rfl,.inl ⟨rfl,_,SqL.of el2⟩,_,rfl,a,rfl,dk a0 (by omega),_,rfl,_,_,rfl,rfl,aN (show (nT a).length+sg.length<=5000 by omega),_,rfl,b,rfl,dk b0 (by omega),_,_,rfl,rfl,aN (show (nT a++sg).length+(nT b).length<=5000 by omega),l,_,_,rfl,rfl,el2,?_,⟨_,_,rfl⟩,λq o n e=>by rw[au n];exact s2 q o n e,?_⟩
  ·rw[rn,rC,rn,rn,sA]
   exact fD (by omega)
  ·rw[ag,vf,eu]
   have e:ws++((ts.take i++[u]).map (·.2)).map (pw2 sg)=(ws++((ts.take i).map (·.2)).map (pw2 sg))++[pw2 sg u.2]:=by
    rw[sE,sE, <- rZ];rfl
   show _=some (HO.lst ((ws++((ts.take i++[u]).map (·.2)).map (pw2 sg)).map V.str))
   rw[e,sE (l₁:=ws++_),ep]
   rfl
 ·rintro σ H2 ⟨⟨c3,c4,rfl⟩,s2,el2⟩
  rw[rn,xt] at el2
  refine ⟨⟨_,rfl⟩,_,rfl, " ",l,_,rfl,rfl,SqL.of el2,kE (λw hw =>?_) ?_,q _ s2⟩
  ·rcases rV.mp hw with hw | hw
   ·exact wl w hw
   ·obtain ⟨p,hp,rfl⟩:=sJ.mp hw
    obtain ⟨u,hu,rfl⟩:=sJ.mp hp
    obtain ⟨a,b,ep,a0,a1,b0,b1⟩:=pr u hu
    rw[<- oZ]
    exact jE ls ⟨a,b,ep,a0,by omega,b0,by omega⟩
  ·rw[rC,rn,rn];omega
end
open PySem L2
abbrev qu:Str := "0123456789"
def ng (c:Nat):Bool := !(Builtin.Str.occurrences qu ⟨#[c]⟩ 0 qu.length 1).isEmpty
theorem q4:∀n:Nat,n<41->decide (V.str (nT (n:Int))=V.str "")=false:=by decide +kernel
theorem qv:∀n:Nat,n<41->(nT (n:Int)).cps.toList.all ng=true:=by decide +kernel
theorem nT_z:∀n:Nat,n<41->(Txt.startswith (nT (n:Int)) "0" = false\/decide (V.str (nT (n:Int))=V.str "0")=true):=by decide +kernel
theorem oB:∀k:Nat,k<41->∀n:Nat,n<k+1->(nT (n:Int)).length<=(nT (k:Int)).length:=by decide +kernel
abbrev pf:Sp:=λvs H Q _=>∃n k:Nat,vs=[.str (nT (n:Int)),.int (k:Int)]/\n<=k/\k<=40/\∀H',aM H H'->Q (.int (n:Int)) H'
@[irreducible] def nh:Sp:=pf
theorem cR {vs:List V}{H:Hp}{Q:VK}{E:XK}:nh vs H Q E↔pf vs H Q E:=by
 delta nh
 exact vn
section
variable  {P:rO}{w:sC}{K:rk}{mg:Str->Option rg}{base:Heap}{f T:Addr}{fd:sV}
theorem dI:aJ ["word", "most", "number"] ["word", "most"] (aq cN):=⟨rfl,rfl,rfl,by decide +kernel,rfl,by decide +kernel,by decide +kernel⟩
theorem dJ:(["sign"]:List Str).Nodup:=by decide +kernel
theorem hW (F:Fun K "number_read" "number_read" cN f fd)(B:Blt mg)(C:Cst mg):bE P w K mg base CX0 1 f fd ["word", "most"] nh:=by
 refine F.ok dI (λvs H Q E h =>?_) (λcdv A outer s H vs Q E hr h =>?_)
 ·obtain ⟨_,_,rfl,_⟩:=cR.mp h
  rfl
 obtain ⟨n,k,rfl,nk,k4,q⟩:=cR.mp h
 obtain ⟨t_FIGURES,w_FIGURES⟩:=C.c_FIGURES
 refine ⟨_,(@af _ _ _ _ _ (@bL _ _ _ _ _ _ _ _ (PW.pt (eO (aZ d7 (pv 0) aT (aL _)) (dO (cE (bR (av (iy rfl) rfl B.b_all m5 (@aa _ _ _ _ _ (gM ["sign"] [none] rfl (qp (pv 0)) rfl (λ_ _ _ _ _=>(bp (i:=0) dJ rfl (Or.inl rfl))) (λ_ _ _ _ _=>i8) (λ_ _ _ _ _=>(bN kK (pv 0) (du (v :=.str "0123456789") rfl w_FIGURES ⟨_,rfl⟩) rfl))) ae rfl))))))) aK aP)
  (@af _ _ _ _ _ (@bL _ _ _ _ _ _ _ _ (PW.pt (pL (bR (fv PySem.F.slot_str_startswith PySem.F.type_str_startswith lN (pv 0) (@aa _ _ _ _ _ aT ae rfl))) (nB (aZ mh (pv 0) aT (aL _))))) aK aP)
  (@af _ _ _ _ _ (@bL _ _ _ _ _ _ _ _ (aZ mi (av dw rfl B.b_len cP (@aa _ _ _ _ _ (pv 0) ae rfl)) (av dw rfl B.b_len cP (@aa _ _ _ _ _ (aX bD rfl B.b_str cQ (@aa _ _ _ _ _ (pv 1) ae rfl)) ae rfl)) (aL _)) aK aP)
  (@af _ _ _ _ _ (@aG _ _ 2 _ _ _ _ dI.nd rfl (Or.inl rfl) (aX lP rfl B.b_int m6 (@aa _ _ _ _ _ (pv 0) ae rfl)) rfl (by first | exact .inl rfl | exact .inr rfl | assumption))
  (@af _ _ _ _ _ (@bL _ _ _ _ _ _ _ _ (aZ mi (pv 2) (pv 1) (aL _)) aK aP)
  (@ax _ _ _ (@aQ _ _ _ _ (pv 2)))))))),?_⟩
 have n4:n<41:=by omega
 refine ⟨_,rfl,rfl,_,rfl,?_⟩
 rw[q4 n n4]
 refine bF ⟨_,rfl,nT n,rfl,?_⟩
 have l2:=cf n n4
 refine lO (λi ys H'=>H'=H/\ys=(vq i true).map V.bl) ⟨rfl,rfl⟩ (small (by show (nT (n:Int)).length<=1000;omega)) ?_ ?_
 ·rintro i c ys H' hc hy ⟨rfl,rfl⟩ R1 R0 r1 r0
  have fc:ng c=true:=vt.mp (qv n n4) c (rT (by rw[rq];exact hc))
  refine eZ ⟨_,rfl,⟨#[c]⟩,qu,rfl,rfl,?_⟩
  show R1 (V.bl (ng c)) H'
  rw[fc]
  refine r1 _ _ ⟨rfl,?_⟩
  rw[x6,sE];rfl
 rintro ys H' hy ⟨rfl,rfl⟩ l hl
 have al:∀j:Nat,(vq j true).all id=true:=λj=>by simp
 have g1:=ah hl (.lst ((vq (nT (n:Int)).cps.size true).map V.bl))
 refine ⟨l,_,rfl,SqL.of ag,?_⟩
 rw[al]
 have mo:=oB k (by omega) n (by omega)
 have lk:=cf k (by omega)
 refine ⟨_,rfl,bF ⟨_,rfl,⟨_,rfl⟩,nT n, "0",rfl,rfl,_,rfl,?_⟩⟩
 cases hz:Txt.startswith (nT (n:Int)) "0" with
 | false =>
  refine bF (bF ?_)
  refine ⟨_,rfl,nT n,rfl,aN (by omega),_,rfl,(k:Int),rfl,dk (by omega) (by omega),nT k,rfl,aN (by omega),_,_,rfl,rfl,_,rfl,?_⟩
  rw[decide_eq_false (show ¬ ((nT (k:Int)).length:Int)<((nT (n:Int)).length:Int) by omega)]
  refine bF ⟨_,rfl,nT n,(n:Int),rfl,xQ (by omega) (by omega),by omega,_,rfl,_,rfl,_,_,rfl,rfl,_,rfl,?_⟩
  rw[decide_eq_false (show ¬ (k:Int)<(n:Int) by omega)]
  exact bF ⟨_,rfl,q _ g1⟩
 | true =>
  have z:=(nT_z n n4).resolve_left (by rw[hz];decide)
  refine eZ ⟨_,rfl,rfl,_,rfl,?_⟩
  rw[z]
  refine bF ?_
  refine ⟨_,rfl,nT n,rfl,aN (by omega),_,rfl,(k:Int),rfl,dk (by omega) (by omega),nT k,rfl,aN (by omega),_,_,rfl,rfl,_,rfl,?_⟩
  rw[decide_eq_false (show ¬ ((nT (k:Int)).length:Int)<((nT (n:Int)).length:Int) by omega)]
  refine bF ⟨_,rfl,nT n,(n:Int),rfl,xQ (by omega) (by omega),by omega,_,rfl,_,rfl,_,_,rfl,rfl,_,rfl,?_⟩
  rw[decide_eq_false (show ¬ (k:Int)<(n:Int) by omega)]
  exact bF ⟨_,rfl,q _ g1⟩
end
open PySem L2
theorem eM:∀n:Nat,n<41->(45∉(nT (n:Int)).cps.toList/\62∉(nT (n:Int)).cps.toList)/\32∉(nT (n:Int)).cps.toList:=by decide +kernel
abbrev sgn (c:Nat):Str:=⟨#[c]⟩
abbrev ph:Sp:=λvs H Q _=>∃c a b m:Nat,vs=[.str (pw2 (sgn c) [(a:Int),(b:Int)]),.int (m:Int),.str (sgn c)]/\(c=45\/c=62)/\a<m/\b<m/\m<=40/\∀(t:Addr) (H':Hp),aM H H'->H t=none->H' t=some (.tup ([(a:Int),(b:Int)].map V.int))->Q (.ref t) H'
@[irreducible] def oD:Sp:=ph
theorem fG {vs:List V}{H:Hp}{Q:VK}{E:XK}:oD vs H Q E↔ph vs H Q E:=by
 delta oD
 exact vn
section
variable  {P:rO}{w:sC}{K:rk}{mg:Str->Option rg}{base:Heap}{f T:Addr}{fd:sV}
theorem cB:aJ ["word", "many", "sign", "halves", "one", "other"] ["word", "many", "sign"] (aq dY):=⟨rfl,rfl,rfl,by decide +kernel,rfl,by decide +kernel,by decide +kernel⟩
theorem jG (F:Fun K "pair_read" "pair_read" dY f fd)(B:Blt mg)(cNumberRead:Cal P w K mg base 1 "number_read" ["word", "most"] nh)(C:Cst mg):bE P w K mg base CX0 2 f fd ["word", "many", "sign"] oD:=by
 refine F.ok cB (λvs H Q E h =>?_) (λcdv A outer s H vs Q E hr h =>?_)
 ·obtain ⟨_,_,_,_,rfl,_⟩:=fG.mp h
  rfl
 obtain ⟨c,a,b,m,rfl,hc,am,bm,m4,q⟩:=fG.mp h
 refine ⟨_,(@af _ _ _ _ _ (@aG _ _ 3 _ _ _ _ cB.nd rfl (Or.inl rfl) (fv PySem.F.slot_str_partition PySem.F.type_str_partition gY (pv 0) (@aa _ _ _ _ _ (pv 2) ae rfl)) rfl (by first | exact .inl rfl | exact .inr rfl | assumption))
  (@af _ _ _ _ _ (@aG _ _ 4 _ _ _ _ cB.nd rfl (Or.inl rfl) (aH cNumberRead hr (by decide) rfl (@aa _ _ _ _ _ (@bH _ _ _ _ _ _ _ bY (pv 3) ai (λ_ _=>rfl)) (@aa _ _ _ _ _ (@aY _ _ _ _ _ _ _ _ i3 (pv 1) ai) ae rfl) rfl)) rfl (by first | exact .inl rfl | exact .inr rfl | assumption))
  (@af _ _ _ _ _ (@aG _ _ 5 _ _ _ _ cB.nd rfl (Or.inl rfl) (aH cNumberRead hr (by decide) rfl (@aa _ _ _ _ _ (@bH _ _ _ _ _ _ _ bY (pv 3) ai (λ_ _=>rfl)) (@aa _ _ _ _ _ (@aY _ _ _ _ _ _ _ _ i3 (pv 1) ai) ae rfl) rfl)) rfl (by first | exact .inl rfl | exact .inr rfl | assumption))
  (@af _ _ _ _ _ (@bL _ _ _ _ _ _ _ _ (PW.pt (eO (aZ gJ (pv 4) gG (aL _)) (dO (aZ gJ (pv 5) gG (aL _))))) aK aP)
  (@ax _ _ _ (@aQ _ _ _ _ (@cI _ _ _ _ _ (@aa _ _ _ _ _ (pv 4) (@aa _ _ _ _ _ (pv 5) ae rfl) rfl)))))))),?_⟩
 have fa:=eM a (by omega)
 have fc:c∉(nT (a:Int)).cps.toList:=by rcases hc with rfl | rfl;exact fa.1.1;exact fa.1.2
 have la:=cf a (by omega)
 have lb:=cf b (by omega)
 have lw:(pw2 (sgn c) [(a:Int),(b:Int)]).length<=5:=by
  show (nT (a:Int)++sgn c++nT (b:Int)).length<=5
  rw[aV,aV]
  show (nT (a:Int)).length+1+(nT (b:Int)).length<=5
  omega
 refine ⟨_,rfl,⟨_,rfl⟩,_,rfl,_,sgn c,rfl,rfl,rfl,aN (by omega),λp hp =>?_⟩
 rw[show parted (pw2 (sgn c) [(a:Int),(b:Int)]) (sgn c)=[nT a,sgn c,nT b] from lQ fc]
 have g1:=ah hp (.tup ([nT (a:Int),sgn c,nT (b:Int)].map V.str))
 have ep:upd H p (.tup ([nT (a:Int),sgn c,nT (b:Int)].map V.str)) p=some (.tup ([nT (a:Int),sgn c,nT (b:Int)].map V.str)):=ag
 generalize upd H p (.tup ([nT (a:Int),sgn c,nT (b:Int)].map V.str))=H1 at g1 ep
 have em:((m:Int)-1)=((m-1:Nat):Int):=by omega
 refine ⟨_,rfl,p,_,0,.str (nT a),rfl,rfl,SqT.of ep,rfl,_,rfl,_,_,rfl,rfl,?_⟩
 refine cR.mpr ⟨a,m-1,(by show [V.str (nT (a:Int)),V.int ((m:Int)-1)]=_;rw[em]),by omega,by omega,λH2 s2 =>?_⟩
 refine ⟨_,rfl,p,_,2,.str (nT b),rfl,rfl,SqT.of (s2 _ _ ep),rfl,_,rfl,_,_,rfl,rfl,?_⟩
 refine cR.mpr ⟨b,m-1,(by show [V.str (nT (b:Int)),V.int ((m:Int)-1)]=_;rw[em]),by omega,by omega,λH3 s3 =>?_⟩
 have s13:=(g1.trans s2).trans s3
 exact ⟨_,rfl,rfl,_,rfl,bF ⟨_,rfl,rfl,_,rfl,bF ⟨_,rfl,_,rfl,(by show 2<=rN;decide),λt ht=>q t _ (s13.trans (ah ht _)) (s13.free ht) ag⟩⟩⟩
end
open PySem L2
theorem ni:∀{ws:List Str},(∀w∈ws,w.length<=13)->(ws.map (·.length)).sum<=13*ws.length
 | [],_=>by simp
 | w :: ws,h=>by
  have a:=h w rK
  have b:=ni λx hx=>h x (r6 _ hx)
  rw[sI,List.sum_cons,rL]
  omega
theorem join_le {ws:List Str}(h:∀w∈ws,w.length<=13)(l:ws.length<=300):(Txt.join " " ws).length<=4200:=by
 have a:=StrLaws.join_length_le " " ws
 have b:=ni h
 show (Builtin.Str.glued " " ws).length<=4200
 rw[vd]
 rw[ow] at a
 omega
abbrev pk:Sp:=λvs H Q _=>∃ws:List Str,vs=[.str (Txt.join " " ws)]/\ws≠[]/\(∀w∈ws,w.length<=13/\32∉w.cps.toList)/\ws.length<=300/\∀(l:Addr) (H':Hp),aM H H'->H l=none->H' l=some (.lst (ws.map V.str))->Q (.ref l) H'
@[irreducible] def oE:Sp:=pk
theorem fH {vs:List V}{H:Hp}{Q:VK}{E:XK}:oE vs H Q E↔pk vs H Q E:=by
 delta oE
 exact vn
section
variable  {P:rO}{w:sC}{K:rk}{mg:Str->Option rg}{base:Heap}{f T:Addr}{fd:sV}
theorem lU:aJ ["thing"] ["thing"] (aq fA):=⟨rfl,rfl,rfl,by decide +kernel,rfl,by decide +kernel,by decide +kernel⟩
theorem lV (F:Fun K "words_of" "words_of" fA f fd)(B:Blt mg)(C:Cst mg):bE P w K mg base CX0 1 f fd ["thing"] oE:=by
 refine F.ok lU (λvs H Q E h =>?_) (λcdv A outer s H vs Q E hr h =>?_)
 ·obtain ⟨_,rfl,_⟩:=fH.mp h
  rfl
 obtain ⟨ws,rfl,ne,hw,l3,q⟩:=fH.mp h
 refine ⟨_,(@af _ _ _ _ _ (@bL _ _ _ _ _ _ _ _ (cE (bR (av a9 rfl B.b_isinstance aI (@aa _ _ _ _ _ (pv 0) (@aa _ _ _ _ _ (bC (v :=.ty "str") rfl B.b_str cQ rfl) ae rfl) rfl)))) aK aP)
  (@ax _ _ _ (@aQ _ _ _ _ (fv u6 PySem.F.type_str_split mV (pv 0) (@aa _ _ _ _ _ aT ae rfl))))),?_⟩
 have jl:=join_le (λw h=>(hw w h).1) l3
 refine ⟨_,rfl,.str (Txt.join " " ws), "str",_,true,rfl,.str (Txt.join " " ws),rfl,_,rfl,bF ?_⟩
 refine ⟨_,rfl,⟨_,rfl⟩,Txt.join " " ws, " ",rfl,rfl,rfl,aN (by omega),?_,λl hl =>?_⟩
 ·have e1:=StrLaws.occ_length_le_len (Txt.join " " ws) " " 0 (Txt.join " " ws).length ((Txt.join " " ws).length+1)
  rw[length_partsBetween]
  exact aN (by omega)
 ·have sj:Txt.split (Txt.join " " ws) " " = ws:=gZ (c:=32) ne λp hp=>(hw p hp).2
  rw[sj]
  exact q l _ (ah hl _) hl ag
end
open PySem L2
theorem fI {α:Type}{us:List α}{u:α}(h:us.getLast? = some u)(f:α -> V):atI (us.map f) (-1)=some (f u):=by
 obtain ⟨ys,rfl⟩:∃ys,us=ys++[u]:=by
  rcases v3 us with e | ⟨ys,x,e⟩
  ·rw[e] at h;cases h
  ·rw[v5] at e
   rw[e,wj] at h
   exact ⟨ys,by rw[e,r9 h]⟩
 rw[sE]
 exact ml _ _
abbrev pq:Sp:=λvs H Q _=>∃(l t:Addr) (us:List (Addr×List Int)) (a b:Int),vs=[.ref l,.ref t]/\H l=some (.lst (us.map λu =>.ref u.1))/\(∀u∈us,H u.1=some (.tup (u.2.map V.int)))/\H t=some (.tup ([a,b].map V.int))/\us.length<=300/\a<=b/\(∀u,us.getLast? = some u->HT.lexLe u.2 [a,b]=true)/\∀H',aM H H'->Q (.bl true) H'
@[irreducible] def oF:Sp:=pq
theorem fJ {vs:List V}{H:Hp}{Q:VK}{E:XK}:oF vs H Q E↔pq vs H Q E:=by
 delta oF
 exact vn
section
variable  {P:rO}{w:sC}{K:rk}{mg:Str->Option rg}{base:Heap}{f T:Addr}{fd:sV}
theorem fY:aJ ["pairs", "pair"] ["pairs", "pair"] (aq cz):=⟨rfl,rfl,rfl,by decide +kernel,rfl,by decide +kernel,by decide +kernel⟩
theorem fZ (F:Fun K "is_tie_behind" "is_tie_behind" cz f fd)(B:Blt mg)(C:Cst mg):bE P w K mg base CX0 1 f fd ["pairs", "pair"] oF:=by
 refine F.ok fY (λvs H Q E h =>?_) (λcdv A outer s H vs Q E hr h =>?_)
 ·obtain ⟨_,_,_,_,_,rfl,_⟩:=fJ.mp h
  rfl
 obtain ⟨l,t,us,a,b,rfl,el,tu,et,l3,ab,la,q⟩:=fJ.mp h
 refine ⟨_,(@ax _ _ _ (@aQ _ _ _ _ (eQ (bN qN (@bH _ _ _ _ _ _ _ bY (pv 1) ai (λ_ _=>rfl)) (@bH _ _ _ _ _ _ _ bY (pv 1) ai (λ_ _=>rfl)) (aL _)) (dP (oO (bN d7 (av ba rfl B.b_len cP (@aa _ _ _ _ _ (pv 0) ae rfl)) ai (aL _)) (dP (bN (qr (uJ (tO _ 8) (hu8 hr))) (@bH _ _ _ _ _ _ _ bX (pv 0) (oP me ai) (λ_ _=>rfl)) (pv 1) (aL _)))))))),?_⟩
 refine ⟨_,rfl,t,_,0,.int a,rfl,rfl,SqT.of et,rfl,_,rfl,t,_,1,.int b,rfl,rfl,SqT.of et,rfl,_,_,rfl,rfl,_,rfl,?_⟩
 rw[decide_eq_true ab]
 refine eZ ⟨_,rfl,l,_,rfl,.inl (SqL.of el),rfl,_,rfl,?_⟩
 rcases v3 us with hu | ⟨ys,u,hu⟩
 ·subst hu
  exact q _ (aM.refl _)
 rw[v5] at hu
 have gl:us.getLast? = some u:=by rw[hu,wj]
 have mu:u∈us:=by rw[hu];exact rS _ rK
 have ne:decide (V.int ((us.map λu=>V.ref u.1).length:Int)=V.int 0)=false:=decide_eq_false λz=>by
  have:=V.int.inj z
  rw[hu,sE,rC] at this
  simp at this
  omega
 rw[ne]
 refine bF ⟨_,rfl,1,rfl,l,_, -1,.ref u.1,rfl,rfl,SqL.of el,fI gl _,_,rfl,u.1,t,u.2,[a,b],rfl,rfl,SqT.of (tu u mu),SqT.of et,?_⟩
 rw[la u gl]
 exact q _ (aM.refl _)
end
abbrev px:Sp:=λvs H Q _=>∃(l t:Addr) (us:List (Addr×List Int)) (a b:Int),vs=[.ref l,.ref t]/\H l=some (.lst (us.map λu =>.ref u.1))/\(∀u∈us,H u.1=some (.tup (u.2.map V.int)))/\H t=some (.tup ([a,b].map V.int))/\us.length<=300/\(∀u,us.getLast? = some u->HT.lexLt u.2 [a,b]=true)/\∀H',aM H H'->Q (.bl true) H'
@[irreducible] def oG:Sp:=px
theorem fK {vs:List V}{H:Hp}{Q:VK}{E:XK}:oG vs H Q E↔px vs H Q E:=by
 delta oG
 exact vn
section
variable  {P:rO}{w:sC}{K:rk}{mg:Str->Option rg}{base:Heap}{f T:Addr}{fd:sV}
theorem eG:aJ ["pairs", "pair"] ["pairs", "pair"] (aq bV):=⟨rfl,rfl,rfl,by decide +kernel,rfl,by decide +kernel,by decide +kernel⟩
theorem eI (F:Fun K "is_arrow_behind" "is_arrow_behind" bV f fd)(B:Blt mg)(C:Cst mg):bE P w K mg base CX0 1 f fd ["pairs", "pair"] oG:=by
 refine F.ok eG (λvs H Q E h =>?_) (λcdv A outer s H vs Q E hr h =>?_)
 ·obtain ⟨_,_,_,_,_,rfl,_⟩:=fK.mp h
  rfl
 obtain ⟨l,t,us,a,b,rfl,el,tu,et,l3,la,q⟩:=fK.mp h
 refine ⟨_,(@ax _ _ _ (@aQ _ _ _ _ (oO (bN d7 (av ba rfl B.b_len cP (@aa _ _ _ _ _ (pv 0) ae rfl)) ai (aL _)) (dP (bN (pV (uJ (tO _ 8) (hu8 hr))) (@bH _ _ _ _ _ _ _ bX (pv 0) (oP me ai) (λ_ _=>rfl)) (pv 1) (aL _)))))),?_⟩
 refine ⟨_,rfl,l,_,rfl,.inl (SqL.of el),rfl,_,rfl,?_⟩
 rcases v3 us with hu | ⟨ys,u,hu⟩
 ·subst hu
  exact q _ (aM.refl _)
 rw[v5] at hu
 have gl:us.getLast? = some u:=by rw[hu,wj]
 have mu:u∈us:=by rw[hu];exact rS _ rK
 have ne:decide (V.int ((us.map λu=>V.ref u.1).length:Int)=V.int 0)=false:=decide_eq_false λz=>by
  have:=V.int.inj z
  rw[hu,sE,rC] at this
  simp at this
  omega
 rw[ne]
 refine bF ⟨_,rfl,1,rfl,l,_, -1,.ref u.1,rfl,rfl,SqL.of el,fI gl _,_,rfl,u.1,t,u.2,[a,b],rfl,rfl,SqT.of (tu u mu),SqT.of et,?_⟩
 rw[la u gl]
 exact q _ (aM.refl _)
end
open PySem L2
theorem nj {c:Nat}(hc:c=45\/c=62){a b m:Nat}(am:a<m)(bm:b<m)(m4:m<=40):(pw2 (sgn c) [(a:Int),(b:Int)]).length<=13/\32∉(pw2 (sgn c) [(a:Int),(b:Int)]).cps.toList:=by
 have fa:=(eM a (by omega)).2
 have fb:=(eM b (by omega)).2
 have la:=cf a (by omega)
 have lb:=cf b (by omega)
 constructor
 ·show (nT (a:Int)++sgn c++nT (b:Int)).length<=13
  rw[aV,aV]
  show (nT (a:Int)).length+1+(nT (b:Int)).length<=13
  omega
 ·show 32∉(nT (a:Int)++sgn c++nT (b:Int)).cps.toList
  rw[cy,cy,rV,rV]
  rintro ((h | h) | h)
  ·exact fa h
  ·have:(32:Nat)=c:=by simpa using h
   omega
  ·exact fb h
def Pl (m:Nat)(ns:List (List Int)):Prop:=∀p∈ns,∃a b:Nat,p=[(a:Int),(b:Int)]/\a<m/\b<m
theorem nq {wd:Str}{c m:Nat}{ns:List (List Int)}(hc:c=45\/c=62)(hw:wd.length<=13/\32∉wd.cps.toList)(m4:m<=40)(h:Pl m ns):∀w∈wds wd (sgn c) m ns,w.length<=13/\32∉w.cps.toList:=by
 intro w hm
 unfold wds at hm
 rcases sv.mp hm with rfl | hm
 ·exact hw
 rcases sv.mp hm with rfl | hm
 ·exact ⟨su (cf m (by omega)) (by decide),(eM m (by omega)).2⟩
 obtain ⟨p,hp,rfl⟩:=sJ.mp hm
 obtain ⟨a,b,rfl,am,bm⟩:=h p hp
 exact nj hc am bm m4
theorem cut2 (a b:Str)(ws:List Str):gK ((a :: b :: ws).map V.str) (some 2) none=ws.map V.str:=by
 unfold gK HT.sIx
 simp
 rw[sN (by rw[rn];exact rA _)]
@[irreducible] def fL (P:rO)(w:sC)(K:rk)(mg:Str->Option rg)(base:Heap):Sp:=λvs H Q _=>∃(wd:Str) (c m:Nat) (ns:List (List Int)) (f:Addr) (sp:Sp),vs=[.str (Txt.join " " (wds wd (sgn c) m ns)),.str wd,.str (sgn c),.ref f]/\(c=45\/c=62)/\(wd.length<=13/\32∉wd.cps.toList)/\m<=40/\Pl m ns/\ns.length<=200/\oo P w K mg base 1 f ["pairs", "pair"] sp/\(∀(i:Nat) (l t:Addr) (us:List (Addr×List Int)) (a b:Int) (H1:Hp) (Q1:VK),ns[i]? = some [a,b]->us.map (·.2)=ns.take i->H1 l=some (.lst (us.map λu =>.ref u.1))->(∀u∈us,H1 u.1=some (.tup (u.2.map V.int)))->H1 t=some (.tup ([a,b].map V.int))->(∀H2,aM H1 H2->Q1 (.bl true) H2)->sp [.ref l,.ref t] H1 Q1 E0)/\∀(r:Addr) (ts:List (Addr×List Int)) (H':Hp),aM H H'->Wp H' r m ts->ts.map (·.2)=ns->Q (.ref r) H'
theorem cC {P:rO}{w:sC}{K:rk}{mg:Str->Option rg}{base:Heap}{vs:List V}{H:Hp}{Q:VK}{E:XK}:fL P w K mg base vs H Q E↔∃(wd:Str) (c m:Nat) (ns:List (List Int)) (f:Addr) (sp:Sp),vs=[.str (Txt.join " " (wds wd (sgn c) m ns)),.str wd,.str (sgn c),.ref f]/\(c=45\/c=62)/\(wd.length<=13/\32∉wd.cps.toList)/\m<=40/\Pl m ns/\ns.length<=200/\oo P w K mg base 1 f ["pairs", "pair"] sp/\(∀(i:Nat) (l t:Addr) (us:List (Addr×List Int)) (a b:Int) (H1:Hp) (Q1:VK),ns[i]? = some [a,b]->us.map (·.2)=ns.take i->H1 l=some (.lst (us.map λu =>.ref u.1))->(∀u∈us,H1 u.1=some (.tup (u.2.map V.int)))->H1 t=some (.tup ([a,b].map V.int))->(∀H2,aM H1 H2->Q1 (.bl true) H2)->sp [.ref l,.ref t] H1 Q1 E0)/\∀(r:Addr) (ts:List (Addr×List Int)) (H':Hp),aM H H'->Wp H' r m ts->ts.map (·.2)=ns->Q (.ref r) H':=by
 delta fL
 exact vn
section
variable  {P:rO}{w:sC}{K:rk}{mg:Str->Option rg}{base:Heap}{f T:Addr}{fd:sV}
theorem bB:aJ ["thing", "word", "sign", "can_stand", "words", "many", "pairs", "text", "pair"] ["thing", "word", "sign", "can_stand"] (aq di):=⟨rfl,rfl,rfl,by decide +kernel,rfl,by decide +kernel,by decide +kernel⟩
theorem iU (F:Fun K "pairs_read" "pairs_read" di f fd)(B:Blt mg)(cWordsOf:Cal P w K mg base 1 "words_of" ["thing"] oE)(cNumberRead:Cal P w K mg base 1 "number_read" ["word", "most"] nh)(cPairRead:Cal P w K mg base 2 "pair_read" ["word", "many", "sign"] oD)(C:Cst mg):bE P w K mg base CX0 3 f fd ["thing", "word", "sign", "can_stand"] (fL P w K mg base):=by
 refine F.ok bB (λvs H Q E h =>?_) (λcdv A outer s H vs Q E hr h =>?_)
 ·obtain ⟨_,_,_,_,_,_,rfl,_⟩:=cC.mp h
  rfl
 obtain ⟨wd,c,m,ns,f',sp,rfl,hc,hw,m4,pl,l2,CF,cs,q⟩:=cC.mp h
 obtain ⟨t_MOST_PLACES,w_MOST_PLACES⟩:=C.c_MOST_PLACES
 obtain ⟨t_MOST_TIES,w_MOST_TIES⟩:=C.c_MOST_TIES
 refine ⟨_,(@af _ _ _ _ _ (@aG _ _ 4 _ _ _ _ bB.nd rfl (Or.inl rfl) (aH cWordsOf hr (by decide) rfl (@aa _ _ _ _ _ (pv 0) ae rfl)) rfl (by first | exact .inl rfl | exact .inr rfl | assumption))
  (@af _ _ _ _ _ (@bL _ _ _ _ _ _ _ _ (aZ mh (@bH _ _ _ _ _ _ _ bX (pv 4) ai (λ_ _=>rfl)) (pv 1) (aL _)) aK aP)
  (@af _ _ _ _ _ (@bL _ _ _ _ _ _ _ _ (aZ d7 (av ba rfl B.b_len cP (@aa _ _ _ _ _ (pv 4) ae rfl)) ai (aL _)) aK aP)
  (@af _ _ _ _ _ (@aG _ _ 5 _ _ _ _ bB.nd rfl (Or.inl rfl) (aH cNumberRead hr (by decide) rfl (@aa _ _ _ _ _ (@bH _ _ _ _ _ _ _ bX (pv 4) ai (λ_ _=>rfl)) (@aa _ _ _ _ _ (du (v :=.int 40) rfl w_MOST_PLACES ⟨_,rfl⟩) ae rfl) rfl)) rfl (by first | exact .inl rfl | exact .inr rfl | assumption))
  (@af _ _ _ _ _ (@bL _ _ _ _ _ _ _ _ (aZ gJ (pv 5) gG (aL _)) aK aP)
  (@af _ _ _ _ _ (@aG _ _ 6 _ _ _ _ bB.nd rfl (Or.inl rfl) (@cp _ _ _ _ ae) rfl (by first | exact .inl rfl | exact .inr rfl | assumption))
  (@af _ _ _ _ _ (@dg _ _ _ _ _ _ _ _ uQ rfl (@gH _ _ _ _ (iq jZ (pv 4) (jV ai) jU)) (bp (i:=7) bB.nd rfl (Or.inl rfl))
   (@af _ _ _ _ _ (@aG _ _ 8 _ _ _ _ bB.nd rfl (Or.inl rfl) (aH cPairRead hr (by decide) rfl (@aa _ _ _ _ _ (pv 7) (@aa _ _ _ _ _ (pv 5) (@aa _ _ _ _ _ (pv 2) ae rfl) rfl) rfl)) rfl (by first | exact .inl rfl | exact .inr rfl | assumption))
   (@af _ _ _ _ _ (@bL _ _ _ _ _ _ _ _ (PW.pt (eO (aZ gJ (pv 8) gG (aL _)) (eO (aZ d7 (av ba rfl B.b_len cP (@aa _ _ _ _ _ (pv 6) ae rfl)) (du (v :=.int 200) rfl w_MOST_TIES ⟨_,rfl⟩) (aL _)) (dO (cE (bR (mY 1 (pv 3) hr (by decide) (@aa _ _ _ _ _ (pv 6) (@aa _ _ _ _ _ (pv 8) ae rfl) rfl)))))))) aK aP)
   (@ax _ _ _ (eJ (j0 u0 uS uT cT (pv 6) (@aa _ _ _ _ _ (pv 8) ae rfl)))))) (λ_=>rfl))
  (@ax _ _ _ (@aQ _ _ _ _ (@cI _ _ _ _ _ (@aa _ _ _ _ _ (pv 5) (@aa _ _ _ _ _ (aX bZ rfl B.b_tuple bW (@aa _ _ _ _ _ (pv 6) ae rfl)) ae rfl) rfl))))))))))),?_⟩
 have wf:=nq hc hw m4 pl
 refine ⟨_,rfl,fH.mpr ⟨_,rfl,(by unfold wds;simp),wf,(by unfold wds;rw[rL,rL,rn];omega),λl H1 s1 hl el =>?_⟩⟩
 refine ⟨_,rfl,l,_,0,.str wd,rfl,rfl,SqL.of el,jY (j:=0) rfl,_,rfl,rfl,_,rfl,?_⟩
 rw[decide_eq_true (rfl:V.str wd=V.str wd)]
 refine bF ⟨_,rfl,l,_,rfl,.inl (SqL.of el),rfl,_,rfl,?_⟩
 rw[decide_eq_false λz=>by
  have:=V.int.inj z
  unfold wds at this
  rw[rn,rL,rL] at this
  omega]
 refine bF ⟨_,rfl,l,_,1,.str (nT m),rfl,rfl,SqL.of el,jY (j:=1) rfl,cR.mpr ⟨m,40,rfl,m4,by decide,λH2 s2 =>?_⟩⟩
 refine ⟨_,rfl,rfl,_,rfl,bF ⟨(by show 0<=rN;decide),λlp hlp =>?_⟩⟩
 have g3:=ah hlp (.lst [])
 have el3:=g3 _ _ (s2 _ _ el)
 have elp:upd H2 lp (.lst []) lp=some (.lst []):=ag
 have s13:=(s1.trans s2).trans g3
 generalize upd H2 lp (.lst [])=H3 at g3 el3 elp s13
 refine ⟨_,rfl,2,rfl,l,_,rfl,SqL.of el3,λw2 hw2 =>?_⟩
 have cu:gK ((wds wd (sgn c) m ns).map V.str) (some 2) none=(ns.map (pw2 (sgn c))).map V.str:=cut2 wd (nT m) _
 rw[cu]
 have g4:=ah hw2 (.lst ((ns.map (pw2 (sgn c))).map V.str))
 have ew2:upd H3 w2 (.lst ((ns.map (pw2 (sgn c))).map V.str)) w2=some (.lst ((ns.map (pw2 (sgn c))).map V.str)):=ag
 have nw:w2≠lp:=λz=>by rw[z,elp] at hw2;cases hw2
 have elp4:=g4 _ _ elp
 have s14:=s13.trans g4
 have hlp1:H lp=none:=(s1.trans s2).free hlp
 generalize upd H3 w2 (.lst ((ns.map (pw2 (sgn c))).map V.str))=H4 at g4 ew2 elp4 s14
 refine ⟨w2,rfl,⟨_,SqL.of ew2⟩,ij (xs:=(ns.map (pw2 (sgn c))).map V.str) (λi σ H'=>∃(us:List (Addr×List Int)) (c7 c8:Option V),σ=[some (.str (Txt.join " " (wds wd (sgn c) m ns))),some (.str wd),some (.str (sgn c)),some (.ref f'),some (.ref l),some (.int m),some (.ref lp),c7,c8]/\(∀q o,q≠lp->H4 q=some o->H' q=some o)/\H' lp=some (.lst (us.map λu =>.ref u.1))/\(∀u∈us,H' u.1=some (.tup (u.2.map V.int)))/\us.map (·.2)=ns.take i) ⟨[],_,_,rfl,λq o _ e=>e,elp4,(λu h=>nomatch h),rfl⟩ (λi σ H' _ ⟨us,c7,c8,_,k,_⟩=>SqL.of (k _ _ nw ew2)) ?_ ?_⟩
 ·rintro i x σ H5 hx ⟨us,c7,c8,rfl,k5,el5,tu5,eu5⟩
  rw[sf,sf] at hx
  obtain ⟨p,hp,rfl⟩:∃p,ns[i]? = some p/\x=V.str (pw2 (sgn c) p):=by
   cases h:ns[i]? with
   | none=>rw[h] at hx;cases hx
   | some p=>rw[h] at hx;exact ⟨p,rfl,(r9 hx).symm⟩
  obtain ⟨a,b,rfl,am,bm⟩:=pl p (rT hp)
  have li:=(rE.mp hp).1
  have lu:us.length=i:=by
   have:=congrArg List.length eu5
   rw[rn,sA] at this
   omega
  refine ⟨_,rfl,_,rfl,_,rfl,fG.mpr ⟨c,a,b,m,rfl,hc,am,bm,m4,λt H6 s6 ht et =>?_⟩⟩
  have el6:=s6 _ _ el5
  refine ⟨_,rfl,rfl,_,rfl,bF ⟨_,rfl,lp,_,rfl,.inl (SqL.of el6),rfl,_,rfl,?_⟩⟩
  rw[decide_eq_false λz=>by
   have:=V.int.inj z
   rw[rn] at this
   omega]
  refine bF ⟨_,rfl,f',_,sp,rfl,CF,_,rfl,_,rfl,cs i lp t us a b H6 _ hp eu5 el6 (λu hu=>s6 _ _ (tu5 u hu)) et λH7 s7=>⟨_,rfl,bF ?_⟩⟩
  have s67:=s6.trans s7
  have el7:=s67 _ _ el5
  have nt:t≠lp:=λz=>by rw[z,el5] at ht;cases ht
  refine ⟨_,rfl,.inl ⟨rfl,_,SqL.of el7⟩,_,rfl,lp,_,_,rfl,rfl,el7,?_,us++[(t,[(a:Int),(b:Int)])],_,_,rfl,λq o n e=>by rw[au n];exact s67 _ _ (k5 q o n e),?_,λu hu =>?_,?_⟩
  ·rw[rn];exact fD (by omega)
  ·rw[ag,sE];rfl
  ·rcases rV.mp hu with y | y
   ·have:=s67 _ _ (tu5 u y)
    rw[au (ia this el7 nofun)];exact this
   ·rw[sq.mp y,au nt];exact s7 _ _ et
  ·rw[sE,eu5,vf,hp];rfl
 ·rintro σ H5 ⟨us,c7,c8,rfl,k5,el5,tu5,eu5⟩
  rw[rn,rn,xt] at eu5
  refine ⟨_,rfl,_,rfl,lp,_,rfl,.inl ⟨SqL.of el5,λtt htt=>⟨(by show 2<=rN;decide),λr hr' =>?_⟩⟩⟩
  have g6:=ah htt (.tup (us.map λu =>.ref u.1))
  have g7:=ah hr' (.tup [.int m,.ref tt])
  have sl:=congrArg List.length eu5
  rw[rn] at sl
  refine q r us _ (λq o e=>(g6.trans g7) _ _ (k5 q o (ak e hlp1) (s14 _ _ e))) ⟨⟨tt,ag,g7 _ _ ag⟩,λu hu=>(g6.trans g7) _ _ (tu5 u hu),λu hu =>?_,by omega⟩ eu5
  obtain ⟨a,b,e,am,bm⟩:=pl u.2 (by rw[<- eu5];exact List.mem_map_of_mem (f:=(·.2)) hu)
  exact ⟨a,b,e,by omega,by omega,by omega,by omega⟩
end
open PySem L2
def Beh (R:List Int->List Int->Bool)(ns:List (List Int)):Prop:=∀(i:Nat) (p q:List Int),ns[i]? = some p->ns[i+1]? = some q->R p q=true
theorem iV {R:List Int->List Int->Bool}{ns:List (List Int)}(h:Beh R ns){i:Nat}{q:List Int}{us:List (Addr×List Int)}{u:Addr×List Int}(e:ns[i]? = some q)(eu:us.map (·.2)=ns.take i)(gl:us.getLast? = some u):R u.2 q=true:=by
 have g2:(ns.take i).getLast? = some u.2:=by rw[<- eu,List.getLast?_map,gl];rfl
 have li:=(rE.mp e).1
 cases i with
 | zero=>rw[vY] at g2;cases g2
 | succ i =>
  refine h i u.2 q ?_ e
  rw[List.getLast?_eq_getElem?,sA,yR (by omega),wU (by omega)] at g2
  exact g2
abbrev pz:Sp:=λvs H Q _=>∃(m:Nat) (ns:List (List Int)),vs=[.str (Txt.join " " (wds "web" (sgn 45) m ns))]/\m<=40/\Pl m ns/\ns.length<=200/\(∀p∈ns,∀a b:Int,p=[a,b]->a<=b)/\Beh HT.lexLe ns/\∀(r:Addr) (ts:List (Addr×List Int)) (H':Hp),aM H H'->Wp H' r m ts->ts.map (·.2)=ns->Q (.ref r) H'
@[irreducible] def oH:Sp:=pz
theorem fM {vs:List V}{H:Hp}{Q:VK}{E:XK}:oH vs H Q E↔pz vs H Q E:=by
 delta oH
 exact vn
section
variable  {P:rO}{w:sC}{K:rk}{mg:Str->Option rg}{base:Heap}{f T:Addr}{fd:sV}
theorem lW:aJ ["thing"] ["thing"] (aq fB):=⟨rfl,rfl,rfl,by decide +kernel,rfl,by decide +kernel,by decide +kernel⟩
theorem lX (F:Fun K "read_web" "read_web" fB f fd)(B:Blt mg)(cPairsRead:Cal P w K mg base 3 "pairs_read" ["thing", "word", "sign", "can_stand"] (fL P w K mg base))(cIsTieBehind:Cal P w K mg base 1 "is_tie_behind" ["pairs", "pair"] oF)(C:Cst mg):bE P w K mg base CX0 4 f fd ["thing"] oH:=by
 refine F.ok lW (λvs H Q E h =>?_) (λcdv A outer s H vs Q E hr h =>?_)
 ·obtain ⟨_,_,rfl,_⟩:=fM.mp h
  rfl
 obtain ⟨m,ns,rfl,m4,pl,l2,ab,bh,q⟩:=fM.mp h
 obtain ⟨f',hm,CF⟩:=cIsTieBehind.val
 refine ⟨_,(@ax _ _ _ (@aQ _ _ _ _ (aH cPairsRead hr (by decide) rfl (@aa _ _ _ _ _ (pv 0) (@aa _ _ _ _ _ aT (@aa _ _ _ _ _ aT (@aa _ _ _ _ _ (du (v :=.ref f') rfl hm rfl) ae rfl) rfl) rfl) rfl)))),?_⟩
 refine ⟨_,rfl,cC.mpr ⟨"web",45,m,ns,f',_,rfl,.inl rfl,by decide +kernel,m4,pl,l2,CF,λi l t us a b H1 Q1 hp eu el tu et q1 =>?_,q⟩⟩
 have lu:us.length<=200:=by
  have:=congrArg List.length eu
  rw[rn,sA] at this
  omega
 exact fJ.mpr ⟨l,t,us,a,b,rfl,el,tu,et,by omega,ab _ (rT hp) a b rfl,λu gl=>iV bh hp eu gl,q1⟩
end
abbrev pA:Sp:=λvs H Q _=>∃(m:Nat) (ns:List (List Int)),vs=[.str (Txt.join " " (wds "ways" (sgn 62) m ns))]/\m<=40/\Pl m ns/\ns.length<=200/\Beh HT.lexLt ns/\∀(r:Addr) (ts:List (Addr×List Int)) (H':Hp),aM H H'->Wp H' r m ts->ts.map (·.2)=ns->Q (.ref r) H'
@[irreducible] def oI:Sp:=pA
theorem fN {vs:List V}{H:Hp}{Q:VK}{E:XK}:oI vs H Q E↔pA vs H Q E:=by
 delta oI
 exact vn
section
variable  {P:rO}{w:sC}{K:rk}{mg:Str->Option rg}{base:Heap}{f T:Addr}{fd:sV}
theorem hX:aJ ["thing"] ["thing"] (aq cO):=⟨rfl,rfl,rfl,by decide +kernel,rfl,by decide +kernel,by decide +kernel⟩
theorem hZ (F:Fun K "read_oneway" "read_oneway" cO f fd)(B:Blt mg)(cPairsRead:Cal P w K mg base 3 "pairs_read" ["thing", "word", "sign", "can_stand"] (fL P w K mg base))(cIsArrowBehind:Cal P w K mg base 1 "is_arrow_behind" ["pairs", "pair"] oG)(C:Cst mg):bE P w K mg base CX0 4 f fd ["thing"] oI:=by
 refine F.ok hX (λvs H Q E h =>?_) (λcdv A outer s H vs Q E hr h =>?_)
 ·obtain ⟨_,_,rfl,_⟩:=fN.mp h
  rfl
 obtain ⟨m,ns,rfl,m4,pl,l2,bh,q⟩:=fN.mp h
 obtain ⟨f',hm,CF⟩:=cIsArrowBehind.val
 refine ⟨_,(@ax _ _ _ (@aQ _ _ _ _ (aH cPairsRead hr (by decide) rfl (@aa _ _ _ _ _ (pv 0) (@aa _ _ _ _ _ aT (@aa _ _ _ _ _ aT (@aa _ _ _ _ _ (du (v :=.ref f') rfl hm rfl) ae rfl) rfl) rfl) rfl)))),?_⟩
 refine ⟨_,rfl,cC.mpr ⟨"ways",62,m,ns,f',_,rfl,.inr rfl,by decide +kernel,m4,pl,l2,CF,λi l t us a b H1 Q1 hp eu el tu et q1 =>?_,q⟩⟩
 have lu:us.length<=200:=by
  have:=congrArg List.length eu
  rw[rn,sA] at this
  omega
 exact fK.mpr ⟨l,t,us,a,b,rfl,el,tu,et,by omega,λu gl=>iV bh hp eu gl,q1⟩
end
open PySem L2
def cS (H:Hp):Nat->V->V->Prop
 | 0,x,y=>(∃z:Str,x = .str z/\y = .str z)\/∃i:Int,x = .int i/\y = .int i
 | n+1,x,y=>(∃z:Str,x = .str z/\y = .str z)\/(∃i:Int,x = .int i/\y = .int i)\/∃(a b:Addr) (xs ys:List V),x = .ref a/\y = .ref b/\H a=some (.tup xs)/\H b=some (.tup ys)/\xs.length=ys.length/\xs.length<=300/\∀(i:Nat) (u v:V),xs[i]? = some u->ys[i]? = some v->cS H n u v
theorem cS.same {H H':Hp}(s:aM H H'):∀{n:Nat} {x y:V},cS H n x y->cS H' n x y
 | 0,_,_,h=>h
 | n+1,_,_,h=>by
  rcases h with h | h | ⟨a,b,xs,ys,rfl,rfl,ea,eb,l1,l2,h⟩
  ·exact .inl h
  ·exact .inr (.inl h)
  ·exact .inr (.inr ⟨a,b,xs,ys,rfl,rfl,s _ _ ea,s _ _ eb,l1,l2,λi u v hu hv=>cS.same s (h i u v hu hv)⟩)
@[irreducible] def spS:Nat->Sp
 | 0=>λ_ _ _ _=>False
 | n+1=>λvs H Q _=>∃x y:V,vs=[x,y]/\cS H n x y/\∀H',aM H H'->Q (.bl true) H'
theorem cD {n:Nat}{vs:List V}{H:Hp}{Q:VK}{E:XK}:spS (n+1) vs H Q E↔∃x y:V,vs=[x,y]/\cS H n x y/\∀H',aM H H'->Q (.bl true) H':=by
 unfold spS
 exact vn
theorem qw {vs:List V}{H:Hp}{Q:VK}{E:XK}:¬ spS 0 vs H Q E:=by
 unfold spS
 exact id
section
variable  {P:rO}{w:sC}{K:rk}{mg:Str->Option rg}{base:Heap}{f T:Addr}{fd:sV}
theorem oJ:aJ ["found", "due"] ["found", "due"] (aq jD):=⟨rfl,rfl,rfl,by decide +kernel,rfl,by decide +kernel,by decide +kernel⟩
theorem dM:(["one", "other"]:List Str).Nodup:=by decide +kernel
theorem oK (F:Fun K "_law_same" "_law_same" jD f fd)(B:Blt mg)(n:Nat)(cLSame:Cal P w K mg base n "_law_same" ["found", "due"] (spS n))(C:Cst mg):bE P w K mg base CX0 (n+1) f fd ["found", "due"] (spS (n+1)):=by
 refine F.ok oJ (λvs H Q E h =>?_) (λcdv A outer s H vs Q E hr h =>?_)
 ·obtain ⟨_,_,rfl,_⟩:=cD.mp h
  rfl
 obtain ⟨x,y,rfl,sd,q⟩:=cD.mp h
 refine ⟨_,(@af _ _ _ _ _ (@bL _ _ _ _ _ _ _ _ (bR (av dy rfl B.b_isinstance aI (@aa _ _ _ _ _ (pv 1) (@aa _ _ _ _ _ (@cI _ _ _ _ _ (@aa _ _ _ _ _ (bC (v :=.ty "tuple") rfl B.b_tuple bW rfl) (@aa _ _ _ _ _ (bC (v :=.ty "list") rfl B.b_list kA rfl) ae rfl) rfl)) ae rfl) rfl))) (@af _ _ _ _ _ (@bL _ _ _ _ _ _ _ _ (PW.pt (eO (aZ mh (av a9 rfl B.b_isinstance aI (@aa _ _ _ _ _ (pv 0) (@aa _ _ _ _ _ (bC (v :=.ty "tuple") rfl B.b_tuple bW rfl) ae rfl) rfl)) (av a9 rfl B.b_isinstance aI (@aa _ _ _ _ _ (pv 1) (@aa _ _ _ _ _ (bC (v :=.ty "tuple") rfl B.b_tuple bW rfl) ae rfl) rfl)) (aL _)) (dO (cE (bR (av dy rfl B.b_isinstance aI (@aa _ _ _ _ _ (pv 0) (@aa _ _ _ _ _ (@cI _ _ _ _ _ (@aa _ _ _ _ _ (bC (v :=.ty "tuple") rfl B.b_tuple bW rfl) (@aa _ _ _ _ _ (bC (v :=.ty "list") rfl B.b_list kA rfl) ae rfl) rfl)) ae rfl) rfl))))))) aK aP)
   (@ax _ _ _ (@aQ _ _ _ _ (eQ (bN d7 (av ba rfl B.b_len cP (@aa _ _ _ _ _ (pv 0) ae rfl)) (av ba rfl B.b_len cP (@aa _ _ _ _ _ (pv 1) ae rfl)) (aL _)) (dP (av (iy rfl) rfl B.b_all m5 (@aa _ _ _ _ _ (gM ["one", "other"] [none,none] rfl (om false false rfl B.b_zip (@aa _ _ _ _ _ (pv 0) (@aa _ _ _ _ _ (pv 1) ae rfl) rfl)) rfl (λ_ _ _ _ _=>(mL (K:=K) (i:=0) (j:=1) dM rfl rfl (Or.inl rfl) (Or.inl rfl))) (λ_ _ _ _ _=>i8) (λ_ _ _ _ _=>(aH cLSame hr (rA n) rfl (@aa _ _ _ _ _ (pv 0) (@aa _ _ _ _ _ (pv 1) ae rfl) rfl)))) ae rfl))))))) aP)
  (@af _ _ _ _ _ (@bL _ _ _ _ _ _ _ _ (bR (av a9 rfl B.b_isinstance aI (@aa _ _ _ _ _ (pv 1) (@aa _ _ _ _ _ (bC (v :=.ty "str") rfl B.b_str cQ rfl) ae rfl) rfl))) (@ax _ _ _ (@aQ _ _ _ _ (eQ (av a9 rfl B.b_isinstance aI (@aa _ _ _ _ _ (pv 0) (@aa _ _ _ _ _ (bC (v :=.ty "str") rfl B.b_str cQ rfl) ae rfl) rfl)) (dP (bN d7 (pv 0) (pv 1) (aL _)))))) aP)
  (@ax _ _ _ (@aQ _ _ _ _ (eQ (av a9 rfl B.b_isinstance aI (@aa _ _ _ _ _ (pv 0) (@aa _ _ _ _ _ (bC (v :=.ty "int") rfl B.b_int m6 rfl) ae rfl) rfl)) (eQ (pM (av a9 rfl B.b_isinstance aI (@aa _ _ _ _ _ (pv 0) (@aa _ _ _ _ _ (bC (v :=.ty "bool") rfl B.b_bool oq rfl) ae rfl) rfl))) (dP (bN d7 (pv 0) (pv 1) (aL _))))))))),?_⟩
 have S:(∃z:Str,x = .str z/\y = .str z)\/(∃i:Int,x = .int i/\y = .int i)\/∃k,n=k+1/\∃(a b:Addr) (xs ys:List V),x = .ref a/\y = .ref b/\H a=some (.tup xs)/\H b=some (.tup ys)/\xs.length=ys.length/\xs.length<=300/\∀(i:Nat) (u v:V),xs[i]? = some u->ys[i]? = some v->cS H k u v:=by
  cases n with
  | zero=>exact sd.imp id .inl
  | succ k=>exact sd.imp id λh=>h.imp id λh=>⟨k,rfl,h⟩
 rcases S with ⟨z,rfl,rfl⟩ | ⟨i,rfl,rfl⟩ | ⟨k,rfl,a,b,xs,ys,rfl,rfl,ea,eb,l1,l3,hs⟩
 ·refine ⟨_,rfl,(by show 2<=rN;decide),λtp htp=>⟨.str z,tp,["tuple", "list"],_,false,rfl,SqT.of ag,.str z,(λ_ _ _ _ _ h=>by cases h),rfl,_,rfl,bF ?_⟩⟩
  have g1:=ah htp (.tup [.ty "tuple",.ty "list"])
  refine ⟨_,rfl,.str z, "str",_,true,rfl,.str z,rfl,_,rfl,eZ ?_⟩
  refine ⟨_,rfl,.str z, "str",_,true,rfl,.str z,rfl,_,rfl,eZ ?_⟩
  refine ⟨_,rfl,_,rfl,rfl,?_⟩
  rw[decide_eq_true (rfl:V.str z=V.str z)]
  exact q _ g1
 ·refine ⟨_,rfl,(by show 2<=rN;decide),λtp htp=>⟨.int i,tp,["tuple", "list"],_,false,rfl,SqT.of ag,.int i,(λ_ _ _ _ _ h=>by cases h),rfl,_,rfl,bF ?_⟩⟩
  have g1:=ah htp (.tup [.ty "tuple",.ty "list"])
  refine ⟨_,rfl,.int i, "str",_,false,rfl,.int i,rfl,_,rfl,bF ?_⟩
  refine ⟨_,rfl,.int i, "int",_,true,rfl,.int i,rfl,_,rfl,eZ ?_⟩
  refine ⟨_,rfl,.int i, "bool",_,false,rfl,.int i,rfl,_,rfl,_,rfl,eZ ?_⟩
  refine ⟨_,rfl,_,rfl,rfl,?_⟩
  rw[decide_eq_true (rfl:V.int i=V.int i)]
  exact q _ g1
 ·refine ⟨_,rfl,(by show 2<=rN;decide),λtp htp=>⟨.ref b,tp,["tuple", "list"],_,true,rfl,SqT.of ag,.tup ((ah htp _) _ _ eb),(λc C dx fs e h=>by cases h;rw[(ah htp _) _ _ eb] at e;cases e),rfl,_,rfl,eZ ?_⟩⟩
  have g1:=ah htp (.tup [.ty "tuple",.ty "list"])
  have ea1:=g1 _ _ ea
  have eb1:=g1 _ _ eb
  generalize upd H tp (.tup [.ty "tuple",.ty "list"])=H1 at g1 ea1 eb1
  refine ⟨_,rfl,.ref a, "tuple",_,true,rfl,.tup ea1,rfl,_,rfl,.ref b, "tuple",_,true,rfl,.tup eb1,rfl,rfl,_,rfl,bF ?_⟩
  refine ⟨_,rfl,(by show 2<=rN;decide),λtq htq=>⟨.ref a,tq,["tuple", "list"],_,true,rfl,SqT.of ag,.tup ((ah htq _) _ _ ea1),(λc C dx fs e h=>by cases h;rw[(ah htq _) _ _ ea1] at e;cases e),rfl,_,rfl,bF ?_⟩⟩
  have g2:=ah htq (.tup [.ty "tuple",.ty "list"])
  have ea2:=g2 _ _ ea1
  have eb2:=g2 _ _ eb1
  have s2:=g1.trans g2
  generalize upd H1 tq (.tup [.ty "tuple",.ty "list"])=H2 at g2 ea2 eb2 s2
  refine ⟨_,rfl,a,_,rfl,.inr (SqT.of ea2),_,rfl,b,_,rfl,.inr (SqT.of eb2),rfl,_,rfl,?_⟩
  rw[decide_eq_true (by rw[l1])]
  have al:∀j:Nat,(vq j true).all id=true:=λj=>by simp
  refine eZ ⟨_,rfl,_,rfl,a,b,rfl,⟨_,SqT.of ea2⟩,⟨_,SqT.of eb2⟩,qY xs.length (rA _) (by omega) (.inl rfl) (λi zs H'=>aM H2 H'/\zs=(vq i true).map V.bl) (by decide) ⟨aM.refl _,rfl⟩ (small (by omega)) (λi zs H' _ k=>⟨SqT.of (k.1 _ _ ea2),SqT.of (k.1 _ _ eb2)⟩) ?_ ?_⟩
  ·rintro i u v zs H' T' hu hv lz hT' ⟨s',rfl⟩ R1 R0 r1 r0
   have sT:=s'.trans (ah hT' (.tup [u,v]))
   refine eZ ⟨_,rfl,_,rfl,(cD (E:=E0)).mpr ⟨u,v,rfl,(hs i u v hu hv).same (s2.trans sT),λH5 s5=>r1 _ _ ⟨sT.trans s5,?_⟩⟩⟩
   rw[x6,sE];rfl
  ·rintro zs H' lz ⟨s',rfl⟩ c5 hc5
   refine ⟨c5,_,rfl,SqL.of ag,?_⟩
   rw[al]
   exact q _ (s2.trans (s'.trans (ah hc5 _)))
end
open PySem L2
theorem at6 {d:Int}(d0:0<=d)(d1:d<6):∃v:Int,atI [V.int 0,V.int 1,V.int 2,V.int 6,V.int 30,V.int 200] d=some (.int v)/\0<=v/\v<=200:=by
 obtain rfl | rfl | rfl | rfl | rfl | rfl:d=0\/d=1\/d=2\/d=3\/d=4\/d=5:=by omega
 all_goals exact ⟨_,rfl,by decide,by decide⟩
abbrev pB:Sp:=λvs H Q _=>∃(p:Addr) (m:Int),vs=[.ref p,.int m]/\Pt 1 H p/\0<=m/\m<=40/\∀(l:Addr) (us:List (Addr×List Int)) (H':Hp),Bu 1 p H H'->H l=none->l≠p->H' l=some (.lst (us.map λu =>.ref u.1))->(∀u∈us,H' u.1=some (.tup (u.2.map V.int))/\∃a b:Int,u.2=[a,b]/\0<=a/\a<m/\0<=b/\b<m)->us.length<=200->Q (.ref l) H'
@[irreducible] def oM:Sp:=pB
theorem fO {vs:List V}{H:Hp}{Q:VK}{E:XK}:oM vs H Q E↔pB vs H Q E:=by
 delta oM
 exact vn
section
variable  {P:rO}{w:sC}{K:rk}{mg:Str->Option rg}{base:Heap}{f T:Addr}{fd:sV}
theorem dN:aJ ["pot", "many", "found", "k", "one"] ["pot", "many"] (aq g9):=⟨rfl,rfl,rfl,by decide +kernel,rfl,by decide +kernel,by decide +kernel⟩
theorem nu (F:Fun K "_law_pairs" "_law_pairs" g9 f fd)(B:Blt mg)(cLTake:Cal P w K mg base 1 "_law_take" ["pot", "many"] fC)(C:Cst mg):bE P w K mg base CX0 2 f fd ["pot", "many"] oM:=by
 refine F.ok dN (λvs H Q E h =>?_) (λcdv A outer s H vs Q E hr h =>?_)
 ·obtain ⟨_,_,rfl,_⟩:=fO.mp h
  rfl
 obtain ⟨p,m,rfl,hp,m0,m1,q⟩:=fO.mp h
 refine ⟨_,(@af _ _ _ _ _ (@aG _ _ 2 _ _ _ _ dN.nd rfl (Or.inl rfl) (@cp _ _ _ _ ae) rfl (by first | exact .inl rfl | exact .inr rfl | assumption))
  (@af _ _ _ _ _ (@dg _ _ _ _ _ _ _ _ uQ rfl (dQ rfl B.b_range (@aa _ _ _ _ _ (@bH _ _ _ _ _ _ _ bX (@cp _ _ _ _ (@aa _ _ _ _ _ ai (@aa _ _ _ _ _ ai (@aa _ _ _ _ _ ai (@aa _ _ _ _ _ ai (@aa _ _ _ _ _ ai (@aa _ _ _ _ _ ai ae rfl) rfl) rfl) rfl) rfl) rfl)) (aH cLTake hr (by decide) rfl (@aa _ _ _ _ _ (pv 0) (@aa _ _ _ _ _ ai ae rfl) rfl)) (λ_ _=>rfl)) ae rfl)) (bp (i:=3) dN.nd rfl (Or.inl rfl))
   (@ax _ _ _ (@bL _ _ _ _ _ _ _ _ (aZ mi (pv 1) ai (aL _)) (@af _ _ _ _ _ (@aG _ _ 4 _ _ _ _ dN.nd rfl (Or.inl rfl) (aH cLTake hr (by decide) rfl (@aa _ _ _ _ _ (pv 0) (@aa _ _ _ _ _ (pv 1) ae rfl) rfl)) rfl (by first | exact .inl rfl | exact .inr rfl | assumption))
    (@ax _ _ _ (eJ (j0 u0 uS uT cT (pv 2) (@aa _ _ _ _ _ (@cI _ _ _ _ _ (@aa _ _ _ _ _ (pv 4) (@aa _ _ _ _ _ (aH cLTake hr (by decide) rfl (@aa _ _ _ _ _ (pv 0) (@aa _ _ _ _ _ (pv 1) ae rfl) rfl)) ae rfl) rfl)) ae rfl))))) aP)) (λ_=>rfl))
  (@ax _ _ _ (@aQ _ _ _ _ (pv 2))))),?_⟩
 refine ⟨(by show 0<=rN;decide),λl hl =>?_⟩
 have nl:l≠p:=λz=>by
  obtain ⟨xs,_,e⟩:=hp
  rw[z,e] at hl;cases hl
 have b1:=(Bu.refl hp).same (ah hl (.lst []))
 have el1:upd H l (.lst []) l=some (.lst []):=ag
 generalize upd H l (.lst [])=H1 at b1 el1
 refine ⟨(by show 6<=rN;decide),λc hc =>?_⟩
 have b2:=b1.same (ah hc (.lst [.int 0,.int 1,.int 2,.int 6,.int 30,.int 200]))
 have el2:=(ah hc (.lst [.int 0,.int 1,.int 2,.int 6,.int 30,.int 200])) _ _ el1
 have ec2:upd H1 c (.lst [.int 0,.int 1,.int 2,.int 6,.int 30,.int 200]) c=some (.lst [.int 0,.int 1,.int 2,.int 6,.int 30,.int 200]):=ag
 have nc:c≠p:=λz=>by
  obtain ⟨xs,_,e⟩:=b1.pot
  rw[z,e] at hc;cases hc
 generalize upd H1 c (.lst [.int 0,.int 1,.int 2,.int 6,.int 30,.int 200])=H2 at b2 el2 ec2
 refine ⟨_,rfl,bu.mpr ⟨p,6,rfl,b2.pot,by decide,by decide,λd H3 d0 d1 b3 =>?_⟩⟩
 obtain ⟨v,hv,v0,v1⟩:=at6 d0 d1
 have el3:=b3.st _ _ nl el2
 refine ⟨c,_,d,_,rfl,rfl,SqL.of (b3.st _ _ nc ec2),hv,v,rfl,by omega,by omega,dR (λk σ H'=>(∃c3 c4,σ=[some (.ref p),some (.int m),some (.ref l),c3,c4])/\Bu 1 p H H'/\∃us:List (Addr×List Int),H' l=some (.lst (us.map λu =>.ref u.1))/\(∀u∈us,H' u.1=some (.tup (u.2.map V.int))/\∃a b:Int,u.2=[a,b]/\0<=a/\a<m/\0<=b/\b<m)/\us.length<=k) ⟨⟨_,_,rfl⟩,b2.trans b3,[],el3,(λu h=>nomatch h),rA _⟩ ?_ ?_⟩
 ·rintro k σ H4 hk ⟨⟨c3,c4,rfl⟩,b4,us,el4,tu4,lu⟩
  refine ⟨_,rfl,_,_,rfl,rfl,_,rfl,qU (λc =>?_) (λc=>⟨⟨_,_,rfl⟩,b4,us,el4,tu4,by omega⟩)⟩
  have mp:0<m:=of_decide_eq_true c
  refine ⟨_,rfl,_,rfl,bu.mpr ⟨p,m,rfl,b4.pot,mp,by omega,λx H5 x0 x1 b5 =>?_⟩⟩
  have b45:=b4.trans b5
  have el5:=b5.st _ _ nl el4
  refine ⟨_,rfl,.inl ⟨rfl,_,SqL.of el5⟩,_,rfl,_,rfl,_,rfl,bu.mpr ⟨p,m,rfl,b45.pot,mp,by omega,λy H6 y0 y1 b6=>⟨(by show 2<=rN;decide),λt ht =>?_⟩⟩⟩
  have b46:=b45.trans b6
  have el6:=b6.st _ _ nl el5
  have gt:=ah ht (.tup [.int x,.int y])
  have el7:=gt _ _ el6
  have nt:t≠l:=λz=>by rw[z,el6] at ht;cases ht
  refine ⟨l,_,_,rfl,rfl,el7,by rw[rn];exact fD (by omega),⟨_,_,rfl⟩,?_,us++[(t,[x,y])],by rw[ag,sE];rfl,λu hu =>?_,by rw[rC,sL];omega⟩
  ·exact (b46.same gt).qm hl nl _
  ·rcases rV.mp hu with z | z
   ·have e:=gt _ _ (b6.tup b45.pot (b5.tup b4.pot (tu4 u z).1))
    exact ⟨by rw[au (ia e el7 nofun)];exact e,(tu4 u z).2⟩
   ·rw[sq.mp z]
    exact ⟨by rw[au nt];exact ag,x,y,rfl,x0,x1,y0,y1⟩
 ·rintro σ H4 ⟨⟨c3,c4,rfl⟩,b4,us,el4,tu4,lu⟩
  exact ⟨_,rfl,q l us H4 b4 hl nl el4 tu4 (by omega)⟩
end
open PySem L2
def iW (K:rk):Sp:=λvs H Q _=>∃(a:Addr) (ns:List Int),vs=[.ref a]/\SqL K H a (ns.map V.int)/\ns.length<=63/\∀H',Q (.bl true) H'
theorem gD {K:rk}{vs:List V}{H:Hp}{Q:VK}{E:XK}:iW K vs H Q E↔∃(a:Addr) (ns:List Int),vs=[.ref a]/\SqL K H a (ns.map V.int)/\ns.length<=63/\∀H',Q (.bl true) H':=vn
theorem le_of_lt:∀{p q:List Int},HT.lexLt q p=false->HT.lexLe p q=true
 | [],_,_=>rfl
 | _ :: _,[],h=>by cases h
 | x :: p,y :: q,h=>by
  rw[HT.bq] at h
  rw[HT.fw]
  by_cases c:x=y
  ·rw[if_pos c.symm] at h
   rw[if_pos c]
   exact le_of_lt h
  ·rw[if_neg λz=>c z.symm] at h
   rw[if_neg c]
   have:=of_decide_eq_false h
   exact decide_eq_true (by omega)
theorem iX:∀{p q:List Int},HT.lexLt q p=false->p≠q->HT.lexLt p q=true
 | [],[],_,n=>absurd rfl n
 | [],_ :: _,_,_=>rfl
 | _ :: _,[],h,_=>by cases h
 | x :: p,y :: q,h,n=>by
  rw[HT.bq] at h ⊢
  by_cases c:x=y
  ·rw[if_pos c.symm] at h
   rw[if_pos c]
   exact iX h λz=>n (by rw[c,z])
  ·rw[if_neg λz=>c z.symm] at h
   rw[if_neg c]
   have:=of_decide_eq_false h
   exact decide_eq_true (by omega)
theorem nv {R:List Int->List Int->Bool}{us:List (Addr×List Int)}(h:us.Pairwise λa b=>R a.2 b.2=true):Beh R (us.map (·.2)):=λi p q hp hq=>by
 rw[sf] at hp hq
 obtain ⟨u,eu,rfl⟩:=u7.mp hp
 obtain ⟨v,ev,rfl⟩:=u7.mp hq
 obtain ⟨l1,e1⟩:=rE.mp eu
 obtain ⟨l2,e2⟩:=rE.mp ev
 have:=uK.mp h i (i+1) l1 l2 (by omega)
 rw[e1,e2] at this
 exact this
def nr (p:List Int):List Int:=[if p.getD 1 0<p.getD 0 0 then p.getD 1 0 else p.getD 0 0,if p.getD 1 0>p.getD 0 0 then p.getD 1 0 else p.getD 0 0]
theorem q5 {p:List Int}{m:Nat}(h:∃a b:Int,p=[a,b]/\0<=a/\a<m/\0<=b/\b<m):∃a b:Int,nr p=[a,b]/\0<=a/\a<m/\0<=b/\b<m/\a<=b:=by
 obtain ⟨a,b,rfl,a0,a1,b0,b1⟩:=h
 refine ⟨_,_,rfl,?_⟩
 show 0<=(if b<a then b else a)/\(if b<a then b else a)<m/\0<=(if b>a then b else a)/\(if b>a then b else a)<m/\(if b<a then b else a)<=(if b>a then b else a)
 split <;> split <;> omega
theorem pC {H:Hp}{z:Str}:∀{n:Nat},cS H n (.str z) (.str z)
 | 0 =>.inl ⟨z,rfl,rfl⟩
 | _+1 =>.inl ⟨z,rfl,rfl⟩
theorem q8 {H:Hp}{a b:Addr}{xs:List Int}(ea:H a=some (.tup (xs.map V.int)))(eb:H b=some (.tup (xs.map V.int)))(l:xs.length<=300):cS H 1 (.ref a) (.ref b):=by
 refine .inr (.inr ⟨a,b,_,_,rfl,rfl,ea,eb,rfl,by rw[rn];exact l,λi u v hu hv =>.inr ?_⟩)
 rw[hu] at hv
 rw[sf] at hu
 obtain ⟨n,_,e⟩:=u7.mp hu
 exact ⟨n,e.symm,by rw[<- r9 hv,e]⟩
theorem pD {H:Hp}{r s:Addr}{m:Int}{ts us:List (Addr×List Int)}(W:Wp H r m ts)(V':Wp H s m us)(e:ts.map (·.2)=us.map (·.2)):cS H 3 (.ref r) (.ref s):=by
 obtain ⟨t,r1,r2⟩:=W.at'
 obtain ⟨t',s1,s2⟩:=V'.at'
 have ll:ts.length=us.length:=by
  have:=congrArg List.length e
  rwa [rn,rn] at this
 refine .inr (.inr ⟨r,s,_,_,rfl,rfl,r1,s1,rfl,by show 2<=300;decide,λi u v hu hv =>?_⟩)
 match i,hu,hv with
 | 0,hu,hv =>
  cases hu;cases hv
  exact .inr (.inl ⟨m,rfl,rfl⟩)
 | 1,hu,hv =>
  cases hu;cases hv
  refine .inr (.inr ⟨t,t',_,_,rfl,rfl,r2,s2,by rw[rn,rn];exact ll,by rw[rn];have:=W.len;omega,λj u v hu hv =>?_⟩)
  obtain ⟨x,ex,rfl⟩:=item hu
  obtain ⟨y,ey,rfl⟩:=item hv
  have exy:x.2=y.2:=by
   have h1:(ts.map (·.2))[j]? = some x.2:=by rw[sf,ex];rfl
   rw[e,sf,ey] at h1
   exact (r9 h1).symm
  have tx:=W.tup x (rT ex)
  have ty:=V'.tup y (rT ey)
  obtain ⟨a,b,ep,_⟩:=W.pr x (rT ex)
  exact q8 tx (by rw[exy];exact ty) (by rw[ep];show 2<=300;decide)
 | k+2,hu,_=>cases hu
theorem at4 {x d:Int}(x0:0<=x)(x1:x<41)(d0:0<=d)(d1:d<4):∃v:Int,atI [V.int x,V.int 0,V.int 1,V.int 40] d=some (.int v)/\0<=v/\v<=40:=by
 obtain rfl | rfl | rfl | rfl:d=0\/d=1\/d=2\/d=3:=by omega
 ·exact ⟨x,rfl,x0,by omega⟩
 all_goals exact ⟨_,rfl,by decide,by decide⟩
section
variable  {P:rO}{w:sC}{K:rk}{mg:Str->Option rg}{base:Heap}{f T:Addr}{fd:sV}
theorem c0:aJ ["script", "cell", "pot", "many", "pairs", "web", "oneway", "text", "other", "turn"] ["script"] (aq lR):=⟨rfl,rfl,rfl,by decide +kernel,rfl,by decide +kernel,by decide +kernel⟩
theorem jH:(["pair"]:List Str).Nodup:=by decide +kernel
theorem q9 (F:Fun K "law" "law" lR f fd)(B:Blt mg)(cLPairs:Cal P w K mg base 2 "_law_pairs" ["pot", "many"] oM)(cLWritten:Cal P w K mg base 1 "_law_written" ["words", "pairs", "sign"] oA)(cLDeal:Cal P w K mg base 1 "_law_deal" ["cell", "many"] hJ)(cLTake:Cal P w K mg base 1 "_law_take" ["pot", "many"] fC)(cLSame:Cal P w K mg base 4 "_law_same" ["found", "due"] (spS 4))(cWebText:Cal P w K mg base 2 "web_text" ["web"] oy)(cOnewayText:Cal P w K mg base 2 "oneway_text" ["web"] oz)(cReadWeb:Cal P w K mg base 4 "read_web" ["thing"] oH)(cReadOneway:Cal P w K mg base 4 "read_oneway" ["thing"] oI)(C:Cst mg):bE P w K mg base CX0 5 f fd ["script"] (iW K):=by
 refine F.ok c0 (λvs H Q E h =>?_) (λcdv A outer s H vs Q E hr h =>?_)
 ·obtain ⟨_,_,rfl,_⟩:=gD.mp h
  rfl
 obtain ⟨a,ns,rfl,hS,h63,q⟩:=gD.mp h
 refine ⟨_,(@af _ _ _ _ _ (@dg _ _ _ _ _ _ _ _ uQ rfl (@gH _ _ _ _ (@aY _ _ _ _ _ _ _ _ nL (iq jZ (pv 0) jU (jV ai)) (@cp _ _ _ _ (@aa _ _ _ _ _ ai ae rfl)))) (bp (i:=1) c0.nd rfl (Or.inl rfl))
   (@af _ _ _ _ _ (@aG _ _ 2 _ _ _ _ c0.nd rfl (Or.inl rfl) (@cp _ _ _ _ (@aa _ _ _ _ _ (aH cLDeal hr (by decide) rfl (@aa _ _ _ _ _ (pv 1) (@aa _ _ _ _ _ ai ae rfl) rfl)) ae rfl)) rfl (by first | exact .inl rfl | exact .inr rfl | assumption))
   (@af _ _ _ _ _ (@aG _ _ 3 _ _ _ _ c0.nd rfl (Or.inl rfl) (@bH _ _ _ _ _ _ _ bX (@cp _ _ _ _ (@aa _ _ _ _ _ (aH cLTake hr (by decide) rfl (@aa _ _ _ _ _ (pv 2) (@aa _ _ _ _ _ ai ae rfl) rfl)) (@aa _ _ _ _ _ ai (@aa _ _ _ _ _ ai (@aa _ _ _ _ _ ai ae rfl) rfl) rfl) rfl)) (av (kM rfl) rfl B.b_min m7 (@aa _ _ _ _ _ ai (@aa _ _ _ _ _ (aH cLTake hr (by decide) rfl (@aa _ _ _ _ _ (pv 2) (@aa _ _ _ _ _ ai ae rfl) rfl)) ae rfl) rfl)) (λ_ _=>rfl)) rfl (by first | exact .inl rfl | exact .inr rfl | assumption))
   (@af _ _ _ _ _ (@aG _ _ 4 _ _ _ _ c0.nd rfl (Or.inl rfl) (aH cLPairs hr (by decide) rfl (@aa _ _ _ _ _ (pv 2) (@aa _ _ _ _ _ (pv 3) ae rfl) rfl)) rfl (by first | exact .inl rfl | exact .inr rfl | assumption))
   (@af _ _ _ _ _ (@aG _ _ 5 _ _ _ _ c0.nd rfl (Or.inl rfl) (@cI _ _ _ _ _ (@aa _ _ _ _ _ (pv 3) (@aa _ _ _ _ _ (aX bZ rfl B.b_tuple bW (@aa _ _ _ _ _ (av gP rfl B.b_sorted gC (@aa _ _ _ _ _ (gM ["pair"] [none] rfl (@gH _ _ _ _ (pv 4)) rfl (λ_ _ _ _ _=>(bp (i:=0) jH rfl (Or.inl rfl))) (λ_ _ _ _ _=>i8) (λ_ _ _ _ _=>(@cI _ _ _ _ _ (@aa _ _ _ _ _ (av (lG rfl) rfl B.b_min m7 (@aa _ _ _ _ _ (pv 0) ae rfl)) (@aa _ _ _ _ _ (av (lH rfl) rfl B.b_max qs (@aa _ _ _ _ _ (pv 0) ae rfl)) ae rfl) rfl)))) ae rfl)) ae rfl)) ae rfl) rfl)) rfl (by first | exact .inl rfl | exact .inr rfl | assumption))
   (@af _ _ _ _ _ (@aG _ _ 6 _ _ _ _ c0.nd rfl (Or.inl rfl) (@cI _ _ _ _ _ (@aa _ _ _ _ _ (pv 3) (@aa _ _ _ _ _ (aX bZ rfl B.b_tuple bW (@aa _ _ _ _ _ (av (fu (w:=w) rfl hr.hd) rfl B.b_sorted gC (@aa _ _ _ _ _ (aX (jz (w:=w) rfl hr.hd hr.units) rfl B.b_set qt (@aa _ _ _ _ _ (pv 4) ae rfl)) ae rfl)) ae rfl)) ae rfl) rfl)) rfl (by first | exact .inl rfl | exact .inr rfl | assumption))
   (@af _ _ _ _ _ (@aG _ _ 7 _ _ _ _ c0.nd rfl (Or.inl rfl) (aH cLWritten hr (by decide) rfl (@aa _ _ _ _ _ (@cp _ _ _ _ (@aa _ _ _ _ _ aT (@aa _ _ _ _ _ (aX bD rfl B.b_str cQ (@aa _ _ _ _ _ (pv 3) ae rfl)) ae rfl) rfl)) (@aa _ _ _ _ _ (@bH _ _ _ _ _ _ _ bY (pv 5) ai (λ_ _=>rfl)) (@aa _ _ _ _ _ aT ae rfl) rfl) rfl)) rfl (by first | exact .inl rfl | exact .inr rfl | assumption))
   (@af _ _ _ _ _ (@aG _ _ 8 _ _ _ _ c0.nd rfl (Or.inl rfl) (aH cLWritten hr (by decide) rfl (@aa _ _ _ _ _ (@cp _ _ _ _ (@aa _ _ _ _ _ aT (@aa _ _ _ _ _ (aX bD rfl B.b_str cQ (@aa _ _ _ _ _ (pv 3) ae rfl)) ae rfl) rfl)) (@aa _ _ _ _ _ (@bH _ _ _ _ _ _ _ bY (pv 6) ai (λ_ _=>rfl)) (@aa _ _ _ _ _ aT ae rfl) rfl) rfl)) rfl (by first | exact .inl rfl | exact .inr rfl | assumption))
   (@af _ _ _ _ _ (@bL _ _ _ _ _ _ _ _ (PW.pt (eO (cE (bR (aH cLSame hr (by decide) rfl (@aa _ _ _ _ _ (aH cWebText hr (by decide) rfl (@aa _ _ _ _ _ (pv 5) ae rfl)) (@aa _ _ _ _ _ (pv 7) ae rfl) rfl)))) (dO (cE (bR (aH cLSame hr (by decide) rfl (@aa _ _ _ _ _ (aH cOnewayText hr (by decide) rfl (@aa _ _ _ _ _ (pv 6) ae rfl)) (@aa _ _ _ _ _ (pv 8) ae rfl) rfl))))))) aK aP)
   (@ax _ _ _ (@dg _ _ _ _ _ _ _ _ uQ rfl (dQ rfl B.b_range (@aa _ _ _ _ _ ai ae rfl)) (bp (i:=9) c0.nd rfl (Or.inl rfl))
    (@ax _ _ _ (@bL _ _ _ _ _ _ _ _ (PW.pt (eO (cE (bR (aH cLSame hr (by decide) rfl (@aa _ _ _ _ _ (aH cReadWeb hr (by decide) rfl (@aa _ _ _ _ _ (pv 7) ae rfl)) (@aa _ _ _ _ _ (pv 5) ae rfl) rfl)))) (dO (cE (bR (aH cLSame hr (by decide) rfl (@aa _ _ _ _ _ (aH cReadOneway hr (by decide) rfl (@aa _ _ _ _ _ (pv 8) ae rfl)) (@aa _ _ _ _ _ (pv 6) ae rfl) rfl))))))) aK aP)) (λ_=>rfl))))))))))) (λ_=>rfl))
  (@ax _ _ _ (@aQ _ _ _ _ qA))),?_⟩
 refine ⟨_,rfl,8,rfl,a,_,rfl,hS,λl0 hl0 =>?_⟩
 obtain ⟨ms,em,lt,_⟩:=lJ ns none (some 8)
 rw[em]
 have s1:=ah hl0 (.lst (ms.map V.int))
 refine ⟨(by show 1<=rN;decide),λl1 hl1=>⟨l0,l1,_,_,rfl,rfl,SqL.of ((ah hl1 _) _ _ ag),SqL.of ag,?_,λl2 hl2 =>?_⟩⟩
 ·rw[rn]
  exact small (by show _+1<=_;omega)
 have s2:=(s1.trans (ah hl1 (.lst [.int 6]))).trans (ah hl2 (.lst (ms.map V.int++[.int 6])))
 have e2:upd (upd (upd H l0 (.lst (ms.map V.int))) l1 (.lst [.int 6])) l2 (.lst (ms.map V.int++[.int 6])) l2=some (.lst ((ms++[6]).map V.int)):=by rw[ag,sE];rfl
 generalize upd (upd (upd H l0 (.lst (ms.map V.int))) l1 (.lst [.int 6])) l2 (.lst (ms.map V.int++[.int 6]))=H2 at s2 e2
 refine ⟨l2,rfl,⟨_,SqL.of e2⟩,ij (xs:=(ms++[6]).map V.int) (λi σ H'=>(∃c1 c2 c3 c4 c5 c6 c7 c8 c9,σ=[some (.ref a),c1,c2,c3,c4,c5,c6,c7,c8,c9])/\aM H2 H') ⟨⟨_,_,_,_,_,_,_,_,_,rfl⟩,aM.refl _⟩ (λi σ H' _ k=>SqL.of (k.2 _ _ e2)) ?_ (λσ H' _=>q _)⟩
 rintro i x σ H3 hx ⟨⟨c1,c2,c3,c4,c5,c6,c7,c8,c9,rfl⟩,s3⟩
 rw[sf] at hx
 obtain ⟨cell,_,rfl⟩:=u7.mp hx
 refine ⟨_,rfl,dj.mpr ⟨cell,300,rfl,by decide,by decide,λn=>⟨(by show 1<=rN;decide),λp hp =>?_⟩⟩⟩
 have p0:Pt 1 (upd H3 p (.lst [.int n])) p:=⟨[n],rfl,ag⟩
 have b0:=Bu.refl p0
 have fr:∀{H':Hp},Bu 1 p (upd H3 p (.lst [.int n])) H'->aM H3 H':=λb=>Bu.fresh hp b
 generalize upd H3 p (.lst [.int n])=H4 at p0 b0 fr
 refine ⟨_,rfl,bu.mpr ⟨p,41,rfl,b0.pot,by decide,by decide,λd H5 d0 d1 b5=>⟨(by show 4<=rN;decide),λc hc =>?_⟩⟩⟩
 have b6:=b5.same (ah hc (.lst [.int d,.int 0,.int 1,.int 40]))
 have ec:upd H5 c (.lst [.int d,.int 0,.int 1,.int 40]) c=some (.lst [.int d,.int 0,.int 1,.int 40]):=ag
 have nc:c≠p:=λz=>by
  obtain ⟨xs,_,e⟩:=b5.pot
  rw[z,e] at hc;cases hc
 generalize upd H5 c (.lst [.int d,.int 0,.int 1,.int 40])=H6 at b6 ec
 refine ⟨_,rfl,bu.mpr ⟨p,6,rfl,b6.pot,by decide,by decide,λd2 H7 y0 y1 b7=>⟨3,d2,rfl,?_⟩⟩⟩
 have mn:0<=(if d2<3 then d2 else 3)/\(if d2<3 then d2 else 3)<4:=by split <;> omega
 obtain ⟨many,hmany,many0,many1⟩:=at4 d0 d1 mn.1 mn.2
 refine ⟨c,_,_,_,rfl,rfl,SqL.of (b7.st _ _ nc ec),hmany,?_⟩
 have b47:=b6.trans b7
 refine ⟨_,rfl,_,rfl,fO.mpr ⟨p,many,rfl,b47.pot,many0,many1,λlp us H8 b8 hlp nlp elp tu lu =>?_⟩⟩
 obtain ⟨m,rfl⟩:∃m:Nat,many=m:=⟨many.toNat,by omega⟩
 have s48:=s3.trans (fr (b47.trans b8))
 refine ⟨_,rfl,_,rfl,lp,rfl,⟨_,SqL.of elp⟩,ja (xs:=us.map λu =>.ref u.1) (λj ys H'=>aM H8 H'/\∃vs:List (Addr×List Int),ys=vs.map (λu =>.ref u.1)/\vs.length=j/\∀v∈vs,H' v.1=some (.tup (v.2.map V.int))/\∃u∈us,v.2=nr u.2) (by refine ⟨aM.refl _,[],rfl,rfl,?_⟩;intro v h;cases h) (by rw[rn];exact small (by omega)) (λj ys H' _ h=>SqL.of (h.1 _ _ elp)) ?_ ?_⟩
 ·rintro j x ys H9 hx hy ⟨s9,vs,rfl,lv,tv⟩ R1 R0 r1 r0
  obtain ⟨u,eu,rfl⟩:=item hx
  have mu:=rT eu
  obtain ⟨e1,y,z,e5,_⟩:=tu u mu
  have tu9:=s9 _ _ e1
  rw[e5] at tu9
  refine eZ ⟨_,rfl,u.1,y,z,rfl,SqT.of tu9,_,rfl,u.1,y,z,rfl,SqT.of tu9,(by show 2<=rN;decide),λt ht=>r1 _ _ ⟨s9.trans (ah ht _),vs++[(t,nr u.2)],by rw[sE];rfl,by rw[rC,sL,lv],λv hv =>?_⟩⟩
  rcases rV.mp hv with h | h
  ·exact ⟨(ah ht _) _ _ (tv v h).1,(tv v h).2⟩
  ·rw[sq.mp h]
   refine ⟨?_,u,mu,rfl⟩
   rw[ag,e5];rfl
 rintro ys H9 hy ⟨s9,vs,rfl,lv,tv⟩ l9 hl9
 have lv2:vs.length<=200:=by rw[lv,rn];exact lu
 have g1:=ah hl9 (.lst (vs.map λu =>.ref u.1))
 refine ⟨l9,vs,rfl,.inl (SqL.of ag),λv hv=>⟨SqT.of (g1 _ _ (tv v hv).1),λz =>?_⟩,λlo out hlo po pw =>?_⟩
 ·obtain ⟨u,_,e⟩:=(tv v hv).2
  rw[e] at z;cases z
 have g2:=ah hlo (.lst (out.map λu =>.ref u.1))
 refine ⟨lo,_,rfl,.inl ⟨SqL.of ag,λtt htt=>⟨(by show 2<=rN;decide),λwb hwb =>?_⟩⟩⟩
 have g3:=ah htt (.tup (out.map λu =>.ref u.1))
 have g4:=ah hwb (.tup [.int m,.ref tt])
 have s10:=s9.trans (g1.trans (g2.trans (g3.trans g4)))
 have nrm:∀u∈out,∃a b:Int,u.2=[a,b]/\0<=a/\a<m/\0<=b/\b<m/\a<=b:=λv hv=>by
  obtain ⟨u,mu,e⟩:=(tv v (po.mem_iff.mp hv)).2
  rw[e];exact q5 (tu u mu).2
 have ett:=g4 _ _ (ag (H:=upd (upd H9 l9 (.lst (vs.map λu =>.ref u.1))) lo (.lst (out.map λu =>.ref u.1))) (a:=tt) (o :=.tup (out.map λu =>.ref u.1)))
 have Wf:Wp (upd (upd (upd (upd H9 l9 (.lst (vs.map λu =>.ref u.1))) lo (.lst (out.map λu =>.ref u.1))) tt (.tup (out.map λu =>.ref u.1))) wb (.tup [.int m,.ref tt])) wb m out:=⟨⟨tt,ag,ett⟩,λu hu=>(g1.trans (g2.trans (g3.trans g4))) _ _ (tv u (po.mem_iff.mp hu)).1,λu hu=>by obtain ⟨a,b,e,h1,h2,h3,h4,_⟩:=nrm u hu;exact ⟨a,b,e,h1,h2,h3,h4⟩,by rw[po.length_eq];exact lv2⟩
 have bw:Beh HT.lexLe (out.map (·.2)):=nv (pw.imp λh=>le_of_lt h)
 have lo2:out.length<=200:=by rw[po.length_eq];exact lv2
 generalize upd (upd (upd (upd H9 l9 (.lst (vs.map λu =>.ref u.1))) lo (.lst (out.map λu =>.ref u.1))) tt (.tup (out.map λu =>.ref u.1))) wb (.tup [.int m,.ref tt])=H10 at s10 ett Wf
 clear tv pw po g1 g2 g3 g4 hl9 hlo htt hwb lv lv2
 have elp10:=s10 _ _ elp
 have tu10:∀u∈us,H10 u.1=some (.tup (u.2.map V.int)):=λu hu=>s10 _ _ (tu u hu).1
 refine ⟨_,rfl,_,rfl,lp,us,rfl,.inl (SqL.of elp10),λu hu=>SqT.of (tu10 u hu),by omega,λsa S hsa sub nd all le =>?_⟩
 have h1:=ah hsa (dD w sa (S.map λt =>.ref t.1))
 have tS:∀t∈S,upd H10 sa (dD w sa (S.map λt =>.ref t.1)) t.1=some (.tup (t.2.map V.int)):=λt ht=>h1 _ _ (tu10 t (sub t ht))
 refine ⟨sa,S,rfl,ag,λt ht=>⟨SqT.of (tS t ht),λz =>?_⟩,by omega,λlo3 out3 hlo3 po3 pw3 =>?_⟩
 ·obtain ⟨y,z',e,_⟩:=(tu t (sub t ht)).2
  rw[e] at z;cases z
 have h2:=ah hlo3 (.lst (out3.map λu =>.ref u.1))
 refine ⟨lo3,_,rfl,.inl ⟨SqL.of ag,λtt3 htt3=>⟨(by show 2<=rN;decide),λob hob =>?_⟩⟩⟩
 have h3:=ah htt3 (.tup (out3.map λu =>.ref u.1))
 have h4:=ah hob (.tup [.int m,.ref tt3])
 have s11:=h1.trans (h2.trans (h3.trans h4))
 have ett3:=h4 _ _ (ag (H:=upd (upd H10 sa (dD w sa (S.map λt =>.ref t.1))) lo3 (.lst (out3.map λu =>.ref u.1))) (a:=tt3) (o :=.tup (out3.map λu =>.ref u.1)))
 have l3:out3.length<=200:=by rw[po3.length_eq];omega
 have pr3:∀u∈out3,∃a b:Int,u.2=[a,b]/\0<=a/\a<m/\0<=b/\b<m:=λu hu=>(tu u (sub u (po3.mem_iff.mp hu))).2
 have Wo:Wp (upd (upd (upd (upd H10 sa (dD w sa (S.map λt =>.ref t.1))) lo3 (.lst (out3.map λu =>.ref u.1))) tt3 (.tup (out3.map λu =>.ref u.1))) ob (.tup [.int m,.ref tt3])) ob m out3:=⟨⟨tt3,ag,ett3⟩,λu hu=>s11 _ _ (tu10 u (sub u (po3.mem_iff.mp hu))),pr3,l3⟩
 have nd3:(out3.map (·.2)).Nodup:=(po3.map _).nodup_iff.mpr nd
 have bo:Beh HT.lexLt (out3.map (·.2)):=nv (zD pw3 (tF.mp nd3) |>.imp λh=>iX h.1 h.2)
 have W11:=Wf.same s11
 have ett11:=s11 _ _ ett
 generalize upd (upd (upd (upd H10 sa (dD w sa (S.map λt =>.ref t.1))) lo3 (.lst (out3.map λu =>.ref u.1))) tt3 (.tup (out3.map λu =>.ref u.1))) ob (.tup [.int m,.ref tt3])=H11 at s11 ett3 Wo W11 ett11
 clear h1 h2 h3 h4 tS po3 pw3 hsa hlo3 htt3 hob tu10 elp10 sub nd all le
 obtain ⟨t5,t5a,t5b⟩:=W11.at'
 obtain ⟨t6,t6a,t6b⟩:=Wo.at'
 refine ⟨_,rfl,(m:Int),rfl,dk (by omega) (by omega),(by show 2<=rN;decide),λlw hlw =>?_⟩
 have g12:=ah hlw (.lst [.str "web",.str (nT m)])
 refine ⟨_,rfl,wb,_,1,.ref t5,rfl,rfl,SqT.of (g12 _ _ t5a),rfl,dH.mpr ⟨lw,t5, "-",m,["web",nT m],out,rfl,ag,g12 _ _ t5b,λu hu=>g12 _ _ (W11.tup u hu),W11.pr,by omega,W11.len,(by show 2<=50;decide),(λx hx =>?_),by decide,λH12 k12 =>?_⟩⟩
 ·rcases sv.mp hx with rfl | hx
  ·decide
  ·rw[sq.mp hx]
   exact su (cf m (by omega)) (by decide)
 have s12:aM H11 H12:=λq o e=>k12 q o (ak e hlw) (g12 _ _ e)
 have W12:=W11.same s12
 have Wo12:=Wo.same s12
 have t6a:=s12 _ _ t6a
 have t6b:=s12 _ _ t6b
 refine ⟨_,rfl,(m:Int),rfl,dk (by omega) (by omega),(by show 2<=rN;decide),λlx hlx =>?_⟩
 have g13:=ah hlx (.lst [.str "ways",.str (nT m)])
 refine ⟨_,rfl,ob,_,1,.ref t6,rfl,rfl,SqT.of (g13 _ _ t6a),rfl,dH.mpr ⟨lx,t6, ">",m,["ways",nT m],out3,rfl,ag,g13 _ _ t6b,λu hu=>g13 _ _ (Wo12.tup u hu),Wo12.pr,by omega,Wo12.len,(by show 2<=50;decide),(λx hx =>?_),by decide,λH13 k13 =>?_⟩⟩
 ·rcases sv.mp hx with rfl | hx
  ·decide
  ·rw[sq.mp hx]
   exact su (cf m (by omega)) (by decide)
 have s13:aM H12 H13:=λq o e=>k13 q o (ak e hlx) (g13 _ _ e)
 have W13:=W12.same s13
 have Wo13:=Wo12.same s13
 have plw:Pl m (out.map (·.2)):=λp hp=>by
  obtain ⟨u,hu,rfl⟩:=sJ.mp hp
  obtain ⟨a,b,e,h1,h2,h3,h4,_⟩:=nrm u hu
  exact ⟨a.toNat,b.toNat,by rw[e,vB h1,vB h3],by omega,by omega⟩
 have plo:Pl m (out3.map (·.2)):=λp hp=>by
  obtain ⟨u,hu,rfl⟩:=sJ.mp hp
  obtain ⟨a,b,e,h1,h2,h3,h4⟩:=pr3 u hu
  exact ⟨a.toNat,b.toNat,by rw[e,vB h1,vB h3],by omega,by omega⟩
 refine ⟨_,rfl,fE.mpr ⟨wb,m,out,rfl,W13,by omega,by omega,λH14 s14 =>?_⟩⟩
 refine ⟨_,rfl,cD.mpr ⟨_,_,rfl,pC,λH15 s15=>⟨_,rfl,bF ?_⟩⟩⟩
 have s35:=s14.trans s15
 refine ⟨_,rfl,fF.mpr ⟨ob,m,out3,rfl,Wo13.same s35,by omega,by omega,λH16 s16 =>?_⟩⟩
 refine ⟨_,rfl,cD.mpr ⟨_,_,rfl,pC,λH17 s17=>⟨_,rfl,bF ?_⟩⟩⟩
 have s37:=s35.trans (s16.trans s17)
 have abw:∀p∈out.map (·.2),∀a b:Int,p=[a,b]->a<=b:=λp hp a b e=>by
  obtain ⟨u,hu,rfl⟩:=sJ.mp hp
  obtain ⟨a',b',e',_,_,_,_,h⟩:=nrm u hu
  rw[e'] at e
  cases e
  exact h
 refine ⟨2,rfl,by decide,by decide,dR (λ_ σ H'=>(∃c9,σ=[some (.ref a),some (.int cell),some (.ref p),some (.int m),some (.ref lp),some (.ref wb),some (.ref ob),some (.str (Txt.join " " (wds "web" (sgn 45) m (out.map (·.2))))),some (.str (Txt.join " " (wds "ways" (sgn 62) m (out3.map (·.2))))),c9])/\aM H13 H') ⟨⟨_,rfl⟩,s37⟩ ?_ ?_⟩
 ·rintro j σ H18 hj ⟨⟨c9,rfl⟩,s18⟩
  refine ⟨_,rfl,fM.mpr ⟨m,out.map (·.2),rfl,by omega,plw,by rw[rn];exact lo2,abw,bw,λr ts H19 s19 Wr er =>?_⟩⟩
  have s39:=s18.trans s19
  refine ⟨_,rfl,cD.mpr ⟨_,_,rfl,pD Wr (W13.same s39) er,λH20 s20=>⟨_,rfl,bF ?_⟩⟩⟩
  have s30:=s39.trans s20
  refine ⟨_,rfl,fN.mpr ⟨m,out3.map (·.2),rfl,by omega,plo,by rw[rn];exact l3,bo,λr3 ts3 H21 s21 Wr3 er3 =>?_⟩⟩
  have s31:=s30.trans s21
  exact ⟨_,rfl,cD.mpr ⟨_,_,rfl,pD Wr3 (Wo13.same s31) er3,λH22 s22=>⟨_,rfl,bF ⟨⟨_,rfl⟩,s31.trans s22⟩⟩⟩⟩
 ·rintro σ H18 ⟨⟨c9,rfl⟩,s18⟩
  exact ⟨⟨_,_,_,_,_,_,_,_,_,rfl⟩,s48.trans (s10.trans (s11.trans (s12.trans (s13.trans s18))))⟩
end
open PySem L2
theorem all_mk {l:PySem.W.OpenLaw}{w:sC}{K:rk}{h:Heap}{mg:Str->Option rg}{fa:Addr}(X:K.In h)(G:h.Ns sr mg)(hfa:mg "law" = some (.ref fa))
  (h1:bQ K "pairs_text" dh) (h2:bQ K "web_text" fz) (h3:bQ K "oneway_text" cM) (h4:bQ K "number_read" cN) (h5:bQ K "pair_read" dY) (h6:bQ K "words_of" fA) (h7:bQ K "is_tie_behind" cz) (h8:bQ K "is_arrow_behind" bV) (h9:bQ K "pairs_read" di) (h10:bQ K "read_web" fB) (h11:bQ K "read_oneway" cO) (h12:bQ K "_law_deal" jB) (h13:bQ K "_law_take" jC) (h14:bQ K "_law_same" jD) (h15:bQ K "_law_pairs" g9) (h16:bQ K "_law_written" dZ) (h17:bQ K "law" lR)
  (y_all:sP K sr "all" = some none) (y_bool:sP K sr "bool" = some none) (y_int:sP K sr "int" = some none) (y_isinstance:sP K sr "isinstance" = some none) (y_len:sP K sr "len" = some none) (y_list:sP K sr "list" = some none) (y_max:sP K sr "max" = some none) (y_min:sP K sr "min" = some none) (y_range:sP K sr "range" = some none) (y_set:sP K sr "set" = some none) (y_sorted:sP K sr "sorted" = some none) (y_str:sP K sr "str" = some none) (y_tuple:sP K sr "tuple" = some none) (y_zip:sP K sr "zip" = some none)
  {t_MOST_PLACES:Nat} (q_MOST_PLACES:sP K sr "MOST_PLACES" = some (some (.int 40 t_MOST_PLACES)))
  {t_MOST_TIES:Nat} (q_MOST_TIES:sP K sr "MOST_TIES" = some (some (.int 200 t_MOST_TIES)))
  {t_FIGURES:Nat} (q_FIGURES:sP K sr "FIGURES" = some (some (.str "0123456789" t_FIGURES)))
  : ∃fd:sV,(∀(s:rj) (v:rg),BindsTo s fd ⟨[v],[]⟩ [("script",v)])/\∀base:Heap,K.In base->base.Ns sr mg->bE l.prog w K mg base CX0 5 fa fd ["script"] (iW K):=by
 obtain ⟨fl,od,an,sl,oc,kV,dc,pm,cd,ct,al,ll,cl,kl⟩:=h17
 have e:=hfa.symm.trans (vh X G al)
 cases e
 have F17:=i6 ll cl kl
 have z_all:=sD X G y_all
 have z_bool:=sD X G y_bool
 have z_int:=sD X G y_int
 have z_isinstance:=sD X G y_isinstance
 have z_len:=sD X G y_len
 have z_list:=sD X G y_list
 have z_max:=sD X G y_max
 have z_min:=sD X G y_min
 have z_range:=sD X G y_range
 have z_set:=sD X G y_set
 have z_sorted:=sD X G y_sorted
 have z_str:=sD X G y_str
 have z_tuple:=sD X G y_tuple
 have z_zip:=sD X G y_zip
 have w_MOST_PLACES:=vh X G q_MOST_PLACES
 have w_MOST_TIES:=vh X G q_MOST_TIES
 have w_FIGURES:=vh X G q_FIGURES
 refine ⟨PySem.W.fnOf "law" "law" (bO lR) (bI lR) (aq lR) .none kV dc pm an cd ct,λs v =>.of_eq rfl,λbase kb nb =>?_⟩
 have B:Blt mg:=⟨z_all,z_bool,z_int,z_isinstance,z_len,z_list,z_max,z_min,z_range,z_set,z_sorted,z_str,z_tuple,z_zip⟩
 have C:Cst mg:=⟨⟨_,w_MOST_PLACES⟩,⟨_,w_MOST_TIES⟩,⟨_,w_FIGURES⟩⟩
 have cLTake:=h13.cal l.prog w base X G (λF=>ot F B C) λ_ _ _ _ _ _ us hl=>match us,hl with | [_,_],_=>rfl
 have cLPairs:=h15.cal l.prog w base X G (λF=>nu F B cLTake C) λ_ _ _ _ _ _ us hl=>match us,hl with | [_,_],_=>rfl
 have cLWritten:=h16.cal l.prog w base X G (λF=>jF F B C) λ_ _ _ _ _ _ us hl=>match us,hl with | [_,_,_],_=>rfl
 have cLDeal:=h12.cal l.prog w base X G (λF=>ou F B C) λ_ _ _ _ _ _ us hl=>match us,hl with | [_,_],_=>rfl
 have cLSame:=h14.qZ l.prog w base X G (λ_ _ _ _=>qw) (λn c=>λF=>oK F B n c C) (λ_ _ _ _ _ _ us hl=>match us,hl with | [_,_],_=>rfl) 4
 have cPairsText:=h1.cal l.prog w base X G (λF=>iT F B C) λ_ _ _ _ _ _ us hl=>match us,hl with | [_,_,_],_=>rfl
 have cWebText:=h2.cal l.prog w base X G (λF=>lT F B cPairsText C) λ_ _ _ _ _ _ us hl=>match us,hl with | [_],_=>rfl
 have cOnewayText:=h3.cal l.prog w base X G (λF=>hV F B cPairsText C) λ_ _ _ _ _ _ us hl=>match us,hl with | [_],_=>rfl
 have cWordsOf:=h6.cal l.prog w base X G (λF=>lV F B C) λ_ _ _ _ _ _ us hl=>match us,hl with | [_],_=>rfl
 have cNumberRead:=h4.cal l.prog w base X G (λF=>hW F B C) λ_ _ _ _ _ _ us hl=>match us,hl with | [_,_],_=>rfl
 have cPairRead:=h5.cal l.prog w base X G (λF=>jG F B cNumberRead C) λ_ _ _ _ _ _ us hl=>match us,hl with | [_,_,_],_=>rfl
 have cPairsRead:=h9.cal l.prog w base X G (λF=>iU F B cWordsOf cNumberRead cPairRead C) λ_ _ _ _ _ _ us hl=>match us,hl with | [_,_,_,_],_=>rfl
 have cIsTieBehind:=h7.cal l.prog w base X G (λF=>fZ F B C) λ_ _ _ _ _ _ us hl=>match us,hl with | [_,_],_=>rfl
 have cReadWeb:=h10.cal l.prog w base X G (λF=>lX F B cPairsRead cIsTieBehind C) λ_ _ _ _ _ _ us hl=>match us,hl with | [_],_=>rfl
 have cIsArrowBehind:=h8.cal l.prog w base X G (λF=>eI F B C) λ_ _ _ _ _ _ us hl=>match us,hl with | [_,_],_=>rfl
 have cReadOneway:=h11.cal l.prog w base X G (λF=>hZ F B cPairsRead cIsArrowBehind C) λ_ _ _ _ _ _ us hl=>match us,hl with | [_],_=>rfl
 exact q9 F17 B cLPairs cLWritten cLDeal cLTake cLSame cWebText cOnewayText cReadWeb cReadOneway C
theorem walk {l:PySem.W.OpenLaw}{q:rO}{loose:List Str}{XP:(Str->Option rg)->Heap->Prop}{YP:sC->Heap->Prop}{d:DefRec}{K:Params->rk}(hn:l.most=some 63)(hdf:d.params.defaults=[])
  (hY:∀(w:sC) (h:Heap),YP w h->(K w.params).In h)
  (F:∀(w:sC) (mg:Str->Option rg) (fa:Addr) (h:Heap),(K w.params).In h->h.Ns sr mg->mg d.name=some (.ref fa) →
   ∃fd:sV,(∀(s:rj) (u:rg),BindsTo s fd ⟨[u],[]⟩ [("script",u)])/\∀base:Heap,(K w.params).In base->base.Ns sr mg->bE l.prog w (K w.params) mg base CX0 5 fa fd ["script"] (iW (K w.params))) :
  PySem.W.WalkO q loose XP YP l.row.toRowW d [] (λf vs=>PySem.call f vs) :=
 L2.nI (n:=63) (k:=5) (x := "script") (CX:=λ_=>CX0) (sp:=λw=>iW (K w.params)) hn (by decide) hdf ⟨rfl,by decide,by decide⟩ hY F (λ_ _ a ns hl _ hS=>⟨a,ns,rfl,hS,hl,λ_=>rfl⟩) λ_ _ _ _ _ z=>z
end K79
def PySem.W.Fast.tw254767122799511841:Nat:=0
def PySem.W.Fast.tw17428359992588442992:Nat:=0
def PySem.W.Fast.tw9234163619024899340:Nat:=0
def PySem.W.Fast.tw7766841727209741754:Nat:=0
def PySem.W.Fast.tw1254618172249746028:Nat:=0
def PySem.W.Fast.tw2519850726800475905:Nat:=0
def PySem.W.Fast.tw6621946933780621611:Nat:=0
def PySem.W.Fast.tw7549688868657389801:Nat:=0
def PySem.W.Fast.tw9193386445493690669:Nat:=0
def PySem.W.Fast.tw9948830593887857180:Nat:=0
def PySem.W.Fast.tw16355790042182456109:Nat:=0
def PySem.W.Fast.tw16577160535775009798:Nat:=0
def PySem.W.Fast.tw17957365330486463703:Nat:=0
def PySem.W.Fast.tw4748816297360946059:Nat:=0
def PySem.W.Fast.tw11401477546892863788:Nat:=0
def PySem.W.Fast.tw12259543037076858448:Nat:=0
def PySem.W.Fast.tw13710493712558921261:Nat:=0
def PySem.W.Fast.tw12265399929203325933:Nat:=0
def PySem.W.Fast.tw15618979037673104314:Nat:=0
def PySem.W.Fast.tw9991718083192239149:Nat:=0
def PySem.W.Fast.tw8352607122449767759:Nat:=0
def PySem.W.Fast.tw15674053290302878654:Nat:=0
def PySem.W.Fast.tw16042236294581117984:Nat:=0
def PySem.W.Fast.tw13423956280057731865:Nat:=0
def PySem.W.Fast.tw7508050320597520954:Nat:=0
def PySem.W.Fast.tw10159509918349660866:Nat:=0
def PySem.W.Fast.tw1984715038034576029:Nat:=0
def PySem.W.Fast.tw1649458531868183035:Nat:=0
def PySem.W.Fast.tw18099143922839706778:Nat:=0
def PySem.W.Fast.tw16491671102088371934:Nat:=0
def PySem.W.Fast.tw10293799680936274412:Nat:=0
def PySem.W.Fast.tw5589393262029767004:Nat:=0
def PySem.W.Fast.tw4232337133456036475:Nat:=0
def PySem.W.Fast.tw840024787928838960:Nat:=0
def PySem.W.Fast.tw14552351572106856743:Nat:=0
def PySem.W.Fast.tw5952570959772986544:Nat:=0
def PySem.W.Fast.tw5179240434642112613:Nat:=0
def PySem.W.Fast.tw10883064517201030518:Nat:=0
def PySem.W.Fast.tw7029324441657731236:Nat:=0
def PySem.W.Fast.tw10414414748821943362:Nat:=0
def PySem.W.Fast.tw16140857861438190282:Nat:=0
def PySem.W.Fast.tw6184930992095349606:Nat:=0
def PySem.W.Fast.tw4922649333455763948:Nat:=0
def PySem.W.Fast.tw5237903530478265710:Nat:=0
def PySem.W.Fast.tw14150629013877484484:Nat:=0
def PySem.W.Fast.tw9935517663191624639:Nat:=0
def PySem.W.Fast.tw5853416782202717627:Nat:=0
def PySem.W.Fast.tw12543867109480980897:Nat:=0
def PySem.W.Fast.tw13433890981859441738:Nat:=0
def PySem.W.Fast.tw11885294767224437487:Nat:=0
def PySem.W.Fast.tw8046744961901246644:Nat:=0
def PySem.W.Fast.tw3566202216181021226:Nat:=0
def PySem.W.Fast.tw13571260353491539466:Nat:=0
def PySem.W.Fast.tw13413515211781613779:Nat:=0
def PySem.W.Fast.tw9935244873069147962:Nat:=0
def PySem.W.Fast.tw12343679976147846147:Nat:=0
def PySem.W.Fast.tw10432621858582923593:Nat:=0
def PySem.W.Fast.tw1152081590070888294:Nat:=0
def PySem.W.Fast.tw17850502694334764303:Nat:=0
def PySem.W.Fast.tw18195409488690886013:Nat:=0
def PySem.W.Fast.tw15638311376530784550:Nat:=0
def PySem.W.Fast.tw3502093240931587699:Nat:=0
def PySem.W.Fast.tw6567113082485654090:Nat:=0
def PySem.W.Fast.tw2969084442619716941:Nat:=0
def PySem.W.Fast.tw9129160651164670581:Nat:=0
def PySem.W.Fast.tw7069558303377232550:Nat:=0
def PySem.W.Fast.tw5154531609291434260:Nat:=0
def PySem.W.Fast.tw14445805798720721722:Nat:=0
def PySem.W.Fast.tw17922214410607296391:Nat:=0
def PySem.W.Fast.tw1885710057950518558:Nat:=0
def PySem.W.Fast.tw146694352877365072:Nat:=0
def PySem.W.Fast.tw3944010959254962689:Nat:=0
def PySem.W.Fast.tw17109028195673816017:Nat:=0
def PySem.W.Fast.tw4866896176492658252:Nat:=0
def PySem.W.Fast.tw17434073413428476680:Nat:=0
def PySem.W.Fast.tw4843625304224146885:Nat:=0
def PySem.W.Fast.tw7709161478067022745:Nat:=0
def PySem.W.Fast.tw16424673609947736901:Nat:=0
def PySem.W.Fast.tw16266142685171627729:Nat:=0
def PySem.W.Fast.tw1640632501220780560:Nat:=0
def PySem.W.Fast.tw4852205838918624621:Nat:=0
def PySem.W.Fast.tw320552093195539778:Nat:=0
def PySem.W.Fast.tw18286306237017018569:Nat:=0
def PySem.W.Fast.tw4447951181957175145:Nat:=0
def PySem.W.Fast.tw6941196778182908273:Nat:=0
def PySem.W.Fast.tw17786217723611426839:Nat:=0
open PySem PySem.W PyProof.Rows
set_option maxRecDepth 100000 in
set_option maxHeartbeats 0 in
theorem PySem.Challenge.cw_ringfell_k79_webs_written_holds : PySem.Challenge.rw_ringfell_k79_webs_written.Holds := by
 w_on;o_law;k_head;(case hw=>w_witness2)
 k_fill
 refine K79.walk (l:=PySem.Challenge.rw_ringfell_k79_webs_written) rfl rfl (λw h Y=>PySem.W.kIn_of Y) ?F
 case F =>
  intro w mg fa h KX G hmg
  refine' K79.all_mk KX G hmg ?_ ?_ ?_ ?_ ?_ ?_ ?_ ?_ ?_ ?_ ?_ ?_ ?_ ?_ ?_ ?_ ?_ ?_ ?_ ?_ ?_ ?_ ?_ ?_ ?_ ?_ ?_ ?_ ?_ ?_ ?_ ?_ ?_ ?_
  any_goals k_is
  any_goals (refine' L2.bQ.mk ?a ?l ?c ?k;(case a=>k_is);(case l=>k_is);(case c=>k_is);(case k=>k_is))
  all_goals kernel_rfl
