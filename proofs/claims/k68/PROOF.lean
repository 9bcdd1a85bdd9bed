import PyProof.Rows.All
import Wide.All
import OpenK.AllK
import Wide.FinOn
import Lean
import PyProof.EqAt
import PyProof.EqKinds
import PyProof.TupleCall
import PyProof.ZipIter
import KE.KRevIter
import KE.KSortKey
import PyProof.MinMaxWalk
import PySem.Challenge.RW_ringfell_k68_least_orders
open List renaming length_map → xt,size_toArray → xA,getElem?_eq_some_iff → xB,mem_of_getElem? → xD,map_append → xH,getElem?_map → xI,length_append → xM,mem_cons_of_mem → xO,getElem?_eq_getElem → xP,map_cons → xR,mem_append → xS,mem_cons_self → xT,take_of_length_le → xW,getD_eq_getElem?_getD → yc,mem_singleton → yd,take_add_one → ye,mem_append_right → yg,mem_cons → yj,length_cons → yo,append_assoc → yr,map_map → yt,length_take → yw,lookup_cons → yx,append_nil → yC,mem_iff_getElem? → yF,pairwise_map → yG,pairwise_append → yH,replicate → yJ,range → yP,mem_filter → yQ,pairwise_singleton → yR,mem_map → yS,extract_eq_take_drop → yT,drop_sublist → yW,length_singleton → y6,mem_map_of_mem → y9,take_sublist → zg,getElem?_zip_eq_some → zh,getElem?_set_self → zq,sum_cons → zv,getElem?_take_of_lt → zx,nodup_cons → zD,mem_append_left → zI,filterMap_cons → zL,replicate_succ → zM,flatten_cons → zN,take_append_drop → zU,perm_append_comm → zV,getElem?_take → zX,getElem?_set_ne → zY,getElem?_of_mem → z0,map_eq_nil_iff → Ag,map_congr_left → Ah,length_drop → An,pairwise_cons → Aq,getElem?_toArray → Ar,pairwise_iff_getElem → Aw,length_nil → Az,length_zip → AA,length_eq_zero_iff → AH,length_pos_iff → AI,all_eq_true → AJ,mem_range → AL,filter_append → AQ,of_mem_zip → AS,find?_cons → AX,getElem?_eq_none → AY,length_filter_le → AZ,getElem?_append_right → A5,mem_of_mem_drop → A6,mem_of_mem_take → A7,getElem?_append_left → A9,reverse_append → Bd,zip_cons_cons → Bi,any_cons → Bl,getElem?_drop → Bm,getElem?_inj → BB,filter_congr → BC,nodup_nil → BE,drop_append_of_le_length → BJ,take_append_of_le_length → BK,ext_getElem → BL,filter_cons → BM,length_set → B0,nil_append → B2,length_take_le → B5,mem_filterMap → Cb,set_set → Cc,take_zero → Ck,drop_left → Cm,getElem?_eq_none_iff → Co,ext_getElem? → Cu,nodup_append → Cy,zipIdx_cons → CK,cons_append → CL,drop_eq_nil_of_le → CT,length_replicate → CY,forIn_cons → CZ,reverse_reverse → Dd,getElem_of_mem → Dl,filter_eq_self → Dm,map_inj_right → DB,reverse_perm → DM,mapM_toArray → DN,map_nil → DS,getElem_inj → DX,perm_middle → DZ,getElem_mem → D3,foldl_cons → D9,zipIdx_nil → Ef,drop_drop → Er,drop_zero → Es,forIn_nil → Et,all_cons → EE,all_map → EI
open PySem renaming wpAny_bind → xu,Value → xw,Shared → xy,sizeLine → xG,wpAny_pure → xJ,Program → xX,wpAny → x8,model → x9,mainGlobals → yh,World → yv,Around → yy,starEach → yA,codeAny_builtin → yI,FuncData → yM,bootBuiltins → yN,wpAny_callSpecial?_slot → zd,wpAny_call_entry → ze,wpAny_mono → zk,wpAny_seqItems → zB,wpAny_holding → zG,plainId_quiet → zH,wpAny_truthy_bool → zP,wpAny_attempt → zR,compareOp → Aa,wpAny_newObj_type → Ad,mem_of_lookup → Af,wpAny_field → Aj,richCompare_meets_room → Al,wpAny_Call_Name_kw → As,wpAny_setField_rec → Av,wpAny_passesOwn → AB,wpAny_rule → AN,wpAny_execs_nil → A0,wpAny_letGo → A1,wpAny_ite_split → A2,wpAny_loadPart_at → A4,backTo → Bh,wpAny_standAt → Br,wpAny_newList → Bt,codeAny → Bv,wpAny_pyIter_list → BD,wpAny_typeOf → BH,wpAny_isInstance → BP,wpAny_updateSeq_pair → BR,call_meets → BX,wpAny_pyIter_tuple → Cf,codeAny_mono → Cg,wpAny_evalAll_cons → Ci,wpAny_runValue → Cq,wpAny_tryCatch → Cr,wpAny_onRaise → CD,wpAny_execs_cons → CO,noFill_tuple_add → CP,wpAny_isTrue_Compare1 → C5,concat_meets → C6,wpAny_updateSeq → C7,wpAny_load → C8,codeAny_call_builtin → Df,wpAny_newTuple → Dg,isSubtype_stop → Di,wpAny_raiseNew_none → Dq,seq_tuple_add → DD,wpAny_eqBool_tuple → DF,tupleKind_room_in1 → DG,wpAny_evalAll_nil → DQ,wpAny_pyIter_slot → DR,seqIndex_neg → DT,intItems → D8,seqIndex_of → Ei,holding → Ek,boot_len → Eu,wpAny_Name → EC,typeIs_int → ED,numAt_eq → EH,rawInt → EJ
open PySem.Heap renaming get?_push_of_some → xv,lt_size → xE,get?_push_size → xF,get?_update_other → x6,get?_update_self → yn,get?_update_ne → zw,size_push → AM,size_update → D1
open PySem.W renaming Frag → xx,nsIn → yu,mg_none_of → yK,mg_of → zc,kia_one → zu,hideAll_get → CF,cellsFrom_some → CQ,callWith_K → Du,kitx_list → DH,kitx_dict → DI,looks_findIn → DW,kat_cons → D6,kat_yes → Eg,kat_one → Eh,kat_no → Ew
open Nat renaming le_refl → xC,lt_of_lt_of_le → xZ,ne_of_lt → x5,le_trans → yf,zero_le → yE,lt_irrefl → yV,lt_of_le_of_lt → y3,lt_succ_of_lt → zy,ne_of_gt → zS,le_sub_one_of_lt → zZ,pow_le_pow_right → z9,le_of_lt → Ao,add_sub_cancel_left → AG,le_add_right → AK,eq_zero_of_not_pos → AO,add_le_add_left → Bc,zero_add → Bg,le_succ_of_le → BA,sub_one_lt_of_lt → BQ,min_self → Cd,lt_of_succ_lt → Ct,le_of_not_lt → CG,lt_succ_self → CH,le_of_sub_eq_zero → C2,lt_of_le_of_ne → Dx,sub_pos_of_lt → DJ,le_of_succ_le → DK,succ_le_succ → D0,lt_of_not_le → D7,le_antisymm → Eb,not_lt_zero → Ee,mul_le_mul → Ex,add_assoc → EF
open Array renaming length_toList → xK,getElem?_toList → xU,toList_append → yp,toList_extract → zo,getElem?_eq_some_iff → zK,size_push → zW,toList_push → Ac,toList_reverse → Ay,size_append → A3,toList_setIfInBounds → B9,perm_iff_toList_perm → Ca,getElem?_eq_getElem → Cp,toList_inj → CJ,getElem?_eq_none → CU,append_assoc → Dt
open Bool renaming false_ne_true → xN,and_eq_true → yO,false_eq_true → zp,eq_iff_iff → zC,eq_false_iff → zO,not_true → BU,false_and → El,false_or → EG
open PyProof.Rows renaming wpS_bind → xQ,Keyed → xY,wpS_pure → x3,arrOf → x4,pendingOf → yi,SortSt → yl,wpS_forRange → y7,IntsAre → zJ,wpS_mono → zQ,wpS_modify → Ae,listUpdate_at → Au,callWith_type1 → AR,get?_update_seq → Bs,listItems_at → BG,KeyOrd → BI,wpS_get → BN,reverseSlice'_eq → BO,wpS_lift → BW,callWith_kw → Cw,subscriptTail_builtinR → CW,keyLt'_oneType → Dh,getElem?_mirror_all → Dn,seqEpoch_at → Dp,size_push' → DP,plain_sorted → DU,entry_sorted → DV,kind_sorted → Ej
open PySem.Value renaming ref → xV,none → zA,int → Ab,type → BZ
open PySem.Obj renaming mapSeq → yk,data_mapFields → Dw
open Option.some renaming inj → ym
open PyProof.Rows.KeyOrd renaming kle_trans → yq,kle_of_klt → zi,kle_refl → zE,kle_antisymm → Dk
open PySem.F renaming plainAttrs_list → yz,plain_extend_loop → yU,slot_list_append → yX,type_list_append → yY,slot_dict_itemiterator_next → y8,slot_dict_keyiterator_next → zf,plain_min_loop → zt,plain_list_iadd → zF,slot_tuple_iterator_next → Am,entry_extend_loop → Ax,slot_tuple_lt → AU,entry_proto_collect → AV,plain_proto_collect → AW,args_dict_itemiterator_next_1 → A8,entry_dict_itemiterator_next → Ba,args_dict_keyiterator_next_1 → Bb,entry_dict_keyiterator_next → Be,args_tuple_add_2 → Bf,args_tuple_lt_2 → Bj,entry_tuple_add → Bk,entry_list_iadd → Bn,slot_list_index → Bo,slot_dict_items → Bp,entry_tuple_lt → Bw,slot_tuple_add → Bx,entry_min_loop → Bz,typeOf_object_class → BF,args_tuple_iterator_next_1 → BS,slot_dict_items_iter → BV,entry_tuple_iterator_next → B3,slot_zip_next → B4,slot_list_count → Cz,type_list_index → CA,plainAttrs_dict → CB,type_dict_items → CC,slot_dict_iter → CV,attrBase_ValueError → C3,excBase_ValueError → De,slot_gs_get → DC,args_zip_next_1 → DL,args_list_ne_2 → D2,entry_zip_next → D4,slot_int_rmul → Ea,entry_list_ne → Ed
open PySem.Around renaming under_plainId → yB,in1_units → CN
open Int renaming toNat_natCast → yD,fdiv_eq_ediv_of_nonneg → B8,emod_lt_of_pos → Ce,emod_nonneg → C4
open PySem.PassesOwn renaming never → yL
open PySem.Builtin.List renaming listExtendWith → yZ,listSameRef → AD,listLengthHint → B6
open Ne renaming symm → zj
open List.Perm renaming append_left → zT,append_right → Ak,refl → Cj
open Iff renaming rfl → Ai
open PySem.SeqAt.EqAt renaming int_int → Ap,same → B1,bool_bool → C9,int_str → Dr,str_int → Ds,str_str → Dv,of_refs → Dz
open PySem.SeqAt renaming EqAt → AE
open PySem.Paired renaming length → AF,snoc → EM
open List.cons renaming inj → Bq
open PySem.Calls renaming Name_function_global → B7,call_function_entry → Cn,callWith_builtin → CS,evalArgs_plain → Dc
open PySem.AutoSeq1 renaming sub_tuple_tuple → Cs
open PySem.SeqAt.RcAt renaming tuples → Cv,lists → D5
open PySem.AutoListH renaming list_insert_list_int_val_1 → CI
open PySem.W.Looks renaming ld → CM,here → EO
open Option renaming map_some → C0,getD_none → DY
open PySem.Heap.SameBut renaming update → Dj
open PySem.Code renaming quiet_builtin → Dy
open StateT renaming run_pure → Ec
open PySem.EqMixed renaming eq_bool_str → Em,eq_str_bool → En,ne_bool_str → Eo,ne_str_bool → Ep,eq_int_str → Ey,eq_str_int → Ez,ne_int_str → EA,ne_str_int → EB
open PySem.W.KatTups renaming cons → EK
open List.Pairwise renaming filter → EL,and → ER
open Prod.mk renaming inj → EN
set_option Elab.async false
set_option linter.all false
set_option maxRecDepth 100000
namespace L2
open PySem PySem.Spec PyProof.Rows
abbrev Key:=Sum Int Str
def kf:Key->xw->Bool
 | .inl k,v=>Value.isInt k v
 | .inr x,v=>Value.isStrOf x v
def keyH (w:yv):Key->Int
 | .inl k=>hashInt k
 | .inr x=>hashStr w x
theorem aZ:∀{k:Key} {v:xw},kf k v=true->(∃i t,k=Sum.inl i/\v=Ab i t)\/(∃x t,k=Sum.inr x/\v=Value.str x t)
 | .inl i,v,h=>by
  obtain ⟨t,e⟩:=Value.isInt_shape (k:=i) (v:=v) h
  exact .inl ⟨i,t,rfl,e⟩
 | .inr x,v,h=>by
  obtain ⟨t,e⟩:=Value.isStrOf_shape (x:=x) (v:=v) h
  exact .inr ⟨x,t,rfl,e⟩
theorem oV (i:Int)(t:Tok):kf (.inl i) (.int i t)=true:=by simp[kf,Value.isInt]
theorem oW (x:Str)(t:Tok):kf (.inr x) (.str x t)=true:=by simp[kf,Value.isStrOf]
theorem uU (a b:Int):decide ((Sum.inl a:Key)=Sum.inl b)=(a == b):=by
 by_cases e:a=b
 ·subst e;simp
 ·have h:¬ (Sum.inl a:Key)=Sum.inl b:=λq=>e (Sum.inl.inj q)
  rw[decide_eq_false h]
  exact (beq_eq_false_iff_ne.mpr e).symm
theorem uV (a b:Str):decide ((Sum.inr a:Key)=Sum.inr b)=decide (a=b):=by
 by_cases e:a=b
 ·subst e;simp
 ·have h:¬ (Sum.inr a:Key)=Sum.inr b:=λq=>e (Sum.inr.inj q)
  rw[decide_eq_false h,decide_eq_false e]
theorem uW (a:Int)(b:Str):decide ((Sum.inl a:Key)=Sum.inr b)=false:=decide_eq_false (λq=>nomatch q)
theorem uZ (a:Str)(b:Int):decide ((Sum.inr a:Key)=Sum.inl b)=false:=decide_eq_false (λq=>nomatch q)
def bD (prog:xX)(w:yv):PySem.KeyKind prog w Key where
 is:=kf
 hash:=keyH w
 inj:=λv a b ha hb=>by
  rcases aZ ha with ⟨i,t,rfl,rfl⟩ | ⟨x,t,rfl,rfl⟩
  ·rcases aZ hb with ⟨j,u,rfl,e⟩ | ⟨y,u,rfl,e⟩
   ·injection e with e1 _;rw[e1]
   ·exact nomatch e
  ·rcases aZ hb with ⟨j,u,rfl,e⟩ | ⟨y,u,rfl,e⟩
   ·exact nomatch e
   ·injection e with e1 _;rw[e1]
 byValue:=λk v h=>by
  rcases aZ h with ⟨i,t,rfl,rfl⟩ | ⟨x,t,rfl,rfl⟩ <;> rfl
 pyHash:=λhv h=>by
  rcases aZ hv with ⟨i,t,rfl,rfl⟩ | ⟨x,t,rfl,rfl⟩
  ·exact wpAny_pyHash_int h
  ·exact wpAny_pyHash_str h
 eqBool:=λhu hv h=>by
  rcases aZ hu with ⟨i,t,rfl,rfl⟩ | ⟨x,t,rfl,rfl⟩
  ·rcases aZ hv with ⟨j,u,rfl,rfl⟩ | ⟨y,u,rfl,rfl⟩
   ·rw[uU] at h;exact wpAny_eqBool_int h
   ·rw[uW] at h;exact Dr i t y u _ _ _ _ h
  ·rcases aZ hv with ⟨j,u,rfl,rfl⟩ | ⟨y,u,rfl,rfl⟩
   ·rw[uZ] at h;exact Ds x t j u _ _ _ _ h
   ·rw[uV] at h;exact wpAny_eqBool_str h
 «strs» := λk x t v h=>by
  rcases aZ h with ⟨i,u,rfl,e⟩ | ⟨y,u,rfl,e⟩
  ·exact nomatch e
  ·injection e with e1 _
   subst e1
   cases v <;> rfl
theorem ma (prog:xX)(w:yv)(i:Int)(t:Tok):(bD prog w).is (.inl i) (.int i t)=true:=oV i t
theorem me (prog:xX)(w:yv)(x:Str)(t:Tok):(bD prog w).is (.inr x) (.str x t)=true:=oW x t
open PySem PySem.Spec PyProof.Rows
inductive V where
 | non | bl (b:Bool) | int (i:Int) | str (x:Str) | byt (b:Array UInt8) | flt (b:UInt64) | ref (a:Addr) | ty (n:String)
 deriving DecidableEq
def RelV:V->xw->Prop
 | .non,u=>u=zA
 | .bl b,u=>u=Value.bool b
 | .int i,u=>∃t,u=Ab i t
 | .str x,u=>∃t,u=Value.str x t
 | .byt b,u=>∃t,u=Value.bytes b t
 | .flt b,u=>∃t,u=Value.float b t
 | .ref a,u=>u=xV a
 | .ty n,u=>u=BZ n
abbrev Vals:List V->List xw->Prop:=Paired RelV
theorem Vals.length {xs:List V}{us:List xw}(r:Vals xs us):xs.length=us.length:=AF r
theorem Vals.get:∀{xs:List V} {us:List xw} {i:Nat} {x:V},Vals xs us->xs[i]? = some x->∃u,us[i]? = some u/\RelV x u
 | _,_,_,_,.nil,e=>by simp at e
 | _,_,0,_,.cons r _,e=>by simp at e;subst e;exact ⟨_,rfl,r⟩
 | _,_,i+1,x,.cons _ t,e=>by
  obtain ⟨u,h1,h2⟩:=Vals.get (i:=i) (x:=x) t (by simpa using e)
  exact ⟨u,by simpa using h1,h2⟩
theorem Vals.set {x:V}{u:xw}(r:RelV x u):∀{xs:List V} {us:List xw} (i:Nat),Vals xs us->Vals (xs.set i x) (us.set i u)
 | _,_,_,.nil =>.nil
 | _,_,0,.cons _ t =>.cons r t
 | _,_,i+1,.cons q t =>.cons q (Vals.set r i t)
theorem Vals.append:∀{xs ys:List V} {us ws:List xw},Vals xs us->Vals ys ws->Vals (xs++ys) (us++ws)
 | _,_,_,_,.nil,s=>s
 | _,_,_,_,.cons r t,s =>.cons r (Vals.append t s)
theorem Vals.take:∀{xs:List V} {us:List xw} (n:Nat),Vals xs us->Vals (xs.take n) (us.take n)
 | _,_,0,_ =>.nil
 | _,_,_+1,.nil =>.nil
 | _,_,n+1,.cons r t =>.cons r (Vals.take n t)
theorem Vals.drop:∀{xs:List V} {us:List xw} (n:Nat),Vals xs us->Vals (xs.drop n) (us.drop n)
 | _,_,0,r=>r
 | _,_,_+1,.nil =>.nil
 | _,_,n+1,.cons _ t=>Vals.drop n t
def iU:Option V->Option xw->Prop
 | some v,some u=>RelV v u
 | none,none=>True
 | _,_=>False
def KV {κ:Type}:List (κ×V)->List (κ×xw)->Prop:=Paired λ(p:κ×V) (q:κ×xw)=>p.1=q.1/\RelV p.2 q.2
def kV:Key->V
 | .inl i =>.int i
 | .inr x =>.str x
inductive HO where
  | lst (xs:List V)
  | tup (xs:List V)
  | dK (kvs:List (Key×V)) | dT (kvs:List (List Key×V))
  | set (S:Int->Bool) (n:Nat)
  | ins (C dx:Addr) (fs:List (Str×V))
  | own (x:Addr)
  | xd (fs:List (Str×V))
  | met (f x:Addr)
  | rng (lo hi:Int)
  | frz (o:Obj) (u:HO)
  | tbl (ps:Array xw)
  | ext (φ:Heap->Prop)
abbrev Hp:=Addr->Option HO
def upd (H:Hp)(a:Addr)(o:HO):Hp:=λb=>if b=a then some o else H b
theorem af {H:Hp}{a:Addr}{o:HO}:upd H a o a=some o:=by unfold upd;rw[if_pos rfl]
theorem ak {H:Hp}{a b:Addr}{o:HO}(h:b≠a):upd H a o b=H b:=by unfold upd;rw[if_neg h]
theorem dA {H:Hp}{a b:Addr}{o u:HO}(h:H a=some o)(h':H b=some u)(d:o≠u):a≠b:=by
 intro e;subst e;rw[h] at h';exact d (ym h')
theorem aj {H:Hp}{a b:Addr}{o:HO}(h:H a=some o)(h':H b=none):a≠b:=by
 intro e;subst e;rw[h] at h';cases h'
def dI (h:Heap)(a:Addr)(items:Array xw):Prop:=∃o,h.get? a=some o/\(o.cls = .type "tuple" /\ o.dict=none)/\∃n,o.data = .seq items n
theorem dI.tup {h:Heap}{a:Addr}{items:Array xw}(x:dI h a items):IsTup h a items:=let ⟨o,e,c,n,d⟩:=x;⟨o,e,c.1,n,d⟩
theorem dI.new (h:Heap)(items:Array xw):dI (h.push { cls :=.type "tuple",data :=.seq items }) h.objs.size items:=⟨_,xF _ rfl,⟨rfl,rfl⟩,_,rfl⟩
section
variable  (P:xX)(w:yv)
def aT (H:Hp)(h:Heap)(a:Addr):HO->Prop
 | .lst xs=>xs.length<=xG/\∃(its:List xw) (n:Nat),Vals xs its/\h.get? a=some { cls :=.type "list",data :=.seq its.toArray n }
 | .tup xs=>xs.length<=xG/\∃its:List xw,Vals xs its/\dI h a its.toArray
 | .dK kvs=>kvs.length<=xG/\(a == sysModules)=false/\∃vs,KV kvs vs/\h.DictOf (bD P w) a vs
 | .dT kvs=>kvs.length<=xG/\(a == sysModules)=false/\∃xs:List (List Key×Addr×xw),
   Paired (λ(p:List Key×V) (q:List Key×Addr×xw)=>p.1=q.1/\H q.2.1=some (.tup (p.1.map kV))/\RelV p.2 q.2.2) kvs xs ∧
   ∃o es ep,h.get? a=some o/\o.ExactDict/\o.data = .dict es ep/\es.toList=xs.map (entryOfKey (tupleKind (bD P w)))/\(xs.map (·.1)).Nodup
 | .set S n=>h.SetOf (intKind P w) a S n
 | .ins C dx fs=>H dx=some (.own a)/\fs.length<=1000/\dx≠a/\h.get? a=some (PySem.W.instObj C dx) ∧
   ∃mA,h.Ns1 dx mA/\(∀f,iU (fs.lookup f) (mA f))/\PySem.Within mA (fs.map (·.1))
 | .own _=>∃o,h.get? a=some o
 | .xd fs=>∃mA,h.Ns1 a mA/\∀f,iU (fs.lookup f) (mA f)
 | .rng lo hi=>∃t u v,h.get? a=some { cls :=.type "range",data :=.fields #[.int lo t,.int hi u,.int 1 v] }
 | .frz o u=>h.get? a=some o/\aT H h a u
 | .tbl ps=>h.get? a=some { cls :=.none,data :=.fields ps }
 | .met f x=>h.get? a=some (PySem.W.methodObj (.ref f) (.ref x))
 | .ext φ=>φ h/\(∃o,h.get? a=some o)/\∀h1 h2:Heap, φ h1->(∀o,h1.get? a=some o->h2.get? a=some o) -> φ h2
def HOk (H:Hp)(h:Heap):Prop:=∀a o,H a=some o->aT P w H h a o
end
section
variable  {P:xX}{w:yv}{H H':Hp}{h h':Heap}{a:Addr}{o:HO}
theorem aT.lt (x:aT P w H h a o):a<h.objs.size:=by
 cases o with
 | lst xs=>obtain ⟨_,_,_,_,e⟩:=x;exact xE e
 | tup xs=>obtain ⟨_,_,_,p⟩:=x;exact (dI.tup p).lt
 | dK kvs=>obtain ⟨_,_,_,_,o,_,_,e,_⟩:=x;exact xE e
 | dT kvs=>obtain ⟨_,_,_,_,o,_,_,e,_⟩:=x;exact xE e
 | set S n=>obtain ⟨o,_,_,_,e,_⟩:=x;exact xE e
 | ins C dx fs=>obtain ⟨_,_,_,e,_⟩:=x;exact xE e
 | own y=>obtain ⟨_,e⟩:=x;exact xE e
 | xd fs=>obtain ⟨_,⟨_,_,_,e,_⟩,_⟩:=x;exact xE e
 | rng lo hi=>obtain ⟨_,_,_,e⟩:=x;exact xE e
 | frz ob u=>obtain ⟨e,_⟩:=x;exact xE e
 | tbl ps=>exact xE (show h.get? a=some _ from x)
 | met f y=>exact xE (show h.get? a=some _ from x)
 | ext φ=>obtain ⟨_,⟨_,e⟩,_⟩:=x;exact xE e
theorem Paired.u0 {α β:Type}{F G:α -> β -> Prop}:∀{l₁:List α} {l₂:List β},Paired F l₁ l₂->(∀a b,F a b->G a b)->Paired G l₁ l₂
 | _,_,.nil,_ =>.nil
 | _,_,.cons r t,f =>.cons (f _ _ r) (Paired.u0 t f)
theorem aT.stay (x:aT P w H h a o)(k:∀b u,(b=a\/H b=some (.own a))->h.get? b=some u->h'.get? b=some u)
  (ho:∀b,H b=some (.own a)->H' b=some (.own a)) (ht:∀b xs,H b=some (.tup xs)->H' b=some (.tup xs)):aT P w H' h' a o:=by
 induction o with
 | lst xs=>obtain ⟨z,its,n,r,e⟩:=x;exact ⟨z,its,n,r,k _ _ (.inl rfl) e⟩
 | tup xs=>obtain ⟨z,its,r,ob,e,c⟩:=x;exact ⟨z,its,r,ob,k _ _ (.inl rfl) e,c⟩
 | dK kvs=>obtain ⟨z,y,vs,r,ob,es,ep,e,c⟩:=x;exact ⟨z,y,vs,r,ob,es,ep,k _ _ (.inl rfl) e,c⟩
 | dT kvs =>
  obtain ⟨z,y,xs,r,ob,es,ep,e,c⟩:=x
  exact ⟨z,y,xs,Paired.u0 r λp q z=>⟨z.1,ht _ _ z.2.1,z.2.2⟩,ob,es,ep,k _ _ (.inl rfl) e,c⟩
 | set S n=>obtain ⟨ob,es,ep,t,e,c⟩:=x;exact ⟨ob,es,ep,t,k _ _ (.inl rfl) e,c⟩
 | ins C dx fs =>
  obtain ⟨d,z,ne,e,mA,⟨od,es,ep,e2,c⟩,r⟩:=x
  exact ⟨ho _ d,z,ne,k _ _ (.inl rfl) e,mA,⟨od,es,ep,k _ _ (.inr d) e2,c⟩,r⟩
 | own y=>obtain ⟨ob,e⟩:=x;exact ⟨ob,k _ _ (.inl rfl) e⟩
 | xd fs=>obtain ⟨mA,⟨od,es,ep,e,c⟩,r⟩:=x;exact ⟨mA,⟨od,es,ep,k _ _ (.inl rfl) e,c⟩,r⟩
 | rng lo hi=>obtain ⟨t,u,v,e⟩:=x;exact ⟨t,u,v,k _ _ (.inl rfl) e⟩
 | frz ob u ih=>obtain ⟨e,q⟩:=x;exact ⟨k _ _ (.inl rfl) e,ih q⟩
 | tbl ps =>
  have e:h.get? a=some { cls :=.none,data :=.fields ps }:=x
  show h'.get? a=some { cls :=.none,data :=.fields ps }
  exact k a _ (.inl rfl) e
 | met f y =>
  have e:h.get? a=some (PySem.W.methodObj (.ref f) (.ref y)):=x
  show h'.get? a=some (PySem.W.methodObj (.ref f) (.ref y))
  exact k a _ (.inl rfl) e
 | ext φ=>obtain ⟨p,⟨o,e⟩,st⟩:=x;exact ⟨st _ _ p λo q=>k _ _ (.inl rfl) q,⟨o,k _ _ (.inl rfl) e⟩,st⟩
theorem HOk.lt (x:HOk P w H h)(e:H a=some o):a<h.objs.size:=(x a o e).lt
theorem HOk.fresh (x:HOk P w H h)(e:h.objs.size<=a):H a=none:=by
 cases q:H a with
 | none=>rfl
 | some u=>exact absurd (xZ (x.lt q) e) (yV _)
theorem HOk.kept (x:HOk P w H h)(k:∀b u,h.get? b=some u->h'.get? b=some u):HOk P w H h':=λa o e =>
 (x a o e).stay (λb u _ q=>k b u q) (λ_ q=>q) λ_ _ q=>q
theorem HOk.laid (x:HOk P w H h)(k:∀b u,h.get? b=some u->h'.get? b=some u)(hp:h.objs.size<=a)(new:aT P w (upd H a o) h' a o):HOk P w (upd H a o) h':=λb u e=>by
 have hn:=x.fresh hp
 by_cases hb:b=a
 ·subst hb;rw[af] at e;cases e;exact new
 ·rw[ak hb] at e
  exact (x b u e).stay (λc v _ q=>k c v q) (λc q=>by rw[ak (aj q hn)];exact q) λc xs q=>by rw[ak (aj q hn)];exact q
end
def Rd (H:Hp)(a:Addr)(u:HO):Prop:=H a=some u\/∃o,H a=some (.frz o u)
theorem Rd.ok {P:xX}{w:yv}{H:Hp}{h:Heap}{a:Addr}{u:HO}(r:Rd H a u)(x:HOk P w H h):aT P w H h a u:=by
 rcases r with r | ⟨o,r⟩
 ·exact x a u r
 ·obtain ⟨_,q⟩:=x a _ r
  exact q
def Mut:Option HO->Prop
 | some (.lst _)=>True
 | some (.dK _)=>True
 | some (.dT _)=>True
 | some (.set _ _)=>True
 | some (.ins _ _ _)=>True
 | some (.ext _)=>True
 | _=>False
section
variable  {P:xX}{w:yv}{H:Hp}{h h':Heap}{x e:Addr}{o':HO}
theorem HOk.write (ok:HOk P w H h)(mu:Mut (H x))(he:e=x\/H e=some (.own x))(k:∀b u,b≠e->h.get? b=some u->h'.get? b=some u)(heo:∃u,h'.get? e=some u)
  (new:aT P w (upd H x o') h' x o'):HOk P w (upd H x o') h':=λb u q=>by
 have nown:∀c y,H c=some (.own y)->c≠x:=λc y r z=>by subst z;rw[r] at mu;exact mu
 have ntup:∀c xs,H c=some (.tup xs)->c≠x:=λc xs r z=>by subst z;rw[r] at mu;exact mu
 by_cases hb:b=x
 ·subst hb;rw[af] at q;cases q;exact new
 ·rw[ak hb] at q
  by_cases hbe:b=e
  ·have q':H b=some (.own x):=by
    rcases he with z | z
    ·exact absurd (hbe.trans z) hb
    ·rw[hbe];exact z
   rw[q] at q';cases q'
   obtain ⟨v,hv⟩:=heo
   exact ⟨v,by rw[hbe];exact hv⟩
  ·refine (ok b u q).stay (λc v hc r=>k c v ?_ r) (λc r=>by rw[ak (nown c b r)];exact r) λc xs r=>by rw[ak (ntup c xs r)];exact r
   rcases hc with rfl | hc
   ·exact hbe
   ·rintro rfl
    rcases he with z | z
    ·exact nown c b hc z
    ·rw[hc] at z;cases z;exact hb rfl
end
structure Un (fs ex:List Addr)(H H':Hp)(h h':Heap):Prop where
 keep:∀b o,h.get? b=some o->H b=none->b∉fs->b∉ex->h'.get? b=some o
 slot:∀b o,h.get? b=some o->H b=none->b∈fs->b∉ex->∃sl,h'.get? b=some { o with slots:=sl }
 free:∀b o,h.get? b=some o->H b=none->b∉ex->H' b=none
 there:∀b o,h.get? b=some o->b∉ex->∃o',h'.get? b=some o'
 tups:∀b xs,H b=some (.tup xs)->H' b=some (.tup xs)
 frzs:∀b o u,H b=some (.frz o u)->H' b=some (.frz o u)
 tbls:∀b ps,H b=some (.tbl ps)->∃more,H' b=some (.tbl (ps++more))
section
variable  {fs fs' ex ex':List Addr}{H H1 H2:Hp}{h h1 h2 h':Heap}{a x e:Addr}{o:HO}
theorem Un.any (u:Un fs ex H H1 h h1){b:Addr}{ob:Obj}(q:h.get? b=some ob)(n:H b=none)(hx:b∉ex):∃sl,h1.get? b=some { ob with slots:=sl }:=by
 by_cases hb:b∈fs
 ·exact u.slot b ob q n hb hx
 ·exact ⟨ob.slots,u.keep b ob q n hb hx⟩
theorem Un.kept (k:∀b u,h.get? b=some u->h'.get? b=some u):Un fs ex H H h h' :=
 ⟨λb ob q _ _ _=>k b ob q,λb ob q _ _ _=>⟨ob.slots,k b ob q⟩,λ_ _ _ n _=>n,λb ob q _=>⟨ob,k b ob q⟩,λ_ _ q=>q,λ_ _ _ q=>q,λ_ ps q=>⟨#[],by rw[q];simp⟩⟩
theorem Un.refl:Un fs ex H H h h:=Un.kept λ_ _ q=>q
theorem Un.laid (k:∀b u,h.get? b=some u->h'.get? b=some u)(hp:h.objs.size<=a)(hn:H a=none):Un fs ex H (upd H a o) h h' where
 keep:=λb u q _ _ _=>k b u q
 slot:=λb u q _ _ _=>⟨u.slots,k b u q⟩
 free:=λb u q n _=>by rw[ak (x5 (xZ (xE q) hp))];exact n
 there:=λb u q _=>⟨u,k b u q⟩
 tups:=λb xs q=>by rw[ak (aj q hn)];exact q
 frzs:=λb u xs q=>by rw[ak (aj q hn)];exact q
 tbls:=λb ps q=>⟨#[],by rw[ak (aj q hn),q];simp⟩
theorem Un.write (mu:Mut (H x))(he:e=x\/H e=some (.own x))(k:∀b u,b≠e->h.get? b=some u->h'.get? b=some u)(heo:∃u,h'.get? e=some u):Un fs ex H (upd H x o) h h':=by
 have hx:∀b,H b=none->b≠x:=λb n z=>by subst z;rw[n] at mu;exact mu
 have hb:∀b,H b=none->b≠e:=λb n z=>by
  subst z
  rcases he with r | r
  ·exact hx b n r
  ·rw[n] at r;cases r
 have hm:∀b u,H b=some u->¬ Mut (some u)->b≠x:=λb u q nm z=>by subst z;rw[q] at mu;exact nm mu
 refine ⟨λb u q n _ _=>k b u (hb b n) q,λb u q n _ _=>⟨u.slots,k b u (hb b n) q⟩,λb u q n _=>by rw[ak (hx b n)];exact n,λb u q _ =>?_,
  λb xs q=>by rw[ak (hm b _ q λz=>z)];exact q,λb u xs q=>by rw[ak (hm b _ q λz=>z)];exact q,λb ps q=>⟨#[],by rw[ak (hm b _ q λz=>z),q];simp⟩⟩
 by_cases hbe:b=e
 ·subst hbe;exact heo
 ·exact ⟨u,k b u hbe q⟩
end
def trk (h:Heap)(H:Hp):List Addr:=(yP h.objs.size).filter λa=>(H a).isSome
def kY (h:Heap)(H:Hp):Heap:=PySem.W.hideAll h (trk h H)
theorem oX (h:Heap)(H:Hp):(kY h H).objs.size=h.objs.size:=PySem.W.hideAll_size _ _
theorem qj {h:Heap}{H:Hp}{b:Addr}{o:Obj}(e:h.get? b=some o)(n:H b=none):(kY h H).get? b=some o :=
 PySem.W.hideAll_get _ e λhm=>by
  have q:(H b).isSome=true:=(yQ.mp hm).2
  rw[n] at q;simp at q
theorem sN {h:Heap}{H:Hp}{b:Addr}{o:Obj}(e:(kY h H).get? b=some o):h.get? b=some o/\H b=none:=by
 have e':h.get? b=some o:=PySem.W.of_hideAll (trk h H) e
 refine ⟨e',?_⟩
 cases q:H b with
 | none=>rfl
 | some x =>
  have hm:b∈trk h H:=yQ.mpr ⟨AL.mpr (xE e'),by simp[q]⟩
  have z:(kY h H).get? b=none:=PySem.W.hideAll_none (trk h H) hm
  rw[z] at e;cases e
def sO (g h:Heap)(L:Addr):List (Addr×Obj):=(yP h.objs.size).filterMap λa=>if a=L\/(g.get? a).isSome=true then none else (h.get? a).map λo=>(a,o)
def rest (g h:Heap)(L d:Addr):List (Addr×Obj):=(sO g h L).filter λp=>decide (p.1≠d)
open PySem PySem.Spec PyProof.Rows
structure Mod (K:xx)(mg:Str->Option xw)(base:Heap):Prop where
 kin:K.In base
 glob:base.Ns yh mg
 blt:∃mb,base.Ns builtinsNs mb/\∀x:Str,x ≠ "__name__" -> mb x=yN x
 nolimit:base.NoLimit
structure Cx where
 prog:xX
 w:yv
 K:xx
 mg:Str->Option xw
 base:Heap
 A:yy
 N:List Str
 s₀:xy
 H₀:Hp
 env:Env
 outer:List Env
 stack:List Env
 ex:List Addr
 fn:Str->Bool
 calm:Bool
 pn:List (Addr×Obj)
 xe:xw->xy->Prop
def frs (l:List Env):List Addr:=l.filterMap (·.frame)
abbrev Cx.fs (X:Cx):List Addr:=frs X.outer
def Vis (sc:Scope)(x:Str):Prop:=sc.names.lookup x=some .local\/sc.names.lookup x=some .cell\/sc.names.lookup x=some .free
def Loc (sc:Scope)(x:Str):Prop:=sc.names.lookup x=some .local\/sc.names.lookup x=some .cell
def Look (env:Env)(h:Heap)(m:Str->Option xw)(x:Str)(u:xw):Prop :=
 (env.kindOf x=some .local/\m x=some u)\/((env.kindOf x=some .cell\/env.kindOf x=some .free)/\∃c,env.cells.lookup x=some c/\h.IsCell c (some u))
structure Cx.Ok (X:Cx):Prop where
 mod:Mod X.K X.mg X.base
 kind:X.env.scope.kind = .function
 glob:X.env.globals=yh
 blt:X.env.builtins=builtinsNs
 above:X.s₀.heap.objs.size<=X.env.locals
 inj:∀x y c,X.env.cells.lookup x=some c->X.env.cells.lookup y=some c->x=y
 has:∀x,(X.env.kindOf x=some .cell\/X.env.kindOf x=some .free)->∃c,X.env.cells.lookup x=some c
 cab:∀x c,X.fn x=true->X.env.cells.lookup x=some c->X.s₀.heap.objs.size<=c
 hd:X.calm=true->X.A.handled=none
 frames:X.A.frames=some X.stack
 stk:X.stack=X.outer\/(X.stack=X.env :: X.outer/\X.env.frame=some X.env.locals)
 exf:∀b∈X.ex,b≠X.env.locals/\∀x c,X.env.cells.lookup x=some c->c≠b
 bs:∀b o,X.base.get? b=some o->X.s₀.heap.get? b=some o/\X.H₀ b=none
 bsz:X.base.objs.size<=X.s₀.heap.objs.size
 noex:∀b o,X.base.get? b=some o->b∉X.ex
 exfs:∀b∈X.ex,b∉X.fs
 funs:X.s₀.heap.FunFrames X.base X.outer
 frf:∀b∈X.fs,X.H₀ b=none
structure Inv (X:Cx)(pins:List (Addr×Obj))(σ:List (Option V))(H:Hp)(s:xy):Prop where
 ok:X.Ok
 os:s.os=X.s₀.os
 bare:AllBare s.gens
 base:Un X.fs X.ex X.H₀ H X.s₀.heap s.heap
 loc:∃m,s.heap.Ns X.env.locals m/\∀(i:Nat) (x:Str) (v:V),X.N[i]? = some x->σ[i]? = some (some v)->Vis X.env.scope x->∃u,RelV v u/\Look X.env s.heap m x u
 cell:∀x c,X.env.cells.lookup x=some c->∃v,s.heap.IsCell c v
 free:H X.env.locals=none
 freeC:∀x c,X.env.cells.lookup x=some c->H c=none
 pin:∀p∈X.pn++pins,s.heap.get? p.1=some p.2/\H p.1=none/\p.1≠X.env.locals/\p.1∉X.fs/\∀v,p.2.data ≠ .cell v
 hok:HOk X.prog X.w H s.heap
 len:σ.length=X.N.length
section
variable  {X:Cx}{pins:List (Addr×Obj)}{σ:List (Option V)}{H H':Hp}{s:xy}{h':Heap}
theorem Cx.Ok.nofr (ok:X.Ok){b:Addr}{o:Obj}(e:X.base.get? b=some o):b∉X.fs:=λhb=>by
 have:=(ok.funs.mem hb).1
 rw[e] at this;cases this
theorem Inv.bs (I:Inv X pins σ H s):∀b o,X.base.get? b=some o->s.heap.get? b=some o/\H b=none:=λb o e =>
 ⟨I.base.keep b o (I.ok.bs b o e).1 (I.ok.bs b o e).2 (I.ok.nofr e) (I.ok.noex b o e),I.base.free b o (I.ok.bs b o e).1 (I.ok.bs b o e).2 (I.ok.noex b o e)⟩
theorem Inv.bk (I:Inv X pins σ H s):∀b o,X.base.get? b=some o->s.heap.get? b=some o:=λb o e=>(I.bs b o e).1
theorem Inv.mod (I:Inv X pins σ H s):Mod X.K X.mg X.base:=I.ok.mod
theorem Inv.kIn (I:Inv X pins σ H s):X.K.In s.heap:=I.ok.mod.kin.keeps I.bk
theorem Inv.lt (I:Inv X pins σ H s):X.env.locals<s.heap.objs.size:=let ⟨_,hn,_⟩:=I.loc;hn.lt
theorem Inv.sz (I:Inv X pins σ H s):X.s₀.heap.objs.size<=s.heap.objs.size:=yf I.ok.above (Ao I.lt)
theorem Inv.u5 (I:Inv X pins σ H s){a:Addr}(h:s.heap.objs.size<=a):a∉X.fs:=λhb=>by
 obtain ⟨_,o,ho,_⟩:=I.ok.funs.mem hb
 exact absurd (xZ (xE ho) (yf I.sz h)) (yV _)
theorem Inv.cne (I:Inv X pins σ H s):∀x c,X.env.cells.lookup x=some c->c≠X.env.locals:=λx c e z=>by
 obtain ⟨v,o,ho,hd⟩:=I.cell x c e
 obtain ⟨m,⟨o',es,ep,ho',hd',_⟩,_⟩:=I.loc
 rw[z,ho'] at ho;cases ho;rw[hd'] at hd;cases hd
theorem Inv.funs (I:Inv X pins σ H s):s.heap.FunFrames X.base X.outer:=by
 have all:∀(l:List Env),(∀b∈frs l,b∈X.fs)->X.s₀.heap.FunFrames X.base l->s.heap.FunFrames X.base l:=by
  intro l
  induction l with
  | nil=>intro _ _;trivial
  | cons env r ih =>
   intro hs hl
   obtain ⟨hk,⟨L,o,hf,hn,ho,hd⟩,hr⟩:=hl
   have hL:L∈X.fs:=hs L (by unfold frs;rw[zL,hf];exact xT)
   obtain ⟨sl,e⟩:=I.base.slot L o ho (I.ok.frf L hL) hL λz=>I.ok.exfs L z hL
   exact ⟨hk,⟨L,_,hf,hn,e,hd⟩,ih (λb hb=>hs b (by unfold frs;rw[zL,hf];exact xO _ hb)) hr⟩
 exact all X.outer (λ_ hb=>hb) I.ok.funs
theorem Inv.stack (I:Inv X pins σ H s):s.heap.FunFrames X.base X.stack:=by
 rcases I.ok.stk with e | ⟨e,hf⟩
 ·rw[e];exact I.funs
 ·rw[e]
  obtain ⟨m,hn,_⟩:=I.loc
  refine .cons (by rw[I.ok.kind];decide) hf hn ?_ I.funs
  exact Heap.get?_none_of_le (yf I.ok.bsz I.ok.above)
theorem Inv.kZ (I:Inv X pins σ H s):∀b∈frs X.stack,b∈X.env.locals :: X.fs:=λb hb=>by
 rcases I.ok.stk with e | ⟨e,hf⟩
 ·rw[e] at hb;exact xO _ hb
 ·rw[e] at hb
  unfold frs at hb
  rw[zL,hf] at hb
  exact hb
theorem Inv.k7 (I:Inv X pins σ H s):∀b∈frs X.stack,H b=none:=λb hb=>by
 rcases yj.mp (I.kZ b hb) with e | hb
 ·rw[e];exact I.free
 ·obtain ⟨_,o,ho,_⟩:=I.ok.funs.mem hb
  exact I.base.free b o ho (I.ok.frf b hb) λz=>I.ok.exfs b z hb
theorem Inv.step {g':Array GenState}{t':Nat}{d':Drawn}{ch:List Addr}(I:Inv X pins σ H s)
  (hch:∀b∈ch,(b∈X.ex\/X.s₀.heap.objs.size<=b)/\b≠X.env.locals/\(∀x c,X.env.cells.lookup x=some c->c≠b)/\∀p∈X.pn++pins,p.1≠b)
  (keep:∀b o,b≠X.env.locals->b∉X.fs->b∉ch->s.heap.get? b=some o->H b=none->h'.get? b=some o)
  (slot:∀b o,b≠X.env.locals->b∈X.fs->b∉ch->s.heap.get? b=some o->H b=none->∃sl,h'.get? b=some { o with slots:=sl }) (free:∀b o,b∉ch->s.heap.get? b=some o->H b=none->H' b=none)
  (there:∀b o,b∉ch->s.heap.get? b=some o->∃o',h'.get? b=some o')
  (tups:∀b xs,H b=some (.tup xs)->H' b=some (.tup xs)) (frzs:∀b o u,H b=some (.frz o u)->H' b=some (.frz o u)) (tbls:∀b ps,H b=some (.tbl ps)->∃more,H' b=some (.tbl (ps++more)))
  (ns:∀m,s.heap.Ns X.env.locals m->h'.Ns X.env.locals m) (hok:HOk X.prog X.w H' h') (hg:AllBare g') :
  Inv X pins σ H' { s with heap:=h',gens:=g',drawn:=d',toks:=t' }:=by
 have neL:∀b o,X.s₀.heap.get? b=some o->b≠X.env.locals:=λb o e=>x5 (xZ (xE e) I.ok.above)
 have neC:∀b o,X.s₀.heap.get? b=some o->b∉X.ex->b∉ch:=λb o e hx hb=>by
  rcases (hch b hb).1 with z | z
  ·exact hx z
  ·exact absurd (xZ (xE e) z) (yV _)
 have cellK:∀x c,X.env.cells.lookup x=some c->∀v,s.heap.IsCell c v->h'.IsCell c v:=λx c e v ⟨o,ho,hd⟩=>by
  have nch:c∉ch:=λz=>(hch c z).2.2.1 x c e rfl
  by_cases hc:c∈X.fs
  ·obtain ⟨sl,q⟩:=slot c o (I.cne x c e) hc nch ho (I.freeC x c e)
   exact ⟨_,q,hd⟩
  ·exact ⟨o,keep c o (I.cne x c e) hc nch ho (I.freeC x c e),hd⟩
 refine ⟨I.ok,I.os,hg,⟨λb o e n hb hx =>?_,λb o e n hb hx =>?_,λb o e n hx =>?_,λb o e hx =>?_,λb xs e=>tups b xs (I.base.tups b xs e),λb o xs e=>frzs b o xs (I.base.frzs b o xs e),λb ps e =>?_⟩,?_,λx c e =>?_,?_,λx c e =>?_,λp hp =>?_,hok,I.len⟩
 ·exact keep b o (neL b o e) hb (neC b o e hx) (I.base.keep b o e n hb hx) (I.base.free b o e n hx)
 ·obtain ⟨sl,e1⟩:=I.base.slot b o e n hb hx
  obtain ⟨sl',e2⟩:=slot b _ (neL b o e) hb (neC b o e hx) e1 (I.base.free b o e n hx)
  exact ⟨sl',e2⟩
 ·obtain ⟨o',e1⟩:=I.base.there b o e hx
  exact free b o' (neC b o e hx) e1 (I.base.free b o e n hx)
 ·obtain ⟨o',e1⟩:=I.base.there b o e hx
  exact there b o' (neC b o e hx) e1
 ·obtain ⟨m1,e1⟩:=I.base.tbls b ps e
  obtain ⟨m2,e2⟩:=tbls b _ e1
  exact ⟨m1++m2,by rw[e2,Dt]⟩
 ·obtain ⟨m,hn,hl⟩:=I.loc
  refine ⟨m,ns m hn,λi x v e1 e2 e3 =>?_⟩
  obtain ⟨u,r,l⟩:=hl i x v e1 e2 e3
  refine ⟨u,r,?_⟩
  rcases l with l | ⟨k,c,e,z⟩
  ·exact .inl l
  ·exact .inr ⟨k,c,e,cellK x c e _ z⟩
 ·obtain ⟨v,z⟩:=I.cell x c e
  exact ⟨v,cellK x c e v z⟩
 ·obtain ⟨m,⟨o,_,_,ho,_⟩,_⟩:=I.loc
  exact free _ o (λz=>(hch _ z).2.1 rfl) ho I.free
 ·obtain ⟨v,o,ho,hd⟩:=I.cell x c e
  exact free c o (λz=>(hch c z).2.2.1 x c e rfl) ho (I.freeC x c e)
 ·obtain ⟨e,n,ne,nf,d⟩:=I.pin p hp
  have nch:p.1∉ch:=λz=>(hch p.1 z).2.2.2 p hp rfl
  exact ⟨keep p.1 p.2 ne nf nch e n,free p.1 p.2 nch e n,ne,nf,d⟩
theorem Inv.un {t':Nat}(I:Inv X pins σ H s)(u:Un X.fs [] H H' s.heap h')(hok:HOk X.prog X.w H' h'):Inv X pins σ H' { s with heap:=h',toks:=t' }:=by
 obtain ⟨m,⟨o,es,ep,ho,r⟩,_⟩:=id I.loc
 obtain ⟨sl,hL⟩:=u.any ho I.free (by simp)
 exact I.step (g':=s.gens) (d':=s.drawn) (ch:=[]) (λ_ z=>nomatch z) (λb o _ hb _ e n=>u.keep b o e n hb (by simp)) (λb o _ hb _ e n=>u.slot b o e n hb (by simp)) (λb o _ e n=>u.free b o e n (by simp)) (λb o _ e=>u.there b o e (by simp)) u.tups u.frzs u.tbls (λm' hm=>by
  obtain ⟨o',es',ep',ho',r'⟩:=hm
  rw[ho] at ho';cases ho'
  exact ⟨_,es',ep',hL,r'⟩) hok I.bare
theorem Inv.call {g':Array GenState}{t':Nat}{d':Drawn}{ch:List Addr}(I:Inv X pins σ H s)(u:Un (frs X.stack) ch H H' s.heap h')(hok:HOk X.prog X.w H' h')(hg:AllBare g')
  (hch:∀b∈ch,(b∈X.ex\/X.s₀.heap.objs.size<=b)/\b≠X.env.locals/\(∀x c,X.env.cells.lookup x=some c->c≠b)/\∀p∈X.pn++pins,p.1≠b) :
  Inv X pins σ H' { s with heap:=h',gens:=g',drawn:=d',toks:=t' }:=by
 obtain ⟨m,⟨o,es,ep,ho,r⟩,_⟩:=id I.loc
 obtain ⟨sl,hL⟩:=u.any ho I.free λz=>(hch _ z).2.1 rfl
 exact I.step (ch:=ch) hch (λb o hL hb hc e n=>u.keep b o e n (λz=>(yj.mp (I.kZ b z)).elim hL hb) hc) (λb o _ _ hc e n=>u.any e n hc) (λb o hc e n=>u.free b o e n hc) (λb o hc e=>u.there b o e hc) u.tups u.frzs u.tbls (λm' hm=>by
  obtain ⟨o',es',ep',ho',r'⟩:=hm
  rw[ho] at ho';cases ho'
  exact ⟨_,es',ep',hL,r'⟩) hok hg
theorem Inv.turned {t':Nat}{it:Addr}(I:Inv X pins σ H s)(k:∀b o,b≠it->s.heap.get? b=some o->h'.get? b=some o)(hn:H it=none)(hL:it≠X.env.locals)
  (h1:it∈X.ex\/X.s₀.heap.objs.size<=it) (h2:∀x c,X.env.cells.lookup x=some c->c≠it) (h3:∀p∈X.pn++pins,p.1≠it):Inv X pins σ H { s with heap:=h',toks:=t' }:=by
 have nit:∀b u,H b=some u->b≠it:=λb u e z=>by rw[z,hn] at e;cases e
 refine I.step (g':=s.gens) (d':=s.drawn) (ch:=[it]) (λb hb =>?_) (λb o _ _ hc e _=>k b o (λz=>hc (by simp[z])) e) (λb o _ _ hc e _=>⟨o.slots,k b o (λz=>hc (by simp[z])) e⟩) (λ_ _ _ _ n=>n)
  (λb o hc e=>⟨o,k b o (λz=>hc (by simp[z])) e⟩) (λ_ _ e=>e) (λ_ _ _ e=>e) (λb ps e=>⟨#[],by rw[e];simp⟩) (λm hm =>?_) (λb u e =>?_) I.bare
 ·have e:b=it:=by simpa using hb
  subst e
  exact ⟨h1,hL,h2,h3⟩
 ·obtain ⟨o,es,ep,ho,r⟩:=hm
  exact ⟨o,es,ep,k _ o (zj hL) ho,r⟩
 ·refine (I.hok b u e).stay (λc v hc q=>k c v ?_ q) (λ_ q=>q) λ_ _ q=>q
  rcases hc with z | z
  ·rw[z];exact nit b u e
  ·exact nit c _ z
theorem Inv.tok (I:Inv X pins σ H s)(t:Nat):Inv X pins σ H { s with toks:=t }:=I.un (h':=s.heap) (t':=t) Un.refl I.hok
theorem Inv.kept {t':Nat}(I:Inv X pins σ H s)(k:∀b u,s.heap.get? b=some u->h'.get? b=some u):Inv X pins σ H { s with heap:=h',toks:=t' }:=I.un (Un.kept k) (I.hok.kept k)
theorem Inv.laid {a:Addr}{o:HO}{t':Nat}(I:Inv X pins σ H s)(k:∀b u,s.heap.get? b=some u->h'.get? b=some u)(hp:s.heap.objs.size<=a)(new:aT X.prog X.w (upd H a o) h' a o) :
  Inv X pins σ (upd H a o) { s with heap:=h',toks:=t' }:=I.un (Un.laid k hp (I.hok.fresh hp)) (I.hok.laid k hp new)
theorem Inv.write {x e:Addr}{o:HO}{t':Nat}(I:Inv X pins σ H s)(mu:Mut (H x))(he:e=x\/H e=some (.own x))(k:∀b u,b≠e->s.heap.get? b=some u->h'.get? b=some u)(heo:∃u,h'.get? e=some u)
  (new:aT X.prog X.w (upd H x o) h' x o):Inv X pins σ (upd H x o) { s with heap:=h',toks:=t' }:=I.un (Un.write mu he k heo) (I.hok.write mu he k heo new)
theorem Inv.gf {pins':List (Addr×Obj)}(I:Inv X pins σ H s)(h:∀p∈pins',s.heap.get? p.1=some p.2/\H p.1=none/\p.1≠X.env.locals/\p.1∉X.fs/\∀v,p.2.data ≠ .cell v):Inv X pins' σ H s :=
 ⟨I.ok,I.os,I.bare,I.base,I.loc,I.cell,I.free,I.freeC,λp hp=>(xS.mp hp).elim (λz=>I.pin p (zI _ z)) (h p),I.hok,I.len⟩
theorem iV {N:List Str}(hN:N.Nodup){i j:Nat}{x:Str}(a:N[i]? = some x)(b:N[j]? = some x):i=j:=by
 obtain ⟨h1,e1⟩:=xB.mp a
 obtain ⟨h2,e2⟩:=xB.mp b
 exact (DX hN).mp (e1.trans e2.symm)
theorem oY {M:Model}{A:yy}{E:xw->xy->Prop}{i:Nat}{x:Str}{v:V}{u:xw}{Q:Unit->xy->Prop}(I:Inv X pins σ H s)(hN:X.N.Nodup)(hi:X.N[i]? = some x)(hx:Loc X.env.scope x)(r:RelV v u)
  (h:∀s',Inv X pins (σ.set i (some v)) H s'->(∃a,Heap.SameBut a s.heap s'.heap/\(a=X.env.locals\/X.env.cells.lookup x=some a))->Q () s') (hf:X.fn x=true\/X.env.scope.names.lookup x=some .local:=by first | exact .inl rfl | exact .inr rfl | assumption):x8 M A (storeName X.env x u) Q E s:=by
 obtain ⟨m,hn,hl⟩:=id I.loc
 have hcls:(X.env.scope.kind == .class || (X.env.scope.kind == .module && X.env.locals != X.env.globals))=false:=by rw[I.ok.kind];rfl
 have hiσ:i<σ.length:=by rw[I.len];exact (xB.mp hi).1
 have cne:=I.cne
 have tracked:∀{a:Addr} {h':Heap},(∃o,s.heap.get? a=some o/\H a=none)->Heap.SameBut a s.heap h'->HOk X.prog X.w H h':=λ{a h'} ha hs b ob e=>by
  obtain ⟨_,_,hfree⟩:=ha
  refine (I.hok b ob e).stay (λc w' hc q=>(hs.2 c ?_).trans q) (λ_ q=>q) λ_ _ q=>q
  rintro rfl
  rcases hc with rfl | hc
  ·rw[hfree] at e;cases e
  ·rw[hfree] at hc;cases hc
 rcases hx with hk | hk
 ·refine wpAny_storeName_local hk hn (λh' hn' hs =>?_) hcls
  obtain ⟨oL,_,_,hoL,_⟩:=id hn
  refine h _ ⟨I.ok,I.os,I.bare,⟨λb o e n hb hx =>?_,λb o e n hb hx =>?_,I.base.free,λb o e hx =>?_,I.base.tups,I.base.frzs,I.base.tbls⟩,⟨_,hn',λj y v' e1 e2 e3 =>?_⟩,λy c e =>?_,I.free,I.freeC,λp hp =>?_,tracked ⟨oL,hoL,I.free⟩ hs,by simpa using I.len⟩ ⟨_,hs,.inl rfl⟩
  ·exact (hs.2 b (x5 (xZ (xE e) I.ok.above))).trans (I.base.keep b o e n hb hx)
  ·obtain ⟨sl,e1⟩:=I.base.slot b o e n hb hx
   exact ⟨sl,(hs.2 b (x5 (xZ (xE e) I.ok.above))).trans e1⟩
  ·obtain ⟨o',e1⟩:=I.base.there b o e hx
   exact ⟨o',(hs.2 b (x5 (xZ (xE e) I.ok.above))).trans e1⟩
  ·by_cases hj:j=i
   ·subst hj
    rw[hi] at e1;cases e1
    rw[zq hiσ] at e2
    cases e2
    exact ⟨u,r,.inl ⟨hk,by simp⟩⟩
   ·rw[zY (zj hj)] at e2
    obtain ⟨u',r',q⟩:=hl j y v' e1 e2 e3
    refine ⟨u',r',?_⟩
    rcases q with ⟨k,e⟩ | ⟨k,c,e,z⟩
    ·refine .inl ⟨k,?_⟩
     have:y≠x:=λe=>hj (iV hN e1 (e ▸ hi))
     simp[this,e]
    ·exact .inr ⟨k,c,e,z.sameBut hs (cne y c e)⟩
  ·obtain ⟨w',z⟩:=I.cell y c e
   exact ⟨w',z.sameBut hs (cne y c e)⟩
  ·obtain ⟨e,n,ne,nf,d⟩:=I.pin p hp
   exact ⟨(hs.2 p.1 ne).trans e,n,ne,nf,d⟩
 ·have hfn:X.fn x=true:=by
   rcases hf with z | z
   ·exact z
   ·rw[z] at hk;cases hk
  obtain ⟨c,hc⟩:=I.ok.has x (.inl hk)
  obtain ⟨w',z⟩:=I.cell x c hc
  refine wpAny_storeName_cell I.ok.kind hk hc z (λh' hc' hs =>?_)
  obtain ⟨oc,hoc,hocd⟩:=id z
  refine h { s with heap:=h' } ⟨I.ok,I.os,I.bare,⟨λb o e n hb hx =>?_,λb o e n hb hx =>?_,I.base.free,λb o e hx =>?_,I.base.tups,I.base.frzs,I.base.tbls⟩,⟨m,hn.sameBut hs (zj (cne x c hc)),λj y v' e1 e2 e3 =>?_⟩,λy c' e =>?_,I.free,I.freeC,λp hp =>?_,tracked ⟨oc,hoc,I.freeC x c hc⟩ hs,by simpa using I.len⟩ ⟨c,hs,.inr hc⟩
  ·exact (hs.2 b (x5 (xZ (xE e) (I.ok.cab x c hfn hc)))).trans (I.base.keep b o e n hb hx)
  ·obtain ⟨sl,e1⟩:=I.base.slot b o e n hb hx
   exact ⟨sl,(hs.2 b (x5 (xZ (xE e) (I.ok.cab x c hfn hc)))).trans e1⟩
  ·obtain ⟨o',e1⟩:=I.base.there b o e hx
   exact ⟨o',(hs.2 b (x5 (xZ (xE e) (I.ok.cab x c hfn hc)))).trans e1⟩
  ·by_cases hj:j=i
   ·subst hj
    rw[hi] at e1;cases e1
    rw[zq hiσ] at e2
    cases e2
    exact ⟨u,r,.inr ⟨.inl hk,c,hc,hc'⟩⟩
   ·rw[zY (zj hj)] at e2
    obtain ⟨u',r',q⟩:=hl j y v' e1 e2 e3
    refine ⟨u',r',?_⟩
    rcases q with q | ⟨k,c',e,z'⟩
    ·exact .inl q
    ·refine .inr ⟨k,c',e,z'.sameBut hs ?_⟩
     rintro rfl
     exact hj (iV hN e1 (I.ok.inj _ _ _ e hc ▸ hi))
  ·by_cases hcc:c'=c
   ·subst hcc;exact ⟨_,hc'⟩
   ·obtain ⟨w2,z2⟩:=I.cell y c' e
    exact ⟨w2,z2.sameBut hs hcc⟩
  ·obtain ⟨e,n,ne,nf,d⟩:=I.pin p hp
   refine ⟨(hs.2 p.1 ?_).trans e,n,ne,nf,d⟩
   intro q
   rw[q,hoc] at e
   have q':oc=p.2:=ym e
   exact d w' (by rw[<- q'];exact hocd)
theorem iW {M:Model}{A:yy}{E:xw->xy->Prop}{i:Nat}{x:Str}{v:V}{u:xw}{Q:Unit->xy->Prop}(I:Inv X pins σ H s)(hN:X.N.Nodup)(hi:X.N[i]? = some x)(hx:Loc X.env.scope x)(r:RelV v u)
  (h:∀s',Inv X pins (σ.set i (some v)) H s'->Q () s') (hf:X.fn x=true\/X.env.scope.names.lookup x=some .local:=by first | exact .inl rfl | exact .inr rfl | assumption):x8 M A (storeName X.env x u) Q E s :=
 oY I hN hi hx r (λs' I' _=>h s' I') hf
theorem Inv.uw {s':xy}{ch:List Addr}(I:Inv X pins σ H s)(ho:s'.os=s.os)(u:Un (frs X.stack) ch H H' s.heap s'.heap)(hok:HOk X.prog X.w H' s'.heap)(hg:AllBare s'.gens)
  (hch:∀b∈ch,(b∈X.ex\/X.s₀.heap.objs.size<=b)/\b≠X.env.locals/\(∀x c,X.env.cells.lookup x=some c->c≠b)/\∀p∈X.pn++pins,p.1≠b):Inv X pins σ H' s':=by
 obtain ⟨h',g',d',t',o'⟩:=s'
 have e:o'=s.os:=ho
 subst e
 exact I.call (g':=g') (t':=t') (d':=d') u hok hg hch
end
abbrev XK:=xw->Option Addr->Hp->Prop
abbrev St:=List (Option V)
abbrev VK:=V->Hp->Prop
abbrev TE:=St->Hp->VK->Prop
abbrev TT:=St->Hp->(Bool->Hp->Prop)->Prop
abbrev TA:=St->Hp->(List V->Hp->Prop)->Prop
structure Ends where
 nx:St->Hp->Prop
 rt:VK
 bk:St->Hp->Prop:=λ_ _=>False
 ct:St->Hp->Prop:=λ_ _=>False
abbrev TS:=Ends->St->Hp->Prop
def EP (X:Cx)(pins:List (Addr×Obj))(σ:St)(Q:VK)(u:xw)(s':xy):Prop:=∃v H',Inv X pins σ H' s'/\RelV v u/\Q v H'
def TP (X:Cx)(pins:List (Addr×Obj))(σ:St)(Q:Bool->Hp->Prop)(b:Bool)(s':xy):Prop:=∃H',Inv X pins σ H' s'/\Q b H'
def AP (X:Cx)(pins:List (Addr×Obj))(σ:St)(Q:List V->Hp->Prop)(us:List xw)(s':xy):Prop:=∃vs H',Inv X pins σ H' s'/\Vals vs us/\Q vs H'
def SP (X:Cx)(pins:List (Addr×Obj))(D:Ends)(f:Flow)(s':xy):Prop :=
 match f with
 | .next=>∃σ' H',Inv X pins σ' H' s'/\D.nx σ' H'
 | .brk=>∃σ' H',Inv X pins σ' H' s'/\D.bk σ' H'
 | .cont=>∃σ' H',Inv X pins σ' H' s'/\D.ct σ' H'
 | .ret u=>∃v σ' H',Inv X pins σ' H' s'/\RelV v u/\D.rt v H'
def PE (X:Cx)(e:Expr)(t:TE):Prop :=
 ∀(pins:List (Addr×Obj)) (s:xy) (σ:St) (H:Hp) (Q:VK),Inv X pins σ H s->t σ H Q->x8 (x9 X.prog X.w) X.A (eval e X.env) (EP X pins σ Q) X.xe s
def PT (X:Cx)(e:Expr)(t:TT):Prop :=
 ∀(pins:List (Addr×Obj)) (s:xy) (σ:St) (H:Hp) (Q:Bool->Hp->Prop),Inv X pins σ H s->t σ H Q->x8 (x9 X.prog X.w) X.A (isTrue e X.env (eval e X.env)) (TP X pins σ Q) X.xe s
def PW (X:Cx)(e:Expr)(t:TT):Prop :=
 ∀(whole:Sem xw) (pins:List (Addr×Obj)) (s:xy) (σ:St) (H:Hp) (Q:Bool->Hp->Prop),Inv X pins σ H s->t σ H Q->x8 (x9 X.prog X.w) X.A (isTrue e X.env whole) (TP X pins σ Q) X.xe s
theorem PW.pt {X:Cx}{e:Expr}{t:TT}(h:PW X e t):PT X e t:=h _
def PA (X:Cx)(es:List Expr)(t:TA):Prop :=
 ∀(pos:Pos) (pins:List (Addr×Obj)) (s:xy) (σ:St) (H:Hp) (Q:List V->Hp->Prop),Inv X pins σ H s->t σ H Q->x8 (x9 X.prog X.w) X.A (spliced (Bh pos (yA es X.env))) (AP X pins σ Q) X.xe s
def PS (X:Cx)(st:Stmt)(t:TS):Prop :=
 ∀(pins:List (Addr×Obj)) (s:xy) (σ:St) (H:Hp) (D:Ends),Inv X pins σ H s->t D σ H->x8 (x9 X.prog X.w) X.A (exec st X.env) (SP X pins D) X.xe s
def PSs (X:Cx)(st:List Stmt)(t:TS):Prop :=
 ∀(pins:List (Addr×Obj)) (s:xy) (σ:St) (H:Hp) (D:Ends),Inv X pins σ H s->t D σ H->x8 (x9 X.prog X.w) X.A (execs st X.env) (SP X pins D) X.xe s
theorem thn {α:Type}{t:Sem α}{Q Q':α -> xy->Prop}{M:Model}{A:yy}{E:xw->xy->Prop}{s:xy}(h:x8 M A t Q E s)(hQ:∀a s,Q a s->Q' a s):x8 M A t Q' E s:=zk h hQ λ_ _ x=>x
open PySem PySem.Spec PyProof.Rows
section
variable  {X:Cx}
theorem bin {a b:Expr}{ta tb:TE}(ha:PE X a ta)(hb:PE X b tb){pins:List (Addr×Obj)}{s:xy}{σ:St}{H:Hp}{R:V->V->Hp->Prop}(I:Inv X pins σ H s)(h:ta σ H λx H1=>tb σ H1 λy H2=>R x y H2)
  {α:Type} {Q:α -> xy->Prop} {f:xw->xw->Sem α}
  (hf:∀v u s2 x y H2,Inv X pins σ H2 s2->RelV x v->RelV y u->R x y H2->x8 (x9 X.prog X.w) X.A (f v u) Q X.xe s2) :
  x8 (x9 X.prog X.w) X.A (eval a X.env) (λv s₁=>x8 (x9 X.prog X.w) X.A (eval b X.env) (λu s₂=>x8 (x9 X.prog X.w) X.A (f v u) Q X.xe s₂) X.xe s₁) X.xe s:=by
 refine thn (ha pins s σ H _ I h) λv s1 ⟨x,H1,I1,r1,q1⟩ =>?_
 refine thn (hb pins s1 σ H1 _ I1 q1) λu s2 ⟨y,H2,I2,r2,q2⟩ =>?_
 exact hf v u s2 x y H2 I2 r1 r2 q2
def we (i:Nat):TE:=λσ H Q=>∃v,σ[i]? = some (some v)/\Q v H
def tC (v:V):TE:=λ_ H Q=>Q v H
theorem u6 {i:Nat}{x:Str}{pos:Pos}(hN:X.N[i]? = some x)(hv:Vis X.env.scope x)(hd:(x == ("__debug__" : Str))=false:=by decide)(hcd:(x == ("__classdict__" : Str))=false:=by decide):PE X (.Name x pos) (we i):=by
 intro pins s σ H Q I h
 obtain ⟨v,e,h⟩:=h
 obtain ⟨m,hn,hl⟩:=I.loc
 obtain ⟨u,r,l⟩:=hl i x v hN e hv
 have fin:EP X pins σ Q u s:=⟨v,H,I,r,h⟩
 rcases l with ⟨hk,hm⟩ | ⟨hk,c,hc,hcell⟩
 ·exact EC (wpAny_loadName_local I.ok.kind hk hn hm fin) hd
 ·rcases hk with hk | hk
  ·exact EC (wpAny_loadName_cell I.ok.kind hk hc hcell fin) hd
  ·exact EC (wpAny_loadName_free I.ok.kind hk hc hcell fin hcd) hd
theorem ai {i j pos}:PE X (.Constant (.int i) j pos) (tC (.int i)):=λ_ _ _ H _ I h=>wpAny_Constant_int ⟨.int i,H,I.tok _,⟨_,rfl⟩,h⟩
theorem ux {b j pos}:PE X (.Constant (.bool b) j pos) (tC (.bl b)):=λ_ _ _ H _ I h=>Constant_bool ⟨.bl b,H,I,rfl,h⟩
theorem qk {j pos}:PE X (.Constant .none j pos) (tC .non):=λ_ _ _ H _ I h=>Constant_none ⟨.non,H,I,rfl,h⟩
theorem u7 {x j pos}:PE X (.Constant (.str x) j pos) (tC (.str x)):=λ_ _ _ H _ I h=>Calls.Constant_str ⟨.str x,H,I.tok _,⟨_,rfl⟩,h⟩
def Gl (X:Cx)(x:Str):Prop:=X.env.kindOf x=some .globalImplicit
theorem gg {E:xw->xy->Prop}{pins:List (Addr×Obj)}{s:xy}{σ:St}{H:Hp}{x:Str}{u:xw}{pos:Pos}{Q:xw->xy->Prop}(I:Inv X pins σ H s)(hg:Gl X x)(hm:X.mg x=some u)(h:Q u s)
  (hd:(x == ("__debug__" : Str))=false:=by decide):x8 (x9 X.prog X.w) X.A (eval (.Name x pos) X.env) Q E s :=
 B7 I.ok.kind hg (Calls.loadGlobal_global (by rw[I.ok.glob];exact I.mod.glob.keeps I.bk) hm h) hd
theorem dJ {E:xw->xy->Prop}{pins:List (Addr×Obj)}{s:xy}{σ:St}{H:Hp}{x:Str}{u:xw}{pos:Pos}{Q:xw->xy->Prop}(I:Inv X pins σ H s)(hg:Gl X x)(hm:X.mg x=none)(hv:yN x=some u)(h:Q u s)
  (hn:x ≠ "__name__" := by decide) (hd:(x == ("__debug__" : Str))=false:=by decide):x8 (x9 X.prog X.w) X.A (eval (.Name x pos) X.env) Q E s:=by
 obtain ⟨mb,h1,h2⟩:=I.mod.blt
 exact B7 I.ok.kind hg (Calls.loadGlobal_builtin (by rw[I.ok.glob];exact I.mod.glob.keeps I.bk) hm (by rw[I.ok.blt];exact h1.keeps I.bk) ((h2 x hn).trans hv) h) hd
theorem bI {x:Str}{v:V}{u:xw}{pos:Pos}(hg:Gl X x)(hm:X.mg x=some u)(r:RelV v u)(hd:(x == ("__debug__" : Str))=false:=by decide):PE X (.Name x pos) (tC v) :=
 λ_ _ _ H _ I h=>gg I hg hm ⟨v,H,I,r,h⟩ hd
theorem fB {x:Str}{v:V}{u:xw}{pos:Pos}(hg:Gl X x)(hm:X.mg x=none)(hv:yN x=some u)(r:RelV v u)(hn:x ≠ "__name__" := by decide)(hd:(x == ("__debug__" : Str))=false:=by decide):PE X (.Name x pos) (tC v) :=
 λ_ _ _ H _ I h=>dJ I hg hm hv ⟨v,H,I,r,h⟩ hn hd
variable  {a b:Expr}{ta tb:TE}{pos:Pos}
def PC (X:Cx)(op:CmpOp)(a b:Expr)(t:TE):Prop :=
 ∀(pins:List (Addr×Obj)) (s:xy) (σ:St) (H:Hp) (Q:VK),Inv X pins σ H s->t σ H Q →
  x8 (x9 X.prog X.w) X.A (eval a X.env) (λv s₁=>x8 (x9 X.prog X.w) X.A (eval b X.env) (λu s₂=>x8 (x9 X.prog X.w) X.A (Aa op v u) (EP X pins σ Q) X.xe s₂) X.xe s₁) X.xe s
theorem ql (b:Expr){op:CmpOp}(h:op ≠ .In)(h2:op ≠ .NotIn):behindInMarks op b=false:=by
 have e1:(op == CmpOp.In)=false:=by cases op <;> first | rfl | exact absurd rfl h
 have e2:(op == CmpOp.NotIn)=false:=by cases op <;> first | rfl | exact absurd rfl h2
 cases b <;> simp[behindInMarks,e1,e2]
def tB (t:TE):TT:=λσ H Q=>t σ H λx H1=>∃c,x = .bl c/\Q c H1
theorem pt_cmp {op:CmpOp}{t:TE}(h:PC X op a b t)(h1:behindInMarks op b=false:=by first | exact ql _ (by decide) (by decide) | rfl):PT X (.Compare a [op] [b] pos) (tB t):=by
 intro pins s σ H Q I hw
 refine C5 (thn (h pins s σ H _ I hw) λv s1 h1=>thn h1 λu s2 h2=>thn h2 λc s3 ⟨x,H1,I1,r1,q1⟩ =>?_) h1
 obtain ⟨d,rfl,q⟩:=q1
 cases r1
 exact zP ⟨H1,I1,q⟩
theorem cO {e:Expr}{t:TE}(h:PE X e t)(he:∀whole,isTrue e X.env whole=(do let v ← whole;standAt e.pos;Ek [v] (truthy v)):=by intro _;rfl):PT X e (tB t):=by
  intro pins s σ H Q I hw
  refine isTrue_plain (thn (h pins s σ H _ I hw) λv s1 ⟨x,H1,I1,r1,q1⟩ =>?_) (he _)
  obtain ⟨d,rfl,q⟩:=q1
  cases r1
  exact zP ⟨H1,I1,q⟩
variable  {tA tB':TT}{rest:List Expr}
def tAnd (t u:TT):TT:=λσ H Q=>t σ H λc H1=>if c=true then u σ H1 Q else Q false H1
def tOr (t u:TT):TT:=λσ H Q=>t σ H λc H1=>if c=true then Q true H1 else u σ H1 Q
def tNot (t:TT):TT:=λσ H Q=>t σ H λc H1=>Q (!c) H1
theorem k8 (ha:PT X a tA):PW X (.BoolOp .And [a] pos) tA:=by
 intro wh pins s σ H Q I h
 refine isTrue_and (thn (ha pins s σ H Q I h) λc s1 e =>?_)
 cases c with
 | true=>exact isTrue_and_nil e
 | false=>exact e
theorem iX (ha:PT X a tA):PW X (.BoolOp .Or [a] pos) tA:=by
 intro wh pins s σ H Q I h
 refine isTrue_or (thn (ha pins s σ H Q I h) λc s1 e =>?_)
 cases c with
 | false=>exact isTrue_or_nil e
 | true=>exact e
theorem k9 (ha:PT X a tA)(hb:PW X (.BoolOp .And (b :: rest) pos) tB'):PW X (.BoolOp .And (a :: b :: rest) pos) (tAnd tA tB'):=by
 intro wh pins s σ H Q I h
 refine isTrue_and (thn (ha pins s σ H _ I h) λc s1 ⟨H1,I1,q1⟩ =>?_)
 cases c with
 | true=>exact hb wh pins s1 σ H1 Q I1 q1
 | false=>exact ⟨H1,I1,q1⟩
theorem iY (ha:PT X a tA)(hb:PW X (.BoolOp .Or (b :: rest) pos) tB'):PW X (.BoolOp .Or (a :: b :: rest) pos) (tOr tA tB'):=by
 intro wh pins s σ H Q I h
 refine isTrue_or (thn (ha pins s σ H _ I h) λc s1 ⟨H1,I1,q1⟩ =>?_)
 cases c with
 | true=>exact ⟨H1,I1,q1⟩
 | false=>exact hb wh pins s1 σ H1 Q I1 q1
theorem eJ (ha:PT X a tA):PT X (.UnaryOp .Not a pos) (tNot tA):=by
 intro pins s σ H Q I h
 exact isTrue_not (ha pins s σ H (λc H1=>Q (!c) H1) I h)
def wg (ta tb:TE):TE:=λσ H Q=>ta σ H λx H1=>∃c,x = .bl c/\if c=true then tb σ H1 Q else Q (.bl false) H1
def wj (ta:TE):TE:=λσ H Q=>ta σ H λx H1=>∃c,x = .bl c/\Q (.bl (!c)) H1
theorem lb {op}{t:TE}(h:PE X a t):PE X (.BoolOp op [a] pos) t:=λpins s σ H Q I hw=>BoolOp_one (h pins s σ H Q I hw)
theorem lh (ha:PE X a ta)(hb:PE X (.BoolOp .And (b :: rest) pos) tb):PE X (.BoolOp .And (a :: b :: rest) pos) (wg ta tb):=by
 intro pins s σ H Q I h
 refine BoolOp_and (thn (ha pins s σ H _ I h) λv s1 ⟨x,H1,I1,r1,q1⟩ =>?_)
 obtain ⟨c,rfl,q1⟩:=q1
 cases r1
 refine zP ?_
 cases c with
 | true=>exact hb pins s1 σ H1 Q I1 q1
 | false=>exact ⟨.bl false,H1,I1,rfl,q1⟩
theorem u9 (ha:PE X a ta):PE X (.UnaryOp .Not a pos) (wj ta):=by
 intro pins s σ H Q I h
 refine UnaryOp_ (thn (ha pins s σ H _ I h) λv s1 ⟨x,H1,I1,r1,q1⟩ =>?_)
 obtain ⟨c,rfl,q1⟩:=q1
 cases r1
 exact not_of (zP ⟨.bl (!c),H1,I1,rfl,q1⟩)
end
open PySem PySem.Spec PyProof.Rows
def SqL (K:xx)(H:Hp)(a:Addr)(xs:List V):Prop :=
 Rd H a (.lst xs) ∨
  ∃(o:Obj) (its:Array xw) (n:Nat),K.lookup a=some o/\o.cls = .type "list" /\ o.dict=none/\o.data = .seq its n/\its.size<=xG/\Vals xs its.toList
def SqT (K:xx)(H:Hp)(a:Addr)(xs:List V):Prop :=
 Rd H a (.tup xs) ∨
  ∃(o:Obj) (its:Array xw) (n:Nat),K.lookup a=some o/\o.cls = .type "tuple" /\ o.data = .seq its n/\its.size<=xG/\Vals xs its.toList
def absV:xw->Option V
 | .none=>some .non
 | .bool b=>some (.bl b)
 | .int i _=>some (.int i)
 | .str x _=>some (.str x)
 | .bytes b _=>some (.byt b)
 | .float b _=>some (.flt b)
 | .ref a=>some (.ref a)
 | .type n=>some (.ty n)
 | _=>none
theorem RelV.abs {x:V}{u:xw}(r:RelV x u):absV u=some x:=by
 cases x with
 | non=>cases r;rfl
 | bl _=>cases r;rfl
 | int _=>obtain ⟨t,rfl⟩:=r;rfl
 | str _=>obtain ⟨t,rfl⟩:=r;rfl
 | byt _=>obtain ⟨t,rfl⟩:=r;rfl
 | flt _=>obtain ⟨t,rfl⟩:=r;rfl
 | ref _=>cases r;rfl
 | ty _=>cases r;rfl
theorem RelV.inj {x y:V}{u:xw}(r:RelV x u)(q:RelV y u):x=y:=ym (r.abs.symm.trans q.abs)
theorem Vals.inj:∀{xs ys:List V} {us:List xw},Vals xs us->Vals ys us->xs=ys
 | _,_,_,.nil,.nil=>rfl
 | _,_,_,.cons r t,.cons r' t'=>by rw[r.inj r',Vals.inj t t']
section
variable  {X:Cx}{pins:List (Addr×Obj)}{σ:St}{H:Hp}{s:xy}{a:Addr}{xs ys:List V}
theorem SqL.of {K:xx}(h:H a=some (.lst xs)):SqL K H a xs :=.inl (.inl h)
theorem SqT.of {K:xx}(h:H a=some (.tup xs)):SqT K H a xs :=.inl (.inl h)
theorem Inv.list (I:Inv X pins σ H s)(h:SqL X.K H a xs):∃its:List xw,Vals xs its/\PlainL s.heap a its.toArray/\xs.length<=xG:=by
 rcases h with h | ⟨o,its,n,hk,hc,hd,hs,hz,r⟩
 ·obtain ⟨z,its,n,r,e⟩:=h.ok I.hok
  exact ⟨its,r,⟨_,n,e,rfl,rfl,rfl⟩,z⟩
 ·refine ⟨its.toList,r,⟨o,n,I.kIn a o hk,hc,hd,by simpa using hs⟩,?_⟩
  have e:=r.length
  simp only[xK] at e
  omega
theorem Inv.tuple (I:Inv X pins σ H s)(h:SqT X.K H a xs):∃its:List xw,Vals xs its/\IsTup s.heap a its.toArray/\xs.length<=xG:=by
 rcases h with h | ⟨o,its,n,hk,hc,hs,hz,r⟩
 ·obtain ⟨z,its,r,p⟩:=h.ok I.hok
  exact ⟨its,r,p.tup,z⟩
 ·refine ⟨its.toList,r,⟨o,I.kIn a o hk,hc,n,by simpa using hs⟩,?_⟩
  have e:=r.length
  simp only[xK] at e
  omega
theorem Inv.mf (I:Inv X pins σ H s)(h:SqL X.K H a xs)(h':SqL X.K H a ys):xs=ys:=by
 obtain ⟨its,r,⟨o,n,e,_,_,d⟩,_⟩:=I.list h
 obtain ⟨its',r',⟨o',n',e',_,_,d'⟩,_⟩:=I.list h'
 rw[e] at e';cases e'
 rw[d] at d'
 injection d' with d1 _
 have:its=its':=by simpa using congrArg Array.toList d1
 subst this
 exact r.inj r'
theorem Inv.kg (I:Inv X pins σ H s)(h:SqT X.K H a xs)(h':SqT X.K H a ys):xs=ys:=by
 obtain ⟨its,r,⟨o,e,_,n,d⟩,_⟩:=I.tuple h
 obtain ⟨its',r',⟨o',e',_,n',d'⟩,_⟩:=I.tuple h'
 rw[e] at e';cases e'
 rw[d] at d'
 injection d' with d1 _
 have:its=its':=by simpa using congrArg Array.toList d1
 subst this
 exact r.inj r'
end
abbrev Cx.iZ (X:Cx)(E:xw->xy->Prop):Cx:={ X with xe:=E }
abbrev Cx.nox (X:Cx):Cx:=X.iZ λ_ _=>False
theorem Cx.Ok.iZ {X:Cx}(ok:X.Ok)(E:xw->xy->Prop):(X.iZ E).Ok :=
 ⟨ok.mod,ok.kind,ok.glob,ok.blt,ok.above,ok.inj,ok.has,ok.cab,ok.hd,ok.frames,ok.stk,ok.exf,ok.bs,ok.bsz,ok.noex,ok.exfs,ok.funs,ok.frf⟩
theorem Cx.Ok.dq {X:Cx}{E:xw->xy->Prop}(ok:(X.iZ E).Ok):X.Ok :=
 ⟨ok.mod,ok.kind,ok.glob,ok.blt,ok.above,ok.inj,ok.has,ok.cab,ok.hd,ok.frames,ok.stk,ok.exf,ok.bs,ok.bsz,ok.noex,ok.exfs,ok.funs,ok.frf⟩
section
variable  {X:Cx}{pins:List (Addr×Obj)}{σ:St}{H:Hp}{s:xy}{E:xw->xy->Prop}
theorem Inv.iZ (I:Inv X pins σ H s)(E:xw->xy->Prop):Inv (X.iZ E) pins σ H s:=⟨I.ok.iZ E,I.os,I.bare,I.base,I.loc,I.cell,I.free,I.freeC,I.pin,I.hok,I.len⟩
theorem Inv.dq (I:Inv (X.iZ E) pins σ H s):Inv X pins σ H s:=⟨I.ok.dq,I.os,I.bare,I.base,I.loc,I.cell,I.free,I.freeC,I.pin,I.hok,I.len⟩
theorem SP.dq {D:Ends}{f:Flow}{s':xy}(h:SP (X.iZ E) pins D f s'):SP X pins D f s':=by
 cases f with
 | next=>obtain ⟨σ',H',I,q⟩:=h;exact ⟨σ',H',I.dq,q⟩
 | brk=>obtain ⟨σ',H',I,q⟩:=h;exact ⟨σ',H',I.dq,q⟩
 | cont=>obtain ⟨σ',H',I,q⟩:=h;exact ⟨σ',H',I.dq,q⟩
 | ret u=>obtain ⟨v,σ',H',I,r,q⟩:=h;exact ⟨v,σ',H',I.dq,r,q⟩
theorem PSs.nox {st:List Stmt}{t:TS}(h:PSs X.nox st t):PSs X st t:=λpins s σ H D I hw =>
 zk (h pins s σ H D (I.iZ _) hw) (λ_ _ q=>q.dq) λ_ _ z=>False.elim z
end
section
variable  {X:Cx}{st:Stmt}{rest:List Stmt}{t u:TS}{e:Expr}{te:TE}{pos:Pos}
def wk:TS:=λD σ H=>D.nx σ H
def wm (t u:TS):TS:=λD σ H=>t { D with nx:=u D } σ H
theorem ba:PSs X [] wk:=λ_ _ σ H _ I h=>A0 ⟨σ,H,I,h⟩
theorem ah (h1:PS X st t)(h2:PSs X rest u):PSs X (st :: rest) (wm t u):=by
 intro pins s σ H D I h
 refine CO (thn (h1 pins s σ H { D with nx:=u D } I h) λf s1 q =>?_)
 cases f with
 | next =>
  obtain ⟨σ',H',I',q⟩:=q
  exact h2 pins s1 σ' H' D I' q
 | ret v=>exact q
 | brk=>exact q
 | cont=>exact q
theorem ao (h1:PS X st t):PSs X [st] t:=by
 intro pins s σ H D I h
 refine CO (thn (h1 pins s σ H D I h) λf s1 q =>?_)
 cases f with
 | next=>exact A0 q
 | ret v=>exact q
 | brk=>exact q
 | cont=>exact q
theorem Inv.quiet {pins:List (Addr×Obj)}{σ:St}{H:Hp}{s:xy}(I:Inv X pins σ H s):interactive X.env=false:=by simp[interactive,I.ok.kind]
def wq (te:TE):TS:=λD σ H=>te σ H λ_ H1=>D.nx σ H1
theorem bZ (he:PE X e te)(hs:swapsWith e none pos.line X.env=pure false:=by rfl):PS X (.Expr e pos) (wq te):=by
 intro pins s σ H D I h
 exact wpAny_Expr_any (thn (he pins s σ H _ I h) λv s1 ⟨x,H1,I1,r1,q1⟩=>⟨σ,H1,I1,q1⟩) I.quiet hs
def tRet (te:TE):TS:=λD σ H=>te σ H D.rt
theorem aX (he:PE X e te):PS X (.Return (some e) pos) (tRet te):=by
 intro pins s σ H D I h
 exact wpAny_Return_some (thn (he pins s σ H _ I h) λv s1 ⟨x,H1,I1,r1,q1⟩=>⟨x,σ,H1,I1,r1,q1⟩)
def tIfS (c:TT)(t u:TS):TS:=λD σ H=>c σ H λb H1=>if b=true then t D σ H1 else u D σ H1
theorem b8 {c:Expr}{a b:List Stmt}{tc:TT}(hc:PT X c tc)(ha:PSs X a t)(hb:PSs X b u):PS X (.If c a b pos) (tIfS tc t u):=by
 intro pins s σ H D I h
 refine wpAny_If (thn (hc pins s σ H _ I h) λd s1 ⟨H1,I1,q1⟩ =>?_)
 cases d with
 | true=>exact ha pins s1 σ H1 D I1 q1
 | false=>exact hb pins s1 σ H1 D I1 q1
def va:TS:=λ_ _ _=>False
theorem dB {sts:List Stmt}:PSs X sts va:=λ_ _ _ _ _ _ h=>h.elim
end
abbrev TG:=V->St->Hp->(St->Hp->Prop)->Prop
abbrev TGs:=List V->St->Hp->(St->Hp->Prop)->Prop
def PG (X:Cx)(target:Expr)(t:TG):Prop :=
 ∀(pins:List (Addr×Obj)) (s:xy) (σ:St) (H:Hp) (v:V) (u:xw) (Q:St->Hp->Prop),Inv X pins σ H s->RelV v u->t v σ H Q →
  x8 (x9 X.prog X.w) X.A (assign target X.env u) (λ_ s'=>∃σ' H',Inv X pins σ' H' s'/\Q σ' H') X.xe s
def PGs (X:Cx)(ts:List Expr)(t:TGs):Prop :=
 ∀(pins:List (Addr×Obj)) (s:xy) (σ:St) (H:Hp) (vs:List V) (us:List xw) (Q:St->Hp->Prop),Inv X pins σ H s->Vals vs us->t vs σ H Q →
  x8 (x9 X.prog X.w) X.A (assignInOrder ((assignEach ts X.env).map (·.2)) us) (λ_ s'=>∃σ' H',Inv X pins σ' H' s'/\Q σ' H') X.xe s
abbrev vb:=V->V->V->Hp->(Hp->Prop)->Prop
def ve (X:Cx)(t:vb):Prop :=
 ∀(pins:List (Addr×Obj)) (s:xy) (σ:St) (H:Hp) (o i v:V) (ov iv u:xw) (Q:Hp->Prop),Inv X pins σ H s->RelV o ov->RelV i iv->RelV v u->t o i v H Q →
  x8 (x9 X.prog X.w) X.A (setItem ov iv u) (λ_ s'=>∃H',Inv X pins σ H' s'/\Q H') X.xe s
section
variable  {X:Cx}{pos:Pos}
def eN (i:Nat):TG:=λv σ H Q=>Q (σ.set i (some v)) H
theorem aB {i:Nat}{x:Str}(hN:X.N.Nodup)(hi:X.N[i]? = some x)(hx:Loc X.env.scope x)(hf:X.fn x=true\/X.env.scope.names.lookup x=some .local:=by first | exact .inl rfl | exact .inr rfl | assumption):PG X (.Name x pos) (eN i):=by
 intro pins s σ H v u Q I r h
 exact wpAny_assign_Name (iW I hN hi hx r (λs' I'=>⟨_,H,I',h⟩) hf)
def wu:TGs:=λvs σ H Q=>vs=[]/\Q σ H
def qm (t:TG)(u:TGs):TGs:=λvs σ H Q=>∃v r,vs=v :: r/\t v σ H λσ' H'=>u r σ' H' Q
theorem gh:PGs X [] wu:=by
 intro pins s σ H vs us Q I r h
 obtain ⟨e,h⟩:=h
 subst e
 cases r
 exact assignInOrder_nil ⟨σ,H,I,h⟩
theorem bM {e:Expr}{es:List Expr}{t:TG}{u:TGs}(h1:PG X e t)(h2:PGs X es u)
  (hs:(assignEach (e :: es) X.env).map (·.2)=assign e X.env :: (assignEach es X.env).map (·.2):=by rfl):PGs X (e :: es) (qm t u):=by
 intro pins s σ H vs us Q I r h
 obtain ⟨v,vr,e1,h⟩:=h
 subst e1
 cases r with
 | cons r rr =>
  rw[hs]
  refine assignInOrder_cons (thn (h1 pins s σ H _ _ _ I r h) λ_ s1 ⟨σ1,H1,I1,q1⟩ =>?_)
  exact h2 pins s1 σ1 H1 _ _ Q I1 rr q1
def wx (K:xx)(n:Nat)(t:TGs):TG:=λv σ H Q=>∃a xs,v = .ref a/\SqT K H a xs/\xs.length=n/\t xs σ H Q
theorem i0 {es:List Expr}{k:Nat}{t:TGs}{n:Nat}(hc:X.calm=true)(h:PGs X es t)
  (hn:(assignEach es X.env).length=n:=by rfl) (hst:(assignEach es X.env).findIdx? (·.1)=none:=by rfl):PG X (.Tuple es k pos) (wx X.K n t):=by
 intro pins s σ H v u Q I r hw
 obtain ⟨a,xs,e1,hq,hl,hw⟩:=hw
 subst e1
 cases r
 obtain ⟨its,rv,ht,hz⟩:=I.tuple hq
 refine assign_Tuple_tuple (I.ok.hd hc) ht (by simp[hn, <- hl,rv.length]) hst λh' hx =>?_
 have I1:Inv X pins σ H { s with heap:=h' }:=I.kept (t':=s.toks) λb o e=>hx b o (x5 (xE e)) e
 exact h pins _ σ H xs _ Q I1 (by simpa using rv) hw
def gSub (to ti:TE)(t:vb):TG:=λv σ H Q=>to σ H λo H1=>ti σ H1 λi H2=>t o i v H2 λH3=>Q σ H3
theorem i4 {o i:Expr}{to ti:TE}{t:vb}(ho:PE X o to)(hi:PE X i ti)(hs:ve X t)
    (ha:∀v,assign (.Subscript o i pos) X.env v=(do
      let ov ← Ek [v] (eval o X.env)
      let iv ← Ek [v,ov] (eval i X.env)
      standAt pos
      Ek [v,ov,iv] (setItem ov iv v)
      release [v,ov,iv] []):=by intro _;rfl):PG X (.Subscript o i pos) (gSub to ti t):=by
  intro pins s σ H v u Q I r h
  rw[ha]
  refine xu (zG (thn (ho pins s σ H _ I h) λov s1 ⟨x,H1,I1,r1,q1⟩ =>?_))
  refine xu (zG (thn (hi pins s1 σ H1 _ I1 q1) λiv s2 ⟨y,H2,I2,r2,q2⟩ =>?_))
  refine xu (Br (xu (zG (thn (hs pins s2 σ H2 x y v ov iv u _ I2 r1 r2 r q2) λ_ s3 ⟨H3,I3,q3⟩ =>?_))))
  exact wpAny_release ⟨σ,H3,I3,q3⟩
def vf (te:TE)(g:TG):TS:=λD σ H=>te σ H λx H1=>g x σ H1 D.nx
theorem i5 {tg e:Expr}{te:TE}{g:TG}(he:PE X e te)(hg:PG X tg g)(hs:swapsWithSole [tg] e pos.line X.env=pure false:=by rfl)(hw:swappedStores [tg] e X.env=pure none:=by rfl)
  (h1:(assignEach [tg] X.env).map (·.2)=[assign tg X.env]:=by rfl):PS X (.Assign [tg] e pos) (vf te g):=by
 intro pins s σ H D I h
 refine wpAny_Assign_stores (thn (he pins s σ H _ I h) λv s1 ⟨x,H1,I1,r1,q1⟩ =>?_) hs hw
 rw[h1]
 exact thn (hg pins s1 σ H1 x v _ I1 r1 q1) λ_ s2 q=>q
theorem au {i:Nat}{x:Str}{e:Expr}{te:TE}{pos':Pos}(hN:X.N.Nodup)(hi:X.N[i]? = some x)(hx:Loc X.env.scope x)(he:PE X e te)(hs:swapsWith e (some (.Name x pos')) pos.line X.env=pure false:=by rfl)(hf:X.fn x=true\/X.env.scope.names.lookup x=some .local:=by first | exact .inl rfl | exact .inr rfl | assumption) :
  PS X (.Assign [.Name x pos'] e pos) (vf te (eN i)):=by
 intro pins s σ H D I h
 refine wpAny_Assign_Name (thn (he pins s σ H _ I h) λv s1 ⟨y,H1,I1,r1,q1⟩ =>?_) hs
 exact iW I1 hN hi hx r1 (λs2 I2=>⟨_,H1,I2,q1⟩) hf
end
section
variable  {X:Cx}{pos:Pos}
def qo (c:TT)(tb:TS):TS:=λD σ H=>∃W:Nat->St->Hp->Prop,(∃m,W m σ H)/\∀m σ H,W m σ H →
 c σ H λb H1=>if b=true then ∃N:St->Hp->Prop,(∀σ' H',N σ' H'->∃m',m'<m/\W m' σ' H')/\tb { D with nx:=N,ct:=N,bk:=D.nx } σ H1 else D.nx σ H1
theorem qp {c:Expr}{body:List Stmt}{tc:TT}{tb:TS}(hp:PassesOwn (x9 X.prog X.w) X.A X.env X.xe)(hc:PT X c tc)(hb:PSs X body tb):PS X (.While c body [] pos) (qo tc tb):=by
 intro pins s σ H D I h
 obtain ⟨W,⟨m0,w0⟩,turn⟩:=h
 refine wpAny_While (codeAny_whileLoop (λn s'=>∃σ' H',Inv X pins σ' H' s'/\W n σ' H') ?_ m0 ⟨σ,H,I,w0⟩)
 rintro n s1 ⟨σ1,H1,I1,w1⟩
 refine AB hp (thn (hc pins s1 σ1 H1 _ I1 (turn n σ1 H1 w1)) λb s2 ⟨H2,I2,q2⟩ =>?_)
 cases b with
 | true =>
  obtain ⟨N,hN,q2⟩:=q2
  rw[if_pos rfl]
  refine AB hp (thn (hb pins s2 σ1 H2 _ I2 q2) λf s3 q3 =>?_)
  cases f with
  | next =>
   obtain ⟨σ3,H3,I3,n3⟩:=q3
   obtain ⟨m',hm,w3⟩:=hN σ3 H3 n3
   exact ⟨m',hm,σ3,H3,I3,w3⟩
  | cont =>
   obtain ⟨σ3,H3,I3,n3⟩:=q3
   obtain ⟨m',hm,w3⟩:=hN σ3 H3 n3
   exact ⟨m',hm,σ3,H3,I3,w3⟩
  | brk=>exact q3
  | ret v=>exact q3
 | false =>
  rw[if_neg xN]
  exact A0 ⟨σ1,H2,I2,q2⟩
end
structure It where
 go:Nat->Hp->Prop
 yld:Nat->Hp->V->Hp->Prop
 stop:Nat->Hp->Prop
def gW (X:Cx)(pins:List (Addr×Obj))(H:Hp)(b:Addr):Prop :=
 H b=none/\b≠X.env.locals/\b∉X.fs/\(b∈X.ex\/X.s₀.heap.objs.size<=b)/\(∀x c,X.env.cells.lookup x=some c->c≠b)/\∀p∈X.pn++pins,p.1≠b
theorem Inv.qq {X:Cx}{pins:List (Addr×Obj)}{σ:St}{H H':Hp}{s:xy}{b:Addr}(I:Inv X pins σ H s)(hb:s.heap.objs.size<=b)(hn:H' b=none):gW X pins H' b:=by
 refine ⟨hn,zS (xZ I.lt hb),I.u5 hb,.inr (yf I.sz hb),λx c e z =>?_,λp hp z =>?_⟩
 ·obtain ⟨v,q⟩:=I.cell x c e
  exact absurd (xZ q.lt (by rw[z];exact hb)) (yV _)
 ·exact absurd (xZ (xE (I.pin p hp).1) (by rw[z];exact hb)) (yV _)
structure Turn (P:xX)(w:yv)(K:xx)(tg:Expr)(J:It)(fp:List Addr)(it:Addr)(tn:Nat->Heap->Prop):Prop where
 mem:it∈fp
 obj:∀i h,tn i h->∀b∈fp,∃o,h.get? b=some o/\∀v,o.data ≠ .cell v
 keep:∀i h h',tn i h->(∀b∈fp,∀o,h.get? b=some o->h'.get? b=some o)->tn i h'
 item:∀(X:Cx),X.prog=P->X.w=w->X.K=K->X.calm=true->∀(i:Nat) (pins:List (Addr×Obj)) (s:xy) (σ:St) (H:Hp) (E:xw->xy->Prop),Inv X pins σ H s->(∀b∈fp,gW X pins H b)->tn i s.heap->J.go i H →
  x8 (x9 P w) X.A (pyNext (.ref it)) (λr s1=>∃u,r=some u ∧
   x8 (x9 P w) X.A (letOwnedTupleGo tg (.ref it) u) (λ_ s2=>∃x H',Inv X pins σ H' s2/\RelV x u/\J.yld i H x H'/\tn (i+1) s2.heap/\∀b∈fp,H' b=none) E s1) E s
 done:∀(X:Cx),X.prog=P->X.w=w->X.K=K->X.calm=true->∀(i:Nat) (pins:List (Addr×Obj)) (s:xy) (σ:St) (H:Hp) (E:xw->xy->Prop),Inv X pins σ H s->(∀b∈fp,gW X pins H b)->tn i s.heap->J.stop i H →
  x8 (x9 P w) X.A (pyNext (.ref it)) (λr s1=>r=none/\Inv X pins σ H s1) E s
 self:∀(A:yy) (i:Nat) (s:xy) (Q:xw->xy->Prop) (E:xw->xy->Prop),tn i s.heap->Q (.ref it) s->x8 (x9 P w) A (pyIter (.ref it)) Q E s
abbrev TI:=St->Hp->(It->Hp->Prop)->Prop
def PIE (X:Cx)(pins:List (Addr×Obj))(σ:St)(tg:Expr)(R:It->Hp->Prop)(itv:xw)(s2:xy):Prop :=
 ∃(it:Addr) (fp:List Addr) (tn:Nat->Heap->Prop) (J:It) (H':Hp),itv = .ref it/\Inv X pins σ H' s2/\Turn X.prog X.w X.K tg J fp it tn/\tn 0 s2.heap/\(∀b∈fp,gW X pins H' b)/\R J H'
def PI (X:Cx)(tg iter:Expr)(wi:TI):Prop :=
 ∀(pins:List (Addr×Obj)) (s:xy) (σ:St) (H:Hp) (R:It->Hp->Prop),Inv X pins σ H s->wi σ H R →
  x8 (x9 X.prog X.w) X.A (eval iter X.env) (λv s1=>x8 (x9 X.prog X.w) X.A (pyIter v) (PIE X pins σ tg R) X.xe s1) X.xe s
theorem qr {M:Model}{A:yy}{E:xw->xy->Prop}{s:xy}{tg:Expr}{it:Addr}{u:xw}{o:Obj}{n:String}{vs:Array xw}{Q:Unit->xy->Prop}(ho:s.heap.get? it=some o)(hc:o.cls = .type n)(hd:o.data = .fields vs)
    (hn:["enumerate", "zip", "dict_itemiterator", "dict_reverseitemiterator", "odict_iterator", "itertools.zip_longest", "itertools.pairwise"].contains n=false) (hQ:Q () s):x8 M A (letOwnedTupleGo tg (.ref it) u) Q E s:=by
  unfold letOwnedTupleGo
  cases tg <;> first
    | exact xJ hQ
    | (cases u <;> first
        | exact xJ hQ
        | (refine xu (C8 ho ?_)
           rw[hc,hd]
           show x8 M A (if (["enumerate", "zip", "dict_itemiterator", "dict_reverseitemiterator", "odict_iterator", "itertools.zip_longest", "itertools.pairwise"].contains n && vs[0]? == some (EJ _))=true then _ else _) Q E s
           rw[if_neg (by intro h;rw[hn,El] at h;cases h)]
           exact xJ hQ))
def Itl (K:xx)(a:Addr):It :=
 ⟨λi H=>∃xs x,SqL K H a xs/\xs[i]? = some x,λi H x H'=>H'=H/\∀xs,SqL K H a xs->xs[i]? = some x,λi H=>∃xs,SqL K H a xs/\xs.length<=i⟩
def Itt (K:xx)(a:Addr):It :=
 ⟨λi H=>∃xs x,SqT K H a xs/\xs[i]? = some x,λi H x H'=>H'=H/\∀xs,SqT K H a xs->xs[i]? = some x,λi H=>∃xs,SqT K H a xs/\xs.length<=i⟩
def Itr (lo:Int)(n:Nat):It:=⟨λi _=>i<n,λi H x H'=>H'=H/\x = .int (lo+i),λi _=>n<=i⟩
theorem kh {P:xX}{w:yv}{K:xx}{tg:Expr}(a it:Addr):Turn P w K tg (Itl K a) [it] it (λi h=>h.IsListIter it a i) where
 mem:=by simp
 obj:=λi h st b hb=>by
  have e:b=it:=by simpa using hb
  subst e
  obtain ⟨o,e,c,d⟩:=st
  exact ⟨o,e,λv z=>by rw[d] at z;cases z⟩
 keep:=λi h h' st k=>st.at λo e=>k it (by simp) o e
 item:=by
  intro X hP hw hK hc i pins s σ H E I hf st hg
  subst hP hw hK
  obtain ⟨xs,x,hq,hx⟩:=hg
  obtain ⟨its,rv,p,hz⟩:=I.list hq
  obtain ⟨u,hu,ru⟩:=rv.get hx
  obtain ⟨f0,f1,f2,f3,f4,f5⟩:=hf it (by simp)
  refine wpAny_pyNext_list_item st p.isList (x:=u) (by simpa using hu) λh' st' sb =>?_
  have I1:Inv X pins σ H { s with heap:=h' }:=I.turned (t':=s.toks) (λb o hb e=>(sb.2 b hb).trans e) f0 f1 f3 f4 f5
  obtain ⟨o,e,c,d⟩:=id st'
  exact ⟨u,rfl,qr (s:={ s with heap:=h' }) e c d (by decide) ⟨x,H,I1,ru,⟨rfl,λys hy=>by rw[I.mf hy hq];exact hx⟩,st',λb hb=>(hf b hb).1⟩⟩
 done:=by
  intro X hP hw hK hc i pins s σ H E I hf st hg
  subst hP hw hK
  obtain ⟨xs,hq,hx⟩:=hg
  obtain ⟨its,rv,p,hz⟩:=I.list hq
  obtain ⟨f0,f1,f2,f3,f4,f5⟩:=hf it (by simp)
  have hl:=rv.length
  exact wpAny_pyNext_list_end (I.ok.hd hc) st p.isList (by simp;omega) λh' eb=>⟨rfl,I.turned (t':=s.toks) (λb o hb e=>eb b o hb e) f0 f1 f3 f4 f5⟩
 self:=λ_ _ _ _ _ st h=>wpAny_pyIter_listiter st h
theorem i6 {P:xX}{w:yv}{K:xx}{tg:Expr}(a it:Addr):Turn P w K tg (Itt K a) [it] it (λi h=>h.IsTupleIter it a i) where
 mem:=by simp
 obj:=λi h st b hb=>by
  have e:b=it:=by simpa using hb
  subst e
  obtain ⟨o,e,c,d⟩:=st
  exact ⟨o,e,λv z=>by rw[d] at z;cases z⟩
 keep:=λi h h' st k=>st.at λo e=>k it (by simp) o e
 item:=by
  intro X hP hw hK hc i pins s σ H E I hf st hg
  subst hP hw hK
  obtain ⟨xs,x,hq,hx⟩:=hg
  obtain ⟨its,rv,p,hz⟩:=I.tuple hq
  obtain ⟨u,hu,ru⟩:=rv.get hx
  obtain ⟨f0,f1,f2,f3,f4,f5⟩:=hf it (by simp)
  refine wpAny_pyNext_tuple_item st (show s.heap.IsTuple a its.toArray from p) (x:=u) (by simpa using hu) λh' st' sb =>?_
  have I1:Inv X pins σ H { s with heap:=h' }:=I.turned (t':=s.toks) (λb o hb e=>(sb.2 b hb).trans e) f0 f1 f3 f4 f5
  obtain ⟨o,e,c,d⟩:=id st'
  exact ⟨u,rfl,qr (s:={ s with heap:=h' }) e c d (by decide) ⟨x,H,I1,ru,⟨rfl,λys hy=>by rw[I.kg hy hq];exact hx⟩,st',λb hb=>(hf b hb).1⟩⟩
 done:=by
  intro X hP hw hK hc i pins s σ H E I hf st hg
  subst hP hw hK
  obtain ⟨xs,hq,hx⟩:=hg
  obtain ⟨its,rv,p,hz⟩:=I.tuple hq
  obtain ⟨f0,f1,f2,f3,f4,f5⟩:=hf it (by simp)
  have hl:=rv.length
  exact wpAny_pyNext_tuple_end (I.ok.hd hc) st (show s.heap.IsTuple a its.toArray from p) (by simp;omega) λh' eb=>⟨rfl,I.turned (t':=s.toks) (λb o hb e=>eb b o hb e) f0 f1 f3 f4 f5⟩
 self:=λ_ _ _ _ _ st h=>wpAny_pyIter_tupleiter st h
theorem nj {P:xX}{w:yv}{K:xx}{tg:Expr}(it:Addr)(lo:Int)(n:Nat):Turn P w K tg (Itr lo n) [it] it (λi h=>IsRangeIter h it (lo+(i:Nat)*1) ((n:Int)-(i:Nat)) 1) where
 mem:=by simp
 obj:=λi h st b hb=>by
  have e:b=it:=by simpa using hb
  subst e
  exact ⟨_,st,λv z=>by
   have z':Data.fields _=Data.cell v:=z
   cases z'⟩
 keep:=λi h h' st k=>k it (by simp) _ st
 item:=by
  intro X hP hw hK hc i pins s σ H E I hf st hg
  subst hP hw hK
  obtain ⟨f0,f1,f2,f3,f4,f5⟩:=hf it (by simp)
  have W:=Walks.range (prog:=X.prog) (w:=X.w) (I.ok.hd hc) it lo 1 n
  refine W.item i s _ _ hg st λv h' tk hv st' kk =>?_
  obtain ⟨t,rfl⟩:=hv
  have I1:Inv X pins σ H { s with heap:=h',toks:=tk }:=I.turned (λb o hb e=>kk b o (by simpa using hb) e) f0 f1 f3 f4 f5
  refine ⟨_,rfl,qr (s:={ s with heap:=h',toks:=tk }) (n := "range_iterator") st' rfl rfl (by decide) ⟨.int (lo+i),H,I1,⟨t,?_⟩,⟨rfl,rfl⟩,st',λb hb=>(hf b hb).1⟩⟩
  rw[Int.mul_one]
 done:=by
  intro X hP hw hK hc i pins s σ H E I hf st hg
  subst hP hw hK
  obtain ⟨f0,f1,f2,f3,f4,f5⟩:=hf it (by simp)
  exact wpAny_pyNext_range_end (I.ok.hd hc) st (by have:n<=i:=hg;omega) λh' eb=>⟨rfl,I.turned (t':=s.toks) (λb o hb e=>eb b o hb e) f0 f1 f3 f4 f5⟩
 self:=λ_ _ _ _ _ st h=>wpAny_pyIter_rangeiter st h
open PySem PySem.Spec PyProof.Rows
section
variable  {X:Cx}{tg:Expr}
def wz (K:xx)(tl:TE):TI:=λσ H R=>tl σ H λx H1=>∃a,x = .ref a/\(∃xs,SqL K H1 a xs)/\R (Itl K a) H1
def iTup (K:xx)(tl:TE):TI:=λσ H R=>tl σ H λx H1=>∃a,x = .ref a/\(∃xs,SqT K H1 a xs)/\R (Itt K a) H1
theorem fC {l:Expr}{tl:TE}(hl:PE X l tl):PI X tg l (wz X.K tl):=by
 intro pins s σ H R I h
 refine thn (hl pins s σ H _ I h) λv s1 ⟨x,H1,I1,r1,q1⟩ =>?_
 obtain ⟨a,e,⟨xs,hq⟩,q⟩:=q1
 subst e
 cases r1
 obtain ⟨its,rv,p,hz⟩:=I1.list hq
 refine BD p.isList ?_
 refine ⟨s1.heap.objs.size,[s1.heap.objs.size],_,_,H1,rfl,I1.kept (t':=s1.toks) λb o e=>xv _ e,kh a _,⟨_,xF _ rfl,rfl,rfl⟩,λb hb =>?_,q⟩
 have e:b=s1.heap.objs.size:=by simpa using hb
 subst e
 exact I1.qq (xC _) (I1.hok.fresh (xC _))
theorem dt {l:Expr}{tl:TE}(hl:PE X l tl):PI X tg l (iTup X.K tl):=by
 intro pins s σ H R I h
 refine thn (hl pins s σ H _ I h) λv s1 ⟨x,H1,I1,r1,q1⟩ =>?_
 obtain ⟨a,e,⟨xs,hq⟩,q⟩:=q1
 subst e
 cases r1
 obtain ⟨its,rv,p,hz⟩:=I1.tuple hq
 refine Cf (show s1.heap.IsTuple a its.toArray from p) ?_
 refine ⟨s1.heap.objs.size,[s1.heap.objs.size],_,_,H1,rfl,I1.kept (t':=s1.toks) λb o e=>xv _ e,i6 a _,⟨_,xF _ rfl,rfl,rfl⟩,λb hb =>?_,q⟩
 have e:b=s1.heap.objs.size:=by simpa using hb
 subst e
 exact I1.qq (xC _) (I1.hok.fresh (xC _))
theorem qt {pins:List (Addr×Obj)}{σ:St}{H:Hp}{s:xy}{R:It->Hp->Prop}{E:xw->xy->Prop}{lo hi:Int}{t u v:Tok}{tk:Nat}(I:Inv X pins σ H s)(h1 : -(2 ^ 62)<=lo)(h2:lo<2 ^ 62)(h3 : -(2 ^ 62)<=hi)(h4:hi<2 ^ 62)
  (q:R (Itr lo (hi-lo).toNat) H):x8 (x9 X.prog X.w) X.A (pyIter (.ref s.heap.objs.size)) (PIE X pins σ tg R) E { s with heap:=s.heap.push { cls :=.type "range",data :=.fields #[.int lo t,.int hi u,.int 1 v] },toks:=tk }:=by
 refine wpAny_pyIter_range (IsRange.new ..) (small_one h1 h2 h3 h4) ?_
 have I1:Inv X pins σ H { s with heap:=s.heap.push { cls :=.type "range",data :=.fields #[.int lo t,.int hi u,.int 1 v] },toks:=tk }:=I.kept λb o e=>xv _ e
 refine ⟨(s.heap.push { cls :=.type "range",data :=.fields #[.int lo t,.int hi u,.int 1 v] }).objs.size,[(s.heap.push { cls :=.type "range",data :=.fields #[.int lo t,.int hi u,.int 1 v] }).objs.size],_,_,H,rfl,
  I1.kept (t':=tk) λb o e=>xv _ e,nj _ lo (hi-lo).toNat,?_,λb hb =>?_,q⟩
 ·have e1:lo+((0:Nat):Int)*1=lo:=by simp
  have e2:(((hi-lo).toNat:Nat):Int)-((0:Nat):Int)=Builtin.Range.rangeSize lo hi 1:=by rw[rangeSize_one];split <;> omega
  show IsRangeIter _ _ (lo+((0:Nat):Int)*1) ((((hi-lo).toNat:Nat):Int)-((0:Nat):Int)) 1
  rw[e1,e2]
  exact xF _ rfl
 ·have e:b=(s.heap.push { cls :=.type "range",data :=.fields #[.int lo t,.int hi u,.int 1 v] }).objs.size:=by simpa using hb
  subst e
  exact I1.qq (xC _) (I1.hok.fresh (xC _))
def wA (ta:TA):TI:=λσ H R=>ta σ H λvs H1=>∃j:Int,vs=[.int j] /\ -(2 ^ 62)<=j/\j<2 ^ 62/\R (Itr 0 j.toNat) H1
theorem bV {a:Expr}{ta:TA}{p pos:Pos}(hg:Gl X "range")(hm:X.mg "range" = none)(ha:PA X [a] ta)(hs:yA [a] X.env=[(false,eval a X.env)]:=by rfl):PI X tg (.Call (.Name "range" p) [a] [] pos) (wA ta):=by
 intro pins s σ H R I h
 refine Call_ (dJ I hg hm boot_range (AR (thn (ha pos pins s σ H _ I h) λus s1 ⟨vs,H1,I1,r1,q1⟩ =>?_) hs rfl))
 obtain ⟨j,e,q1,q2,q⟩:=q1
 subst e
 cases r1 with
 | cons r rr =>
  cases rr
  obtain ⟨t,rfl⟩:=r
  exact call_range_1 (qt I1 (by omega) (by omega) q1 q2 (by simpa using q))
def tFor (wi:TI)(g:TG)(tb:TS):TS:=λD σ H=>wi σ H λJ H1=>∃W:Nat->Nat->St->Hp->Prop,(∃m,W 0 m σ H1)/\∀i m σ H,W i m σ H →
 (J.stop i H/\D.nx σ H)\/(J.go i H/\∃N:St->Hp->Prop,(∀σ' H',N σ' H'->∃m',m'<m/\W (i+1) m' σ' H')/\∀x H',J.yld i H x H'->g x σ H' λσ2 H2=>tb { D with nx:=N,ct:=N,bk:=D.nx } σ2 H2)
def fZ (fp:List Addr)(h:Heap):List (Addr×Obj):=fp.filterMap λb=>(h.get? b).map λo=>(b,o)
theorem cP {fp:List Addr}{h:Heap}{b:Addr}{o:Obj}(hb:b∈fp)(e:h.get? b=some o):(b,o)∈fZ fp h:=Cb.mpr ⟨b,hb,by rw[e];rfl⟩
theorem ki {fp:List Addr}{h:Heap}{p:Addr×Obj}(hp:p∈fZ fp h):p.1∈fp/\h.get? p.1=some p.2:=by
 obtain ⟨b,hb,e⟩:=Cb.mp hp
 cases q:h.get? b with
 | none=>rw[q] at e;cases e
 | some o =>
  rw[q] at e
  have e':(b,o)=p:=ym e
  subst e'
  exact ⟨hb,q⟩
theorem Inv.pinned {pins:List (Addr×Obj)}{σ:St}{H:Hp}{s:xy}{fp:List Addr}(I:Inv X pins σ H s)(hf:∀b∈fp,gW X pins H b)(ho:∀b∈fp,∃o,s.heap.get? b=some o/\∀v,o.data ≠ .cell v):Inv X (pins++fZ fp s.heap) σ H s :=
 I.gf λp hp=>(xS.mp hp).elim (λz=>I.pin p (yg _ z)) λz=>by
  obtain ⟨hb,e⟩:=ki z
  obtain ⟨f0,f1,f2,_⟩:=hf p.1 hb
  obtain ⟨o,e',d⟩:=ho p.1 hb
  rw[e] at e';cases e'
  exact ⟨e,f0,f1,f2,d⟩
theorem Inv.dC {pins pl:List (Addr×Obj)}{σ:St}{H:Hp}{s:xy}(I:Inv X (pins++pl) σ H s):Inv X pins σ H s:=I.gf λp hp=>I.pin p (yg _ (zI _ hp))
theorem bR {iter:Expr}{body:List Stmt}{wi:TI}{g:TG}{tb:TS}{pos:Pos}(hp:PassesOwn (x9 X.prog X.w) X.A X.env X.xe)(hc:X.calm=true)(hi:PI X tg iter wi)(hg:PG X tg g)(hb:PSs X body tb)
  (hs:∀x,foldedSetIterable iter X.env x=pure x:=by intro _;rfl):PS X (.For tg iter body [] pos) (tFor wi g tb):=by
 intro pins s σ H D I h
 refine wpAny_For (thn (hi pins s σ H _ I h) λv s1 h1=>thn h1 λitv s2 h2 =>?_) hs
 obtain ⟨it,fp,tn,J,H2,e,I2,T,st2,f2,W,⟨m0,w0⟩,turn⟩:=h2
 subst e
 have stat:∀{H':Hp},(∀b∈fp,H' b=none)->∀b∈fp,gW X pins H' b:=λhn b hb=>⟨hn b hb,(f2 b hb).2⟩
 refine codeAny_forLoop_any (λn s'=>∃i σ' H',Inv X pins σ' H' s'/\tn i s'.heap/\(∀b∈fp,H' b=none)/\W i n σ' H') ?_ m0 ⟨0,σ,H2,I2,st2,λb hb=>(f2 b hb).1,w0⟩
 rintro n s3 ⟨i,σ3,H3,I3,st3,fr3,w3⟩
 rcases turn i n σ3 H3 w3 with ⟨stop,qn⟩ | ⟨go,N,hN,step⟩
 ·refine AB hp (thn (T.done X rfl rfl rfl hc i pins s3 σ3 H3 X.xe I3 (stat fr3) st3 stop) λr s4 ⟨hr,I4⟩ =>?_)
  subst hr
  exact A0 ⟨σ3,H3,I4,qn⟩
 ·refine AB hp (thn (T.item X rfl rfl rfl hc i pins s3 σ3 H3 X.xe I3 (stat fr3) st3 go) λr s4 ⟨u,hr,h4⟩ =>?_)
  subst hr
  refine AB hp (thn h4 λ_ s5 ⟨x,H5,I5,r5,y5,st5,fr5⟩ =>?_)
  have I5':=I5.pinned (stat fr5) (T.obj _ _ st5)
  refine AB hp (thn (hg _ s5 σ3 H5 x u _ I5' r5 (step x H5 y5)) λ_ s6 ⟨σ6,H6,I6,q6⟩ =>?_)
  refine AB hp (thn (hb _ s6 σ6 H6 _ I6 q6) λf s7 q7 =>?_)
  have again:∀{σ7:St} {H7:Hp},Inv X (pins++fZ fp s5.heap) σ7 H7 s7->N σ7 H7->∃m,m<n/\∃i σ' H',Inv X pins σ' H' s7/\tn i s7.heap/\(∀b∈fp,H' b=none)/\W i m σ' H':=λ{σ7 H7} I7 n7=>by
   obtain ⟨m',hm,w7⟩:=hN σ7 H7 n7
   refine ⟨m',hm,i+1,σ7,H7,I7.dC,T.keep _ _ _ st5 λb hb o e=>(I7.pin (b,o) (yg _ (yg _ (cP hb e)))).1,λb hb =>?_,w7⟩
   obtain ⟨o,e,d⟩:=T.obj _ _ st5 b hb
   exact (I7.pin (b,o) (yg _ (yg _ (cP hb e)))).2.1
  cases f with
  | next=>obtain ⟨σ7,H7,I7,n7⟩:=q7;exact again I7 n7
  | cont=>obtain ⟨σ7,H7,I7,n7⟩:=q7;exact again I7 n7
  | brk=>obtain ⟨σ7,H7,I7,q7⟩:=q7;exact ⟨σ7,H7,I7.dC,q7⟩
  | ret v=>obtain ⟨x7,σ7,H7,I7,r7,q7⟩:=q7;exact ⟨x7,σ7,H7,I7.dC,r7,q7⟩
end
theorem i7 {K:xx}{a:Addr}{xs:List V}{g:TG}{tb:TS}{D:Ends}{σ:St}{H:Hp}(Pv:Nat->St->Hp->Prop)(h0:Pv 0 σ H)(hl:∀i σ H,i<=xs.length->Pv i σ H->SqL K H a xs)
  (hs:∀i x σ H,xs[i]? = some x->Pv i σ H->g x σ H λσ2 H2=>tb { D with nx:=Pv (i+1),ct:=Pv (i+1),bk:=D.nx } σ2 H2) (hd:∀σ H,Pv xs.length σ H->D.nx σ H) :
  ∃W:Nat->Nat->St->Hp->Prop,(∃m,W 0 m σ H)/\∀i m σ H,W i m σ H →
   ((Itl K a).stop i H/\D.nx σ H)\/((Itl K a).go i H/\∃N:St->Hp->Prop,(∀σ' H',N σ' H'->∃m',m'<m/\W (i+1) m' σ' H')/\∀x H',(Itl K a).yld i H x H'->g x σ H' λσ2 H2=>tb { D with nx:=N,ct:=N,bk:=D.nx } σ2 H2):=by
 refine ⟨λi m σ H=>m=xs.length-i/\i<=xs.length/\Pv i σ H,⟨xs.length,by simp,yE _,h0⟩,?_⟩
 rintro i m σ H ⟨rfl,hi,p⟩
 have q:=hl i σ H hi p
 by_cases hlt:i<xs.length
 ·refine .inr ⟨⟨xs,xs[i],q,by simp[hlt]⟩,Pv (i+1),λσ' H' p'=>⟨xs.length-(i+1),by omega,rfl,hlt,p'⟩,λx H' y =>?_⟩
  obtain ⟨e,y⟩:=y
  subst e
  exact hs i x σ _ (y xs q) p
 ·have e:i=xs.length:=by omega
  subst e
  exact .inl ⟨⟨xs,q,xC _⟩,hd σ H p⟩
theorem iH {K:xx}{a:Addr}{xs:List V}{g:TG}{tb:TS}{D:Ends}{σ:St}{H:Hp}(Pv:Nat->St->Hp->Prop)(h0:Pv 0 σ H)(hl:∀i σ H,i<=xs.length->Pv i σ H->SqT K H a xs)
  (hs:∀i x σ H,xs[i]? = some x->Pv i σ H->g x σ H λσ2 H2=>tb { D with nx:=Pv (i+1),ct:=Pv (i+1),bk:=D.nx } σ2 H2) (hd:∀σ H,Pv xs.length σ H->D.nx σ H) :
  ∃W:Nat->Nat->St->Hp->Prop,(∃m,W 0 m σ H)/\∀i m σ H,W i m σ H →
   ((Itt K a).stop i H/\D.nx σ H)\/((Itt K a).go i H/\∃N:St->Hp->Prop,(∀σ' H',N σ' H'->∃m',m'<m/\W (i+1) m' σ' H')/\∀x H',(Itt K a).yld i H x H'->g x σ H' λσ2 H2=>tb { D with nx:=N,ct:=N,bk:=D.nx } σ2 H2):=by
 refine ⟨λi m σ H=>m=xs.length-i/\i<=xs.length/\Pv i σ H,⟨xs.length,by simp,yE _,h0⟩,?_⟩
 rintro i m σ H ⟨rfl,hi,p⟩
 have q:=hl i σ H hi p
 by_cases hlt:i<xs.length
 ·refine .inr ⟨⟨xs,xs[i],q,by simp[hlt]⟩,Pv (i+1),λσ' H' p'=>⟨xs.length-(i+1),by omega,rfl,hlt,p'⟩,λx H' y =>?_⟩
  obtain ⟨e,y⟩:=y
  subst e
  exact hs i x σ _ (y xs q) p
 ·have e:i=xs.length:=by omega
  subst e
  exact .inl ⟨⟨xs,q,xC _⟩,hd σ H p⟩
theorem cK {lo:Int}{n:Nat}{g:TG}{tb:TS}{D:Ends}{σ:St}{H:Hp}(Pv:Nat->St->Hp->Prop)(h0:Pv 0 σ H)
  (hs:∀i σ H,i<n->Pv i σ H->g (.int (lo+i)) σ H λσ2 H2=>tb { D with nx:=Pv (i+1),ct:=Pv (i+1),bk:=D.nx } σ2 H2) (hd:∀σ H,Pv n σ H->D.nx σ H) :
  ∃W:Nat->Nat->St->Hp->Prop,(∃m,W 0 m σ H)/\∀i m σ H,W i m σ H →
   ((Itr lo n).stop i H/\D.nx σ H)\/((Itr lo n).go i H/\∃N:St->Hp->Prop,(∀σ' H',N σ' H'->∃m',m'<m/\W (i+1) m' σ' H')/\∀x H',(Itr lo n).yld i H x H'->g x σ H' λσ2 H2=>tb { D with nx:=N,ct:=N,bk:=D.nx } σ2 H2):=by
 refine ⟨λi m σ H=>m=n-i/\i<=n/\Pv i σ H,⟨n,by simp,yE _,h0⟩,?_⟩
 rintro i m σ H ⟨rfl,hi,p⟩
 by_cases hlt:i<n
 ·refine .inr ⟨hlt,Pv (i+1),λσ' H' p'=>⟨n-(i+1),by omega,rfl,hlt,p'⟩,λx H' y =>?_⟩
  obtain ⟨e,y⟩:=y
  subst e y
  exact hs i σ _ hlt p
 ·have e:i=n:=by omega
  subst e
  exact .inl ⟨xC _,hd σ H p⟩
theorem qu {c:TT}{tb:TS}{D:Ends}{σ:St}{H:Hp}(Pv:St->Hp->Prop)(μ:St->Hp->Nat)(h0:Pv σ H)
  (hs:∀σ H,Pv σ H->c σ H λb H1=>if b=true then tb { D with nx:=λσ' H'=>Pv σ' H' /\ μ σ' H'<μ σ H,ct:=λσ' H'=>Pv σ' H' /\ μ σ' H'<μ σ H,bk:=D.nx } σ H1 else D.nx σ H1)
  (mono:∀σ H Q Q',(∀b H1,Q b H1->Q' b H1)->c σ H Q->c σ H Q'):qo c tb D σ H:=by
 refine ⟨λm σ H=>m=μ σ H/\Pv σ H,⟨_,rfl,h0⟩,?_⟩
 rintro m σ H ⟨rfl,p⟩
 refine mono σ H _ _ (λb H1 q =>?_) (hs σ H p)
 cases b with
 | true=>exact ⟨_,λσ' H' ⟨p',l⟩=>⟨_,l,rfl,p'⟩,q⟩
 | false=>exact q
open PySem PySem.Spec PyProof.Rows
abbrev R2:=V->V->Hp->VK->Prop
def OpR (X:Cx)(f:xw->xw->Sem xw)(r:R2):Prop :=
 ∀(pins:List (Addr×Obj)) (s:xy) (σ:St) (H:Hp) (x y:V) (v u:xw) (Q:VK),Inv X pins σ H s->RelV x v->RelV y u->r x y H Q →
  x8 (x9 X.prog X.w) X.A (f v u) (EP X pins σ Q) X.xe s
def cc (X:Cx)(f:xw)(r:List V->Hp->VK->Prop):Prop :=
 ∀(pins:List (Addr×Obj)) (s:xy) (σ:St) (H:Hp) (xs:List V) (us:List xw) (Q:VK),Inv X pins σ H s->Vals xs us->r xs H Q →
  x8 (x9 X.prog X.w) X.A (call f us) (EP X pins σ Q) X.xe s
def TruR (X:Cx)(r:V->Hp->(Bool->Hp->Prop)->Prop):Prop :=
 ∀(pins:List (Addr×Obj)) (s:xy) (σ:St) (H:Hp) (x:V) (v:xw) (Q:Bool->Hp->Prop),Inv X pins σ H s->RelV x v->r x H Q →
  x8 (x9 X.prog X.w) X.A (truthy v) (TP X pins σ Q) X.xe s
def tOp (r:R2)(ta tb:TE):TE:=λσ H Q=>ta σ H λx H1=>tb σ H1 λy H2=>r x y H2 Q
def rI (C:Int->Int->Prop)(g:Int->Int->V):R2:=λx y H Q=>∃i j,x = .int i/\y = .int j/\C i j/\Q (g i j) H
def rI0 (g:Int->Int->V):R2:=λx y H Q=>∃i j,x = .int i/\y = .int j/\Q (g i j) H
section
variable  {X:Cx}{a b c:Expr}{ta tb tc:TE}{pos:Pos}
theorem vg (ha:PE X a ta)(hb:PE X b tb){pins:List (Addr×Obj)}{s:xy}{σ:St}{H:Hp}{R:V->V->Hp->Prop}(I:Inv X pins σ H s)
  (h:ta σ H λx H1=>tb σ H1 λy H2=>R x y H2) {Q:xw->xy->Prop} {f:xw->xw->Sem xw}
  (hf:∀v u s2 x y H2,Inv X pins σ H2 s2->RelV x v->RelV y u->R x y H2->x8 (x9 X.prog X.w) X.A (f v u) Q X.xe s2) :
  x8 (x9 X.prog X.w) X.A (eval a X.env) (λv s₁=>x8 (x9 X.prog X.w) X.A (eval b X.env) (λu s₂=>x8 (x9 X.prog X.w) X.A (f v u) Q X.xe s₂) X.xe s₁) X.xe s:=by
 refine thn (ha pins s σ H _ I h) λv s1 ⟨x,H1,I1,r1,q1⟩ =>?_
 refine thn (hb pins s1 σ H1 _ I1 q1) λu s2 ⟨y,H2,I2,r2,q2⟩ =>?_
 exact hf v u s2 x y H2 I2 r1 r2 q2
theorem aF {op:Operator}{r:R2}(ho:OpR X (binaryOp op) r)(ha:PE X a ta)(hb:PE X b tb):PE X (.BinOp a op b pos) (tOp r ta tb):=by
 intro pins s σ H Q I h
 exact wpAny_BinOp (vg ha hb I h λv u s2 x y H2 I2 rx ry q=>ho pins s2 σ H2 x y v u Q I2 rx ry q)
theorem opI {f:xw->xw->Sem xw}{C:Int->Int->Prop}{g:Int->Int->Int}
  (rule:∀(i j:Int) (t u:Tok) (s:xy) (Q:xw->xy->Prop) (E:xw->xy->Prop),C i j->Q (.int (g i j) s.toks) { s with toks:=s.toks+1 }->x8 (x9 X.prog X.w) X.A (f (.int i t) (.int j u)) Q E s) :
  OpR X f (rI C λi j =>.int (g i j)):=by
 intro pins s σ H x y v u Q I rx ry h
 obtain ⟨i,j,rfl,rfl,hc,q⟩:=h
 obtain ⟨t,rfl⟩:=rx
 obtain ⟨t',rfl⟩:=ry
 exact rule i j t t' s _ _ hc ⟨.int (g i j),H,I.tok _,⟨_,rfl⟩,q⟩
theorem wB {f:xw->xw->Sem xw}{g:Int->Int->Int}
  (rule:∀(i j:Int) (t u:Tok) (s:xy) (Q:xw->xy->Prop) (E:xw->xy->Prop),Q (.int (g i j) s.toks) { s with toks:=s.toks+1 }->x8 (x9 X.prog X.w) X.A (f (.int i t) (.int j u)) Q E s) :
  OpR X f (rI0 λi j =>.int (g i j)):=by
 intro pins s σ H x y v u Q I rx ry h
 obtain ⟨i,j,rfl,rfl,q⟩:=h
 obtain ⟨t,rfl⟩:=rx
 obtain ⟨t',rfl⟩:=ry
 exact rule i j t t' s _ _ ⟨.int (g i j),H,I.tok _,⟨_,rfl⟩,q⟩
theorem vh {f:xw->xw->Sem xw}{g:Int->Int->Bool}
  (rule:∀(i j:Int) (t u:Tok) (s:xy) (Q:xw->xy->Prop) (E:xw->xy->Prop),Q (.bool (g i j)) s->x8 (x9 X.prog X.w) X.A (f (.int i t) (.int j u)) Q E s) :
  OpR X f (rI0 λi j =>.bl (g i j)):=by
 intro pins s σ H x y v u Q I rx ry h
 obtain ⟨i,j,rfl,rfl,q⟩:=h
 obtain ⟨t,rfl⟩:=rx
 obtain ⟨t',rfl⟩:=ry
 exact rule i j t t' s _ _ ⟨.bl (g i j),H,I,rfl,q⟩
def CDiv (i j:Int):Prop:=0<j/\j<1073741824
def CPow (i j:Int):Prop:=0<=j/\j<=1000000/\i.natAbs<2 ^ 64
def vi (i j:Int):Prop:=(-(2 ^ 64)<i/\i<2 ^ 64)\/(-(2 ^ 64)<j/\j<2 ^ 64)
theorem vi.ok {i j:Int}(h:vi i j):IntMulOk i j:=by
 rcases h with ⟨h1,h2⟩ | ⟨h1,h2⟩
 ·exact .of_left (intBits_le_64 h1 h2)
 ·exact .of_right (intBits_le_64 h1 h2)
theorem cf:OpR X (binaryOp .Add) (rI0 λi j =>.int (i+j)):=wB λ_ _ _ _ _ _ _ q=>add_int q
theorem vj:OpR X (binaryOp .Sub) (rI0 λi j =>.int (i-j)):=wB λ_ _ _ _ _ _ _ q=>sub_int q
theorem lq:OpR X (binaryOp .Mult) (rI vi λi j =>.int (i*j)):=opI λ_ _ _ _ _ _ _ hc q=>mul_int q hc.ok
theorem sP:OpR X (binaryOp .FloorDiv) (rI CDiv λi j =>.int (i/j)):=opI λi j _ _ _ _ _ hc q=>by
 have h1:(0:Int)<j:=hc.1
 have h2:j<1073741824:=hc.2
 exact floordiv_int (by omega) (by rw[B8 i (by omega)];exact q) (.inl (PyProof.noPylong_small (by omega)))
theorem f9:OpR X (binaryOp .Mod) (rI (λ_ j=>0<j) λi j =>.int (i%j)):=opI λi j _ _ _ _ _ hc q=>by
 have h1:(0:Int)<j:=hc
 exact mod_int' (by omega) (by rw[Int.fmod_eq_emod_of_nonneg i (by omega)];exact q)
theorem dM:OpR X (binaryOp .Pow) (rI CPow λi j =>.int (i ^ j.toNat)):=opI λ_ _ _ _ _ _ _ hc q=>pow_int_small hc.1 hc.2.1 hc.2.2 q
end
def wC:V->V->Bool
 | .non,.non=>true | .non,.int _=>true | .int _,.non=>true | .non,.bl _=>true | .bl _,.non=>true | .non,.str _=>true | .str _,.non=>true
 | .int _,.int _=>true | .bl _,.bl _=>true | .str _,.str _=>true | .byt _,.byt _=>true
 | .int _,.str _=>true | .str _,.int _=>true | .bl _,.str _=>true | .str _,.bl _=>true
 | _,_=>false
def rEq:R2:=λx y H Q=>wC x y=true/\Q (.bl (decide (x=y))) H
def rNe:R2:=λx y H Q=>wC x y=true/\Q (.bl (!decide (x=y))) H
theorem iI {i j:Int}:decide (V.int i=V.int j)=(i == j):=by
 rw[zC]
 simp
theorem qv {i j:Bool}:decide (V.bl i=V.bl j)=(i == j):=by
 rw[zC]
 simp
theorem nX {i j:Str}:decide (V.str i=V.str j)=(i == j):=by
 rw[zC]
 simp
theorem nY {i j:Array UInt8}:decide (V.byt i=V.byt j)=(i.toList == j.toList):=by
 rw[zC]
 cases i
 cases j
 simp
section
variable  {X:Cx}{a b c:Expr}{ta tb tc:TE}{pos:Pos}
theorem aO {pins:List (Addr×Obj)}{σ:St}{H:Hp}{s:xy}{Q:VK}{k k':Bool}(I:Inv X pins σ H s)(q:Q (.bl k) H)(e:k=k'):EP X pins σ Q (.bool k') s:=by
 subst e
 exact ⟨.bl k,H,I,rfl,q⟩
theorem eQ:OpR X (Aa .Eq) rEq:=by
 intro pins s σ H x y v u Q I rx ry h
 obtain ⟨hs,q⟩:=h
 cases x with
 | non =>
  cases rx
  cases y with
  | non=>cases ry;exact PySem.EqNone.eq_none_none (aO I q (by simp))
  | bl j=>cases ry;exact PySem.EqNone.eq_none_bool (aO I q (by simp))
  | int j=>obtain ⟨t',rfl⟩:=ry;exact PySem.EqNone.eq_none_int (aO I q (by simp))
  | str j=>obtain ⟨t',rfl⟩:=ry;exact PySem.EqNone.eq_none_str (aO I q (by simp))
  | _=>exact absurd (show false=true from hs) xN
 | bl i =>
  cases rx
  cases y with
  | non=>cases ry;exact PySem.EqNone.eq_bool_none (aO I q (by simp))
  | bl j=>cases ry;exact eq_bool (aO I q qv)
  | str j=>obtain ⟨t',rfl⟩:=ry;exact Em (aO I q (by simp))
  | _=>exact absurd (show false=true from hs) xN
 | int i =>
  obtain ⟨t,rfl⟩:=rx
  cases y with
  | non=>cases ry;exact PySem.EqNone.eq_int_none (aO I q (by simp))
  | int j=>obtain ⟨t',rfl⟩:=ry;exact eq_int (aO I q iI)
  | str j=>obtain ⟨t',rfl⟩:=ry;exact Ey (aO I q (by simp))
  | _=>exact absurd (show false=true from hs) xN
 | str i =>
  obtain ⟨t,rfl⟩:=rx
  cases y with
  | non=>cases ry;exact PySem.EqNone.eq_str_none (aO I q (by simp))
  | bl j=>cases ry;exact En (aO I q (by simp))
  | int j=>obtain ⟨t',rfl⟩:=ry;exact Ez (aO I q (by simp))
  | str j=>obtain ⟨t',rfl⟩:=ry;exact eq_str (aO I q nX)
  | _=>exact absurd (show false=true from hs) xN
 | byt i =>
  obtain ⟨t,rfl⟩:=rx
  cases y with
  | byt j=>obtain ⟨t',rfl⟩:=ry;exact PySem.W.eq_bytes (aO I q nY)
  | _=>exact absurd (show false=true from hs) xN
 | _=>cases y <;> exact absurd (show false=true from hs) xN
theorem qw:OpR X (Aa .NotEq) rNe:=by
 intro pins s σ H x y v u Q I rx ry h
 obtain ⟨hs,q⟩:=h
 cases x with
 | non =>
  cases rx
  cases y with
  | non=>cases ry;exact PySem.EqNone.ne_none_none (aO I q (by simp))
  | bl j=>cases ry;exact PySem.EqNone.ne_none_bool (aO I q (by simp))
  | int j=>obtain ⟨t',rfl⟩:=ry;exact PySem.EqNone.ne_none_int (aO I q (by simp))
  | str j=>obtain ⟨t',rfl⟩:=ry;exact PySem.EqNone.ne_none_str (aO I q (by simp))
  | _=>exact absurd (show false=true from hs) xN
 | bl i =>
  cases rx
  cases y with
  | non=>cases ry;exact PySem.EqNone.ne_bool_none (aO I q (by simp))
  | bl j=>cases ry;exact ne_bool (aO I q (congrArg not qv))
  | str j=>obtain ⟨t',rfl⟩:=ry;exact Eo (aO I q (by simp))
  | _=>exact absurd (show false=true from hs) xN
 | int i =>
  obtain ⟨t,rfl⟩:=rx
  cases y with
  | non=>cases ry;exact PySem.EqNone.ne_int_none (aO I q (by simp))
  | int j=>obtain ⟨t',rfl⟩:=ry;exact ne_int (aO I q (congrArg not iI))
  | str j=>obtain ⟨t',rfl⟩:=ry;exact EA (aO I q (by simp))
  | _=>exact absurd (show false=true from hs) xN
 | str i =>
  obtain ⟨t,rfl⟩:=rx
  cases y with
  | non=>cases ry;exact PySem.EqNone.ne_str_none (aO I q (by simp))
  | bl j=>cases ry;exact Ep (aO I q (by simp))
  | int j=>obtain ⟨t',rfl⟩:=ry;exact EB (aO I q (by simp))
  | str j=>obtain ⟨t',rfl⟩:=ry;exact ne_str (aO I q (congrArg not nX))
  | _=>exact absurd (show false=true from hs) xN
 | byt i =>
  obtain ⟨t,rfl⟩:=rx
  cases y with
  | byt j=>obtain ⟨t',rfl⟩:=ry;exact PySem.W.ne_bytes (aO I q (congrArg not nY))
  | _=>exact absurd (show false=true from hs) xN
 | _=>cases y <;> exact absurd (show false=true from hs) xN
theorem qx:OpR X (Aa .Lt) (rI0 λi j =>.bl (decide (i<j))):=vh λ_ _ _ _ _ _ _ q=>lt_int q
theorem qy:OpR X (Aa .Gt) (rI0 λi j =>.bl (decide (j<i))):=vh λ_ _ _ _ _ _ _ q=>gt_int q
theorem wD:OpR X (Aa .GtE) (rI0 λi j =>.bl (decide (j<=i))):=vh λ_ _ _ _ _ _ _ q=>ge_int q
theorem aU (b:Expr){op:CmpOp}(h:op ≠ .In:=by decide)(h2:op ≠ .NotIn:=by decide):behindInMarks op b=false:=by
 have e1:(op == CmpOp.In)=false:=by cases op <;> first | rfl | exact absurd rfl h
 have e2:(op == CmpOp.NotIn)=false:=by cases op <;> first | rfl | exact absurd rfl h2
 cases b <;> simp[behindInMarks,e1,e2]
theorem gi {op:CmpOp}{r:R2}(ho:OpR X (Aa op) r)(ha:PE X a ta)(hb:PE X b tb)(hm:behindInMarks op b=false):PE X (.Compare a [op] [b] pos) (tOp r ta tb):=by
 intro pins s σ H Q I h
 exact wpAny_Compare1 (vg ha hb I h λv u s2 x y H2 I2 rx ry q=>ho pins s2 σ H2 x y v u Q I2 rx ry q) hm
def wF (t:TE):TT:=λσ H Q=>t σ H λx H'=>∃k,x = .bl k/\Q k H'
theorem aM {op:CmpOp}{r:R2}(ho:OpR X (Aa op) r)(ha:PE X a ta)(hb:PE X b tb)(hm:behindInMarks op b=false):PT X (.Compare a [op] [b] pos) (wF (tOp r ta tb)):=by
 intro pins s σ H Q I h
 refine C5 (thn (ha pins s σ H _ I h) λv s1 ⟨x,H1,I1,r1,q1⟩=>thn (hb pins s1 σ H1 _ I1 q1) λu s2 ⟨y,H2,I2,r2,q2⟩ =>
  thn (ho pins s2 σ H2 x y v u _ I2 r1 r2 q2) λc s3 ⟨z,H3,I3,r3,k,e,q3⟩ =>?_) hm
 subst e
 cases r3
 exact zP ⟨H3,I3,q3⟩
def wG (K:xx)(x:V)(H:Hp)(k:Bool):Prop :=
 match x with
 | .non=>k=false
 | .bl b=>k=b
 | .int i=>k=(i != 0)
 | .str y=>y.length<=xG/\k=((y.length:Int) != 0)
 | .byt y=>y.size<=xG/\k=((y.size:Int) != 0)
 | .ref p=>(∃xs,SqL K H p xs/\k = !xs.isEmpty)\/(∃xs,SqT K H p xs/\k = !xs.isEmpty)\/∃kvs,H p=some (.dK kvs)/\k = !kvs.isEmpty
 | _=>False
theorem nk {κ:Type}{kvs:List (κ×V)}{vs:List (κ×xw)}(r:KV kvs vs):(!vs.isEmpty) = !kvs.isEmpty:=by
 cases r <;> rfl
theorem i8 {xs:List V}{its:List xw}(r:Vals xs its):(!its.toArray.isEmpty) = !xs.isEmpty:=by
 cases r <;> simp
theorem eR:(xG:Nat)<2 ^ 63:=by rw[sizeLine_eq];decide
theorem vk:TruR X (λx H Q=>∃k,wG X.K x H k/\Q k H):=by
 intro pins s σ H x v Q I rx h
 obtain ⟨k,e,q⟩:=h
 have hl:=eR
 have hs:xG=16777216:=sizeLine_eq
 cases x with
 | non =>
  cases rx
  have e':k=false:=e
  subst e'
  exact truthy_none ⟨H,I,q⟩
 | bl b =>
  cases rx
  have e':k=b:=e
  subst e'
  exact zP ⟨H,I,q⟩
 | int i =>
  obtain ⟨t,rfl⟩:=rx
  have e':k=(i != 0):=e
  subst e'
  exact PySem.P.truthy_int ⟨H,I,q⟩
 | str y =>
  obtain ⟨t,rfl⟩:=rx
  obtain ⟨hy,e'⟩:y.length<=xG/\k=((y.length:Int) != 0):=e
  subst e'
  exact PySem.P.truthy_str (by omega) ⟨H,I.tok _,q⟩
 | byt y =>
  obtain ⟨t,rfl⟩:=rx
  obtain ⟨hy,e'⟩:y.size<=xG/\k=((y.size:Int) != 0):=e
  subst e'
  exact PySem.W.truthy_bytes (by omega) ⟨H,I.tok _,q⟩
 | ref p =>
  cases rx
  have e':(∃xs,SqL X.K H p xs/\k = !xs.isEmpty)\/(∃xs,SqT X.K H p xs/\k = !xs.isEmpty)\/∃kvs,H p=some (.dK kvs)/\k = !kvs.isEmpty:=e
  rcases e' with ⟨xs,hx,e'⟩ | ⟨xs,hx,e'⟩ | ⟨kvs,hx,e'⟩
  ·subst e'
   obtain ⟨its,r,pl,hz⟩:=I.list hx
   have hlen:=r.length
   exact wpAny_truthy_list pl.isList (by simp only[xA];omega) ⟨H,I.tok _,by rw[i8 r];exact q⟩
  ·subst e'
   obtain ⟨its,r,pl,hz⟩:=I.tuple hx
   have hlen:=r.length
   exact truthy_tuple pl (by simp only[xA];omega) ⟨H,I.tok _,by rw[i8 r];exact q⟩
  ·subst e'
   obtain ⟨hz,hS,vs,r,m⟩:kvs.length<=xG/\(p == sysModules)=false/\∃vs,KV kvs vs/\s.heap.DictOf (bD X.prog X.w) p vs:=I.hok p _ hx
   have hlen:kvs.length=vs.length:=AF r
   exact wpAny_truthy_dict hS m (by omega) ⟨H,I.tok _,by rw[nk r];exact q⟩
 | _=>exact (show False from e).elim
theorem qz (ha:PE X a ta)(he:∀whole,isTrue a X.env whole=(do let v ← whole;standAt a.pos;Ek [v] (truthy v))) :
    PT X a (λσ H Q=>ta σ H λx H'=>∃k,wG X.K x H' k/\Q k H'):=by
  intro pins s σ H Q I h
  exact isTrue_plain (thn (ha pins s σ H _ I h) λv s1 ⟨x,H1,I1,r1,q1⟩=>vk pins s1 σ H1 x v Q I1 r1 q1) (he _)
theorem vals1 {x:V}{us:List xw}(r:Vals [x] us):∃u,us=[u]/\RelV x u:=by
 cases r with
 | cons r1 r2=>cases r2;exact ⟨_,rfl,r1⟩
theorem vals2 {x y:V}{us:List xw}(r:Vals [x,y] us):∃u w',us=[u,w']/\RelV x u/\RelV y w':=by
 cases r with
 | cons r1 r2 =>
  cases r2 with
  | cons r3 r4=>cases r4;exact ⟨_,_,rfl,r1,r3⟩
theorem oZ (hc:X.calm=true):cc X (.builtin "max") (λxs H Q=>∃i j,xs=[.int i,.int j]/\Q (.int (if j>i then j else i)) H):=by
 intro pins s σ H xs us Q I r h
 obtain ⟨i,j,rfl,q⟩:=h
 obtain ⟨u,w',rfl,⟨t,rfl⟩,⟨t',rfl⟩⟩:=vals2 r
 refine max_two_ints (I.ok.hd hc) λh' tk k=>⟨_,H,I.kept k,?_,q⟩
 by_cases hj:j>i
 ·rw[if_pos hj,if_pos hj];exact ⟨_,rfl⟩
 ·rw[if_neg hj,if_neg hj];exact ⟨_,rfl⟩
theorem o7 (hc:X.calm=true):cc X (.builtin "min") (λxs H Q=>∃i j,xs=[.int i,.int j]/\Q (.int (if j<i then j else i)) H):=by
 intro pins s σ H xs us Q I r h
 obtain ⟨i,j,rfl,q⟩:=h
 obtain ⟨u,w',rfl,⟨t,rfl⟩,⟨t',rfl⟩⟩:=vals2 r
 refine min_two_ints (I.ok.hd hc) λh' tk k=>⟨_,H,I.kept k,?_,q⟩
 by_cases hj:j<i
 ·rw[if_pos hj,if_pos hj];exact ⟨_,rfl⟩
 ·rw[if_neg hj,if_neg hj];exact ⟨_,rfl⟩
theorem o8:cc X (.type "int") (λxs H Q=>(∃i,xs=[.int i]/\Q (.int i) H)\/∃k,xs=[.bl k]/\Q (.int (if k then 1 else 0)) H):=by
 intro pins s σ H xs us Q I r h
 rcases h with ⟨i,rfl,q⟩ | ⟨k,rfl,q⟩
 ·obtain ⟨u,rfl,t,rfl⟩:=vals1 r
  exact call_int_int ⟨.int i,H,I,⟨_,rfl⟩,q⟩
 ·obtain ⟨u,rfl,r1⟩:=vals1 r
  cases r1
  exact call_int_bool ⟨.int (if k then 1 else 0),H,I.tok _,⟨_,rfl⟩,q⟩
end
open PySem PySem.Spec PyProof.Rows
structure vm (h:Heap)(x dx C:Addr)(mA:Str->Option xw):Prop where
 obj:h.get? x=some (PySem.W.instObj C dx)
 ns:h.Ns1 dx mA
 ne:dx≠x
theorem o9 {h:Heap}{dx:Addr}{mA:Str->Option xw}(n:h.Ns1 dx mA):∃od,h.get? dx=some od/\∀name,PySem.W.lookIn name od=some (mA name):=by
 obtain ⟨o,es,ep,ho,hd,hk,_,hm⟩:=n
 refine ⟨o,ho,λname =>?_⟩
 have e:=hm name
 unfold nsFind findBy at e
 rw[<- Array.find?_toList] at e
 unfold PySem.W.lookIn
 rw[hd]
 dsimp only
 split
 ·rename_i y q
  rw[q] at e
  exact congrArg some e
 ·rename_i q
  rw[q] at e
  have a:es.toList.any (·.refKey)=false:=by
   rw[List.any_eq_false]
   intro y hy
   obtain ⟨z,t,hkey⟩:=hk y (Array.mem_toList_iff.mp hy)
   simp[DictEntry.refKey,hkey]
  have a':¬ es.toList.any (·.refKey)=true:=by rw[a];exact xN
  rw[if_neg a']
  exact congrArg some e
theorem vm.look {h:Heap}{x dx C:Addr}{mA:Str->Option xw}(I:vm h x dx C mA):∃od,PySem.W.InstAt h x (PySem.W.instObj C dx) C (some od)/\∀name,PySem.W.lookIn name od=some (mA name) :=
 let ⟨od,ho,hl⟩:=o9 I.ns
 ⟨od,⟨I.obj,rfl,rfl,ho⟩,hl⟩
section
variable  {prog:xX}{w:yv}{A:yy}{E:xw->xy->Prop}{s:xy}{K:xx}{x dx C f:Addr}{mA:Str->Option xw}{name:Str}{v:xw}
end
theorem iU.some_of {v:V}{o:Option xw}(r:iU (some v) o):∃u,o=some u/\RelV v u:=by
 cases o with
 | none=>exact (show False from r).elim
 | some u=>exact ⟨u,rfl,r⟩
section
variable  {P:xX}{w:yv}{H H':Hp}{h h':Heap}{a C dx:Addr}{fs fs':List (Str×V)}
theorem sQ (hok:HOk P w H h)(e:H a=some (.ins C dx fs)):∃mA,vm h a dx C mA/\(∀f,iU (fs.lookup f) (mA f))/\PySem.Within mA (fs.map (·.1))/\fs.length<=1000/\H dx=some (.own a):=by
 obtain ⟨d,z,ne,ob,mA,n,r,q⟩:=(show aT P w H h a (.ins C dx fs) from hok a _ e)
 exact ⟨mA,⟨ob,n,ne⟩,r,q,z,d⟩
end
structure Cls (K:xx)(C:Addr):Prop where
 pg:PySem.W.plainGet K C Str.empty=true
 hd:PySem.W.hasDictIn K C=true
 po:PySem.W.plainOver K C=true
 sa:PySem.W.findIn K (.ref C) "__setattr__" = some (some (.builtin "object.__setattr__"))
theorem Cls.get {K:xx}{C:Addr}(c:Cls K C)(f:Str):PySem.W.plainGet K C f=true:=c.pg
section
variable  {X:Cx}{pins:List (Addr×Obj)}{σ:St}{H:Hp}{s:xy}{a C dx:Addr}{fs:List (Str×V)}{f:Str}{v:V}{A:yy}{E:xw->xy->Prop}
end
section
variable  {X:Cx}{o e value:Expr}{f:Str}{pos pos' tpos:Pos}{ta tv:TE}
end
section
variable  {X:Cx}{pins:List (Addr×Obj)}{σ:St}{H:Hp}{s:xy}{A:yy}{E:xw->xy->Prop}{Q:xw->xy->Prop}{c:xw}{b:Bool}
inductive gX (K:xx)(H:Hp):V->xw->Prop where
 | non:gX K H .non (.type "NoneType")
 | bl (x:Bool):gX K H (.bl x) (.type "bool")
 | int (i:Int):gX K H (.int i) (.type "int")
 | str (x:Str):gX K H (.str x) (.type "str")
 | flt (x:UInt64):gX K H (.flt x) (.type "float")
 | lst {a:Addr} {xs:List V} (e:H a=some (.lst xs)):gX K H (.ref a) (.type "list")
 | frz {a:Addr} {o:Obj} {xs:List V} (e:H a=some (.frz o (.lst xs))):gX K H (.ref a) (.type "list")
 | tup {a:Addr} {xs:List V} (e:H a=some (.tup xs)):gX K H (.ref a) (.type "tuple")
 | dK {a:Addr} {kvs:List (Key×V)} (e:H a=some (.dK kvs)):gX K H (.ref a) (.type "dict")
 | dT {a:Addr} {kvs:List (List Key×V)} (e:H a=some (.dT kvs)):gX K H (.ref a) (.type "dict")
 | ins {a C dx:Addr} {fs:List (Str×V)} (e:H a=some (.ins C dx fs)) (cl:Cls K C) (ha:PySem.W.findIn K (.ref C) "__class__" = some (some (.builtin "object.__class__")))
   (hn:PySem.W.specialIn K (.builtin "object.__class__") "__get__" = some (some (.builtin "getset_descriptor.__get__"))) (htk:PySem.W.takesIn K (.builtin "object.__class__")=some true)
   (hm:PySem.W.mroIn K C (.type "object")=some true):gX K H (.ref a) (.ref C)
theorem pe {x:V}{u t:xw}(I:Inv X pins σ H s)(rx:RelV x u)(ty:gX X.K H x t)(e:PySem.W.kitOne X.K t c=some b)(h:∀tk,Q (.bool b) { s with toks:=tk }) :
  x8 (x9 X.prog X.w) A (call (.builtin "isinstance") [u,c]) Q E s:=by
 cases ty with
 | non=>cases (show u=zA from rx);exact zu PySem.W.kitx_none I.kIn True.intro e (λz=>nomatch z) h
 | bl y=>cases (show u=Value.bool y from rx);exact zu PySem.W.kitx_bool I.kIn True.intro e (λz=>nomatch z) h
 | int i=>obtain ⟨t,q⟩:=(show ∃t,u=Ab i t from rx);cases q;exact zu PySem.W.kitx_int I.kIn True.intro e (λz=>nomatch z) h
 | str y=>obtain ⟨t,q⟩:=(show ∃t,u=Value.str y t from rx);cases q;exact zu PySem.W.kitx_str I.kIn True.intro e (λz=>nomatch z) h
 | flt y=>obtain ⟨t,q⟩:=(show ∃t,u=Value.float y t from rx);cases q;exact zu PySem.W.kitx_float I.kIn True.intro e (λz=>nomatch z) h
 | @lst a xs ea =>
  cases (show u=xV a from rx)
  obtain ⟨_,_,n,_,h1⟩:=(show aT X.prog X.w H s.heap a (.lst xs) from I.hok a _ ea)
  exact zu DH I.kIn ⟨_,h1,rfl⟩ e (λz=>nomatch z) h
 | @frz a ob xs ea =>
  cases (show u=xV a from rx)
  obtain ⟨_,_,_,n,_,h1⟩:=(show aT X.prog X.w H s.heap a (.frz ob (.lst xs)) from I.hok a _ ea)
  exact zu DH I.kIn ⟨_,h1,rfl⟩ e (λz=>nomatch z) h
 | @tup a xs ea =>
  cases (show u=xV a from rx)
  obtain ⟨_,_,_,p⟩:=(show aT X.prog X.w H s.heap a (.tup xs) from I.hok a _ ea)
  obtain ⟨o,h1,h2,_⟩:=p
  exact zu PySem.W.kitx_tuple I.kIn ⟨o,h1,h2.1⟩ e (λz=>nomatch z) h
 | @dK a kvs ea =>
  cases (show u=xV a from rx)
  obtain ⟨_,_,vs,_,p⟩:=(show aT X.prog X.w H s.heap a (.dK kvs) from I.hok a _ ea)
  obtain ⟨o,es,ep,h1,h2,_⟩:=p
  exact zu DI I.kIn ⟨o,h1,h2.1⟩ e (λz=>nomatch z) h
 | @dT a kvs ea =>
  cases (show u=xV a from rx)
  obtain ⟨_,_,xs,_,o,es,ep,h1,h2,_⟩:=(show aT X.prog X.w H s.heap a (.dT kvs) from I.hok a _ ea)
  exact zu DI I.kIn ⟨o,h1,h2.1⟩ e (λz=>nomatch z) h
 | @ins a C dx fs ea cl ha hn htk hm =>
  cases (show u=xV a from rx)
  obtain ⟨mA,O,_⟩:=sQ I.hok ea
  obtain ⟨od,J,_⟩:=O.look
  exact zu (PySem.W.kitx_own (cl.get _) cl.hd ha hn htk hm) I.kIn J e (λz=>nomatch z) h
end
open PySem PySem.Spec PyProof.Rows
structure bY (k:Nat)(A:yy):Prop where
 hd:A.handled=none
 dp:A.depth+3*k+5<recursionLimit
 un:A.units+16*k+200<cLine
theorem bY.mono {j k:Nat}{A:yy}(r:bY k A)(h:j<=k):bY j A:=⟨r.hd,by have:=r.dp;omega,by have:=r.un;omega⟩
theorem bY.deeper {k:Nat}{A:yy}(r:bY (k+1) A)(env:Env):bY k (A.deeper env) :=
 ⟨r.hd,by have:=r.dp;show A.depth+1+3*k+5<_;omega,by have:=r.un;show A.units+3+16*k+200<_;omega⟩
theorem bY.depth {k:Nat}{A:yy}(r:bY k A):A.depth<recursionLimit:=by have:=r.dp;omega
theorem bY.units {k:Nat}{A:yy}(r:bY k A):A.units+64<cLine:=by have:=r.un;omega
def tNil:TA:=λ_ H Q=>Q [] H
def wH (ta:TE)(tr:TA):TA:=λσ H Q=>ta σ H λx H1=>tr σ H1 λxs H2=>Q (x :: xs) H2
section
variable  {X:Cx}{e:Expr}{es:List Expr}{te:TE}{t:TA}{pos:Pos}
theorem ag:PA X [] tNil:=λ_ _ _ _ H Q I h=>Calls.spliced_nil ⟨[],H,I,.nil,h⟩
theorem aa (ha:PE X e te)(hr:PA X es t)(hs:yA (e :: es) X.env=(false,eval e X.env) :: yA es X.env:=by rfl):PA X (e :: es) (wH te t):=by
 intro pos pins s σ H Q I h
 rw[hs]
 show x8 _ _ (spliced ((false,eval e X.env) :: Bh pos (yA es X.env))) _ _ s
 refine Calls.spliced_cons (thn (ha pins s σ H _ I h) λu s1 ⟨x,H1,I1,r1,q1⟩ =>?_)
 exact thn (hr pos pins s1 σ H1 _ I1 q1) λus s2 ⟨xs,H2,I2,r2,q2⟩=>⟨x :: xs,H2,I2,.cons r1 r2,q2⟩
def tTup (t:TA):TE:=λσ H Q=>t σ H λxs H1=>xs.length<=xG/\∀p,H1 p=none->Q (.ref p) (upd H1 p (.tup xs))
def tLst (t:TA):TE:=λσ H Q=>t σ H λxs H1=>xs.length<=xG/\∀p,H1 p=none->Q (.ref p) (upd H1 p (.lst xs))
theorem aY {x1}(h:PA X es t):PE X (.Tuple es x1 pos) (tTup t):=by
 intro pins s σ H Q I hq
 refine wpAny_Tuple_spliced (thn (h pos pins s σ H _ I hq) λus s1 ⟨xs,H1,I1,r,z,q⟩=>⟨by rw[<- r.length];exact z,?_⟩)
 have hf:H1 s1.heap.objs.size=none:=I1.hok.fresh (xC _)
 refine ⟨.ref s1.heap.objs.size,upd H1 s1.heap.objs.size (.tup xs),I1.laid (t':=s1.toks) (λb u e=>xv _ e) (xC _) ?_,rfl,q _ hf⟩
 exact ⟨z,us,r,⟨_,xF _ rfl,⟨rfl,rfl⟩,_,rfl⟩⟩
theorem bJ (h:PA X es t):PE X (.List es pos) (tLst t):=by
 intro pins s σ H Q I hq
 refine wpAny_List_spliced (thn (h pos pins s σ H _ I hq) λus s1 ⟨xs,H1,I1,r,z,q⟩=>⟨by rw[<- r.length];exact z,?_⟩)
 have hf:H1 s1.heap.objs.size=none:=I1.hok.fresh (xC _)
 refine ⟨.ref s1.heap.objs.size,upd H1 s1.heap.objs.size (.lst xs),I1.laid (t':=s1.toks) (λb u e=>xv _ e) (xC _) ?_,rfl,q _ hf⟩
 exact ⟨z,us,0,r,xF _ rfl⟩
end
abbrev Sp:=List V->Hp->VK->XK->Prop
abbrev CXT:=List Env->Hp->xy->XK->xw->xy->Prop
structure sR (P:xX)(w:yv)(K:xx)(mg:Str->Option xw)(base:Heap)(A:yy)(outer:List Env)(s:xy)(H:Hp):Prop where
 frames:A.frames=some outer
 mod:Mod K mg base
 bs:∀b o,base.get? b=some o->s.heap.get? b=some o/\H b=none
 bsz:base.objs.size<=s.heap.objs.size
 funs:s.heap.FunFrames base outer
 frf:∀b∈frs outer,H b=none
 hok:HOk P w H s.heap
 bare:AllBare s.gens
def CE (outer:List Env)(P:xX)(w:yv)(H:Hp)(s:xy)(Q:VK)(u:xw)(s':xy):Prop :=
 ∃v H',s'.os=s.os/\AllBare s'.gens/\Un (frs outer) [] H H' s.heap s'.heap/\HOk P w H' s'.heap/\RelV v u/\Q v H'
def CR (CX:CXT)(outer:List Env)(P:xX)(w:yv)(H:Hp)(s:xy)(Q:VK)(E:XK)(r:Result)(s':xy):Prop :=
 match r with
 | .ok (.ret u)=>CE outer P w H s Q u s'
 | .ok _=>False
 | .error e=>CX outer H s E e s'
structure bF (P:xX)(w:yv)(K:xx)(mg:Str->Option xw)(base:Heap)(CX:CXT)(k:Nat)(f:Addr)(fd:yM)(ps:List Str)(sp:Sp):Prop where
 len:∀vs H Q E,sp vs H Q E->vs.length=ps.length
 run:∀(A:yy) (outer:List Env) (s:xy) (H:Hp) (args:Args) (us:List xw) (vs:List V) (Q:VK) (E:XK),bY k A->sR P w K mg base A outer s H->BindsTo s fd args (ps.zip us)->Vals vs us->sp vs H Q E →
  Bv (x9 P w) A (.call (.ref f) args) (CR CX outer P w H s Q E) s
section
variable  {X:Cx}{pins:List (Addr×Obj)}{σ:St}{H:Hp}{s s':xy}
theorem Inv.wI (I:Inv X pins σ H s):sR X.prog X.w X.K X.mg X.base X.A X.stack s H :=
 ⟨I.ok.frames,I.ok.mod,I.bs,yf I.ok.bsz I.sz,I.stack,I.k7,I.hok,I.bare⟩
theorem Inv.after {Q:VK}{u:xw}(I:Inv X pins σ H s)(h:CE X.stack X.prog X.w H s Q u s'):EP X pins σ Q u s':=by
 obtain ⟨v,H',os,bare,un,hok,r,q⟩:=h
 obtain ⟨hh,g,d,t,os'⟩:=s'
 obtain rfl:os'=s.os:=os
 exact ⟨v,H',I.call (h':=hh) (g':=g) (d':=d) (t':=t) (ch:=[]) un hok bare (λb z=>absurd z (by simp)),r,q⟩
end
def qA (sp:Sp)(dvs:List V)(E:XK)(t:TA):TE:=λσ H Q=>t σ H λvs H1=>sp (vs++dvs) H1 Q E
def Binds (K:xx)(fd:yM)(ps:List Str)(ds:List xw):Prop :=
 ∀(s:xy) (us:List xw),K.In s.heap->(us++ds).length=ps.length->BindsTo s fd ⟨us,[]⟩ (ps.zip (us++ds))
theorem Binds.all {K:xx}{fd:yM}{ps:List Str}(h:∀us:List xw,us.length=ps.length->bindArgs fd ⟨us,[]⟩=pure (ps.zip us)):Binds K fd ps []:=λs us _ hl=>by
 rw[yC] at hl ⊢
 exact .of_eq (h us hl)
def Passes (CX:CXT)(X:Cx)(E:XK):Prop:=∀(pins:List (Addr×Obj)) (σ:St) (H:Hp) (s:xy) (e:xw) (s':xy),Inv X pins σ H s->CX X.stack H s E e s'->X.xe e s'
section
variable  {X:Cx}{CX:CXT}{k:Nat}{f C:Addr}{fd:yM}{ps:List Str}{sp:Sp}{dvs:List V}{ds:List xw}{E:XK}{x m:Str}{p pos apos:Pos}{e o:Expr}{es:List Expr}{ta:TE}{t:TA}
theorem vo {pins:List (Addr×Obj)}{σ:St}{H:Hp}{s:xy}{Q:VK}{us:List xw}{vs:List V}(F:bF X.prog X.w X.K X.mg X.base CX k f fd ps sp)(hr:bY k X.A)(hb:Binds X.K fd ps ds)(hd:Vals dvs ds)(hx:Passes CX X E)
  (I:Inv X pins σ H s) (r:Vals vs us) (h:sp (vs++dvs) H Q E):x8 (x9 X.prog X.w) X.A (call (.ref f) us) (EP X pins σ Q) X.xe s:=by
 have r2:Vals (vs++dvs) (us++ds):=r.append hd
 have hl:(us++ds).length=ps.length:=by rw[<- r2.length];exact F.len _ _ _ _ h
 refine wpAny_call (Cg (F.run X.A X.stack s H ⟨us,[]⟩ (us++ds) (vs++dvs) Q E hr I.wI (hb s us I.kIn hl) r2 h) λr s' hq =>?_)
 cases r with
 | error e=>exact hx pins σ H s e s' I hq
 | ok fl =>
  cases fl with
  | ret u=>exact I.after hq
  | next=>exact False.elim hq
  | brk=>exact False.elim hq
  | cont=>exact False.elim hq
theorem nZ (F:bF X.prog X.w X.K X.mg X.base CX k f fd ps sp)(hr:bY k X.A)(hg:Gl X x)(hm:X.mg x=some (.ref f))(hk:PySem.W.keepIn X.K (.ref f)=true)(hb:Binds X.K fd ps ds)(hd:Vals dvs ds)(hx:Passes CX X E)
  (ha:PA X (e :: es) t) (hdb:(x == ("__debug__" : Str))=false:=by decide) (he:yA (e :: es) X.env=(false,eval e X.env) :: yA es X.env:=by rfl) (hpl:(Bh pos (yA es X.env)).any (·.1)=false:=by rfl) :
  PE X (.Call (.Name x p) (e :: es) [] pos) (qA sp dvs E t):=by
 intro pins s σ H Q I h
 refine As (gg I hg hm ?_ hdb)
 refine Du (h₀:=X.base) I.ok.mod.kin hk (thn (ha pos pins s σ H _ I h) λus s1 ⟨vs,H1,I1,r,q⟩=>⟨I1.kIn,?_⟩) he hpl
 exact vo F hr hb hd hx I1 r q
end
section
variable  {X:Cx}{CX:CXT}{k:Nat}{f C:Addr}{fd:yM}{ps ks:List Str}{sp:Sp}{E:XK}{x m:Str}{p pos apos kpos:Pos}{e o:Expr}{es:List Expr}{kws:List Keyword}{te ta:TE}{t tk:TA}{nm:Option Str}
variable  {g:List xw->List xw->List xw}{gV:List V->List V->List V}
end
structure aH (N P:List Str)(sc:Scope):Prop where
 kind:sc.kind = .function
 co:sc.isCoroutine=false
 gen:sc.isGenerator=false
 nd:N.Nodup
 pre:N.take P.length=P
 par:∀x∈P,sc.names.lookup x=some .local\/sc.names.lookup x=some .cell
 nofree:∀y∈sc.names,y.2 ≠ .free
theorem kj {kindOf:Str->Option NameKind}{x:Str}:∀{binds:List (Str×xw)} {m:Str->Option xw},(∀v,(x,v)∉binds)->bindL kindOf binds m x=m x
 | [],_,_=>rfl
 | (n,v) :: r,m,h=>by
  unfold bindL
  rw[kj λw hw=>h w (xO _ hw)]
  split
  ·have:x≠n:=by rintro rfl;exact h v xT
   simp[this]
  ·rfl
theorem kn {kindOf:Str->Option NameKind}{x:Str}:∀{binds:List (Str×xw)} {m:Str->Option xw},(∀v,(x,v)∉binds)->bindC kindOf binds m x=m x
 | [],_,_=>rfl
 | (n,v) :: r,m,h=>by
  unfold bindC
  rw[kn λw hw=>h w (xO _ hw)]
  split
  ·rfl
  ·have:x≠n:=by rintro rfl;exact h v xT
   simp[this]
theorem kq {kindOf:Str->Option NameKind}{x:Str}{v:xw}:∀{P:List Str} {vs:List xw} {i:Nat} {m:Str->Option xw},P.Nodup->P[i]? = some x->vs[i]? = some v->kindOf x=some .local →
  bindL kindOf (P.zip vs) m x=some v
 | [],_,_,_,_,h,_,_=>by simp at h
 | _ :: _,[],_,_,_,_,h,_=>by simp at h
 | p :: P,w :: vs,0,m,nd,h1,h2,hk=>by
  simp at h1 h2;subst h1;subst h2
  show bindL kindOf ((p,w) :: P.zip vs) m p=_
  unfold bindL
  rw[kj λv hv=>(zD.mp nd).1 (AS hv).1,if_pos hk]
  simp
 | p :: P,w :: vs,i+1,m,nd,h1,h2,hk=>by
  show bindL kindOf ((p,w) :: P.zip vs) m x=_
  unfold bindL
  exact kq (i:=i) (zD.mp nd).2 (by simpa using h1) (by simpa using h2) hk
theorem kr {kindOf:Str->Option NameKind}{x:Str}{v:xw}:∀{P:List Str} {vs:List xw} {i:Nat} {m:Str->Option xw},P.Nodup->P[i]? = some x->vs[i]? = some v->kindOf x≠some .local →
  bindC kindOf (P.zip vs) m x=some v
 | [],_,_,_,_,h,_,_=>by simp at h
 | _ :: _,[],_,_,_,_,h,_=>by simp at h
 | p :: P,w :: vs,0,m,nd,h1,h2,hk=>by
  simp at h1 h2;subst h1;subst h2
  show bindC kindOf ((p,w) :: P.zip vs) m p=_
  unfold bindC
  rw[kn λv hv=>(zD.mp nd).1 (AS hv).1,if_neg hk]
  simp
 | p :: P,w :: vs,i+1,m,nd,h1,h2,hk=>by
  show bindC kindOf ((p,w) :: P.zip vs) m x=_
  unfold bindC
  exact kr (i:=i) (zD.mp nd).2 (by simpa using h1) (by simpa using h2) hk
def start (N:List Str)(vs:List V):St:=vs.map some++yJ (N.length-vs.length) none
def eE (CX:CXT)(P:xX)(w:yv)(K:xx)(mg:Str->Option xw)(base:Heap)(N:List Str)(qual:Str)(scope:Scope)(f:Addr)(cd:xw)(A:yy)(outer:List Env)(s:xy)(H:Hp)(E:XK):Cx where
 prog:=P
 w:=w
 K:=K
 mg:=mg
 base:=base
 A:=A.deeper (envOfC qual scope s.heap.objs.size f cd)
 N:=N
 s₀:=s
 H₀:=H
 env:=envOfC qual scope s.heap.objs.size f cd
 outer:=outer
 stack:=envOfC qual scope s.heap.objs.size f cd :: outer
 ex:=[]
 calm:=true
 fn:=λ_=>true
 pn:=[]
 xe:=λe s'=>x8 (x9 P w) (A.deeper (envOfC qual scope s.heap.objs.size f cd)) (leaving (envOfC qual scope s.heap.objs.size f cd) e) (λ_ s''=>CX outer H s E e s'') (λe' s''=>CX outer H s E e' s'') s'
theorem mh {sc:Scope}{n:Nat}{x:Str}(h:sc.names.lookup x=some .cell):∃c,(cellsFrom n sc.names []).lookup x=some c:=by
 have q:=CQ sc.names n [] (.inl h)
 exact Option.isSome_iff_exists.mp q
theorem ph {CX:CXT}{P:xX}{w:yv}{K:xx}{mg:Str->Option xw}{base:Heap}{N ps:List Str}{qual:Str}{scope:Scope}{f:Addr}{cd:xw}{A:yy}{outer:List Env}{s s1:xy}{H:Hp}{E:XK}{us:List xw}{vs:List V}
  (S:aH N ps scope) (hd:A.handled=none) (e0:sR P w K mg base A outer s H) (hl:vs.length=ps.length) (r:Vals vs us)
  (x:InCallC s s.heap.objs.size (bindL (envOfC qual scope s.heap.objs.size f cd).kindOf (ps.zip us) λ_=>none) (cellsFrom (s.heap.objs.size+1) scope.names []) (bindC (envOfC qual scope s.heap.objs.size f cd).kindOf (ps.zip us) λ_=>none) s1) :
  Inv (eE CX P w K mg base N qual scope f cd A outer s H E) [] (start N vs) H s1:=by
 have hpl:ps.length<=N.length:=by have:=congrArg List.length S.pre;rw[yw] at this;omega
 obtain ⟨h1,tk,rfl,hk⟩:=x.done
 have noA:∀b:Addr,b∉(eE CX P w K mg base N qual scope f cd A outer s H E).ex:=λb z=>absurd (show b∈([]:List Addr) from z) (by simp)
 refine ⟨⟨e0.mod,S.kind,rfl,rfl,xC _,λy z c h1 h2 =>?_,λy hy =>?_,λy c _ h =>?_,λ_=>hd,Around.frames_deeper e0.frames,.inr ⟨rfl,rfl⟩,λb z=>absurd z (noA b),e0.bs,e0.bsz,λb _ _=>noA b,λb z=>absurd z (noA b),e0.funs,e0.frf⟩,
  rfl,e0.bare,Un.kept hk,⟨_,x.toInCall.ns,λi y v h1 h2 h3 =>?_⟩,λy c h=>⟨_,x.cell y c h⟩,e0.hok.fresh (xC _),λy c h =>?_,λp hp=>absurd (show p∈([]:List (Addr×Obj)) from hp) (by simp),e0.hok.kept hk,?_⟩
 ·exact name_of_addr x.apart (Af h1) (Af h2)
 ·have hy:scope.names.lookup y=some .cell\/scope.names.lookup y=some .free:=hy
  rcases hy with hy | hy
  ·exact mh hy
  ·exact absurd rfl (S.nofree _ (Af hy))
 ·exact Ao (x.above y c (Af h))
 ·have hi:i<vs.length:=by
   unfold start at h2
   by_cases hi:i<vs.length
   ·exact hi
   ·rw[A5 (by simpa using hi)] at h2
    rw[List.getElem?_replicate] at h2
    split at h2 <;> cases h2
  have ha:vs[i]? = some v:=by
   unfold start at h2
   rw[A9 (by simpa using hi),xI] at h2
   cases e:vs[i]? with
   | none=>rw[e] at h2;cases h2
   | some a=>rw[e] at h2;cases h2;rfl
  obtain ⟨u,hu,rv⟩:=r.get ha
  have hp:ps[i]? = some y:=by
   rw[<- S.pre,zx (by omega)];exact h1
  have ndP:ps.Nodup:=by rw[<- S.pre];exact S.nd.sublist (zg _ _)
  refine ⟨u,rv,?_⟩
  rcases S.par y (xD hp) with k | k
  ·exact .inl ⟨k,kq ndP hp hu k⟩
  ·obtain ⟨c,e⟩:=mh (n:=s.heap.objs.size+1) k
   refine .inr ⟨.inl k,c,e,?_⟩
   have q:=x.cell y c e
   rw[kr ndP hp hu (by show scope.names.lookup y≠_;rw[k];decide)] at q
   exact q
 ·exact e0.hok.fresh (Ao (x.above y c (Af h)))
 ·unfold start
  show _=N.length
  rw[xM,xt,CY]
  omega
theorem uz {CX:CXT}{P:xX}{w:yv}{K:xx}{mg:Str->Option xw}{base:Heap}{k:Nat}{f:Addr}{name qual:Str}{params:Arguments}{body:List Stmt}{scope:Scope}{dV kV doc pm cdv ct oc:xw}{an od:Option Addr}
  {osl:Array (Option xw)} {N ps:List Str} {sp:Sp} (lk:K.lookup f=some ⟨oc,od,.func (PySem.W.fnOf name qual params body scope dV kV doc pm an cdv ct),osl⟩) (hcd:PySem.W.codeIn K cdv qual=true) (S:aH N ps scope)
  (len:∀vs H Q E,sp vs H Q E->vs.length=ps.length)
  (hbody:∀(A:yy) (outer:List Env) (s:xy) (H:Hp) (vs:List V) (Q:VK) (E:XK),bY k (A.deeper (envOfC qual scope s.heap.objs.size f cdv))->sp vs H Q E →
   ∃t,PSs (eE CX P w K mg base N qual scope f cdv A outer s H E) body t/\t { nx:=λ_ H'=>Q .non H',rt:=Q } (start N vs) H) :
  bF P w K mg base CX (k+1) f (PySem.W.fnOf name qual params body scope dV kV doc pm an cdv ct) ps sp:=by
 refine ⟨len,λA outer s H args us vs Q E hr e0 hb r hsp =>?_⟩
 have hl:=len _ _ _ _ hsp
 have KX:K.In s.heap:=e0.mod.kin.keeps λb o e=>(e0.bs b o e).1
 have lim:s.heap.NoLimit:=e0.mod.nolimit.keeps λb o e=>(e0.bs b o e).1
 have hkind:∀y∈ps.zip us,scope.names.lookup y.1=some .local\/(scope.names.lookup y.1=some .cell/\((cellsFrom (s.heap.objs.size+1) scope.names []).lookup y.1).isSome=true):=λ⟨n,v⟩ hy=>by
  rcases S.par n (AS hy).1 with q | q
  ·exact .inl q
  ·exact .inr ⟨q,CQ _ _ _ (.inl q)⟩
 refine codeAny_call_function hr.depth (KX _ _ lk) rfl S.co S.gen rfl (PySem.W.codeRec_of KX hcd) (hb _ _ _ _ ?_)
 refine wpAny_newFunctionEnv_cells S.kind hkind λenv he s1 x =>?_
 subst he
 refine ⟨lim.keeps x.toInCall.keep,codeAny_func ?_⟩
 obtain ⟨t,ht,hq⟩:=hbody A outer s H vs Q E (hr.deeper _) hsp
 have I:Inv (eE CX P w K mg base N qual scope f cdv A outer s H E) [] (start N vs) H s1:=ph S hr.hd e0 hl r x
 refine zk (ht [] s1 (start N vs) H _ I hq) (λfl s' hs =>?_) λe s' hs=>hs
 have fin:∀{σ':St} {H':Hp} {v:V} {u:xw},Inv (eE CX P w K mg base N qual scope f cdv A outer s H E) [] σ' H' s'->RelV v u->Q v H'->CE outer P w H s Q u s' :=
  λ{σ' H' v u} J rv q=>⟨v,H',J.os,J.bare,J.base,J.hok,rv,q⟩
 cases fl with
 | ret u =>
  obtain ⟨v,σ',H',J,rv,q⟩:=hs
  exact fin J rv q
 | next =>
  obtain ⟨σ',H',J,q⟩:=hs
  exact fin (v:=V.non) (u:=zA) J rfl q
 | brk =>
  obtain ⟨_,_,_,q⟩:=hs
  exact False.elim q
 | cont =>
  obtain ⟨_,_,_,q⟩:=hs
  exact False.elim q
open PySem PySem.Spec PyProof.Rows
section
variable  {X:Cx}{x:Str}{p pos:Pos}{e:Expr}{es:List Expr}{t:TA}{id T:String}{r:List V->Hp->VK->Prop}
def tCB (r:List V->Hp->VK->Prop)(t:TA):TE:=λσ H Q=>t σ H λvs H1=>r vs H1 Q
theorem av (hc:cc X (.builtin id) r)(hg:Gl X x)(hm:X.mg x=none)(hv:yN x=some (.builtin id))(ha:PA X (e :: es) t)(hn:x ≠ "__name__" := by decide)(hdb:(x == ("__debug__" : Str))=false:=by decide)
  (he:yA (e :: es) X.env=(false,eval e X.env) :: yA es X.env:=by rfl) (hpl:(Bh pos (yA es X.env)).any (·.1)=false:=by rfl):PE X (.Call (.Name x p) (e :: es) [] pos) (tCB r t):=by
 intro pins s σ H Q I h
 refine As (dJ I hg hm hv ?_ hn hdb)
 exact PyProof.Rows.callWith_builtin1 (thn (ha pos pins s σ H _ I h) λus s1 ⟨vs,H1,I1,r1,q1⟩=>hc pins s1 σ H1 vs us Q I1 r1 q1) he hpl
theorem aG (hc:cc X (.type T) r)(hg:Gl X x)(hm:X.mg x=none)(hv:yN x=some (.type T))(ha:PA X (e :: es) t)(hn:x ≠ "__name__" := by decide)(hdb:(x == ("__debug__" : Str))=false:=by decide)
  (he:yA (e :: es) X.env=(false,eval e X.env) :: yA es X.env:=by rfl) (hpl:(Bh pos (yA es X.env)).any (·.1)=false:=by rfl):PE X (.Call (.Name x p) (e :: es) [] pos) (tCB r t):=by
 intro pins s σ H Q I h
 refine As (dJ I hg hm hv ?_ hn hdb)
 exact AR (thn (ha pos pins s σ H _ I h) λus s1 ⟨vs,H1,I1,r1,q1⟩=>hc pins s1 σ H1 vs us Q I1 r1 q1) he hpl
end
end L2
namespace HT
open PySem PyProof.Rows
def lexLt:List Int->List Int->Bool
 | [],[]=>false
 | [],_ :: _=>true
 | _ :: _,[]=>false
 | x :: xs,y :: ys=>if x=y then lexLt xs ys else decide (x<y)
theorem bb (x y:Int)(xs ys:List Int):lexLt (x :: xs) (y :: ys)=if x=y then lexLt xs ys else decide (x<y):=rfl
theorem fU:lexLt [] []=false:=rfl
theorem i9 (y:Int)(ys:List Int):lexLt [] (y :: ys)=true:=rfl
theorem ja (x:Int)(xs:List Int):lexLt (x :: xs) []=false:=rfl
theorem qB (A:yy)(s:xy)(a:Int)(t:Tok)(c:Int)(u:Tok):∃e,AE A s (.int a t) (.int c u) e/\(e=true↔a=c) :=
 ⟨(a == c),Ap a t c u,by simp⟩
theorem gj (A:yy)(s:xy)(a:Int)(t:Tok)(c:Int)(u:Tok)(prog:xX)(w:yv)(E:xw->xy->Prop)(Q:xw->xy->Prop)(h:Q (.bool (decide (a<c))) s) :
  x8 (x9 prog w) A (richCompare .Lt (.int a t) (.int c u)) Q E s :=
 (PyProof.Rows.lt_int h:x8 (x9 prog w) A (Aa .Lt (.int a t) (.int c u)) Q E s)
section
open PySem.SeqAt
open PySem.AutoSeq1 (wpAny_loadPart')
open PySem.MeetsSeq PySem.MeetsSeq2 PySem.MeetsSeq3
theorem fV (l b:Addr)(items items2:Array xw)(n n2:Nat)(dd dd2:Option Addr)(sl sl2:Array (Option xw))(ns ms:List Int)(hi:zJ items.toList ns)(hj:zJ items2.toList ms) :
  Meets (Builtin.«tuple.__lt__» ⟨[.ref l,.ref b],[]⟩)
   (λ_ R s=>s.heap.get? l=some { cls :=.type "tuple",dict:=dd,data :=.seq items n,slots:=sl }/\s.heap.get? b=some { cls :=.type "tuple",dict:=dd2,data :=.seq items2 n2,slots:=sl2 } ∧
    R (.ok (.ret (.bool (lexLt ns ms)))) s) :=
 .of_wp λprog w A R s h=>by
  obtain ⟨hp,g,d,tk,os⟩:=s;obtain ⟨hl,hb,h⟩:=h
  have f2:=Cs
  have z1:items.size=ns.length:=by rw[<- hi.length];simp
  have z2:items2.size=ms.length:=by rw[<- hj.length];simp
  wp_walk using wpAny_loadPart' hl,wpAny_loadPart' hb,wpAny_forIn_list _ (λrest b s'=>b.1=none/\s'=⟨hp,g,d,tk,os⟩/\∃(vs ws:List xw) (ns' ms':List Int),rest=vs.zip ws ∧
   zJ vs ns'/\zJ ws ms'/\ns'.length+items2.size=ms'.length+items.size/\R (.ok (.ret (.bool (lexLt ns' ms')))) ⟨hp,g,d,tk,os⟩) _
  case turn =>
   rintro ⟨y,x⟩ rest b s' ⟨hb',rfl,vs,ws,ns',ms',hz,hvi,hwi,hlen,hR⟩
   cases hvi with
   | nil=>rw[List.zip_nil_left] at hz;cases hz
   | cons a t hvi' =>
    cases hwi with
    | nil=>rw[List.zip_nil_right] at hz;cases hz
    | cons c u hwi' =>
     rw[Bi] at hz
     injection hz with hyx hrest
     injection hyx with hy hx
     subst hy hx
     rw[bb] at hR
     simp only[yo] at hlen
     obtain ⟨e,he,hiff⟩:=qB A.in1 ⟨hp,g,d,tk,os⟩ a t c u
     refine xu (he prog w _ _ ?_)
     cases e with
     | true =>
      rw[if_pos (hiff.mp rfl)] at hR
      wp_walk
      exact ⟨rfl,rfl,_,_,_,_,hrest,hvi',hwi',by omega,hR⟩
     | false =>
      rw[if_neg (λq=>absurd (hiff.mpr q) xN)] at hR
      have hri:=gj A.in1 ⟨hp,g,d,tk,os⟩ a t c u prog w
      wp_walk using hri
      exact ⟨_,rfl,by simpa using hR⟩
  case fin =>
   rintro ⟨b1,b2⟩ s' ⟨hb',rfl,vs,ws,ns',ms',hz,hvi,hwi,hlen,hR⟩
   simp only at hb'
   subst hb'
   have hv:lexLt ns' ms'=decide (items.size<items2.size):=by
    cases hvi with
    | nil =>
     cases hwi with
     | nil =>
      simp only[Az] at hlen
      rw[fU]
      exact (decide_eq_false (by omega)).symm
     | cons c u hw =>
      simp only[Az,yo] at hlen
      rw[i9]
      exact (decide_eq_true (by omega)).symm
    | cons a t hv =>
     cases hwi with
     | nil =>
      simp only[Az,yo] at hlen
      rw[ja]
      exact (decide_eq_false (by omega)).symm
     | cons c u hw =>
      rw[Bi] at hz
      cases hz
   rw[hv] at hR
   wp_walk
   exact ⟨_,rfl,by simpa [Builtin.Tuple.tupleCompareSizes] using hR⟩
  case h =>
   exact ⟨rfl,rfl,items.toList,items2.toList,ns,ms,rfl,hi,hj,by omega,h⟩
end
section
variable  {prog:xX}{w:yv}{A:yy}{E:xw->xy->Prop}{s:xy}
theorem nr {l b:Addr}{items items2:Array xw}{ns ms:List Int}{Q:xw->xy->Prop}(hl:IsTup s.heap l items)(hb:IsTup s.heap b items2)(hi:zJ items.toList ns)(hj:zJ items2.toList ms)
  (hu:A.units<cLine) (h:Q (.bool (lexLt ns ms)) s):x8 (x9 prog w) A (Aa .Lt (.ref l) (.ref b)) Q E s:=by
 obtain ⟨⟨cls,dd,data,sl⟩,ho,hc,n,hd⟩:=id hl
 obtain ⟨⟨cls2,dd2,data2,sl2⟩,ho2,hc2,n2,hd2⟩:=id hb
 simp only at hc hd hc2 hd2
 subst hc hd hc2 hd2
 exact Al (op :=.Lt) ⟨_,ho,rfl⟩ ⟨_,ho2,rfl⟩ AU Bw (Bj _ _) (fV l b items items2 n n2 dd dd2 sl sl2 ns ms hi hj)
  ⟨ho,ho2,show Value.bool (lexLt ns ms)≠Value.notImplemented/\Q (.bool (lexLt ns ms)) s from ⟨(λx=>nomatch x),h⟩⟩ hu
theorem sU {t b:Addr}{vs ws:List xw}{Q:xw->xy->Prop}(ht:IsTup s.heap t vs.toArray)(hb:IsTup s.heap b ws.toArray)(hv:vs≠[])
  (h1:ws=[]->Q (.ref t) s) (h2:ws≠[]->Q (.ref s.heap.objs.size) { s with heap:=s.heap.push { cls :=.type "tuple",data :=.seq (vs++ws).toArray } })
  (hsz:vs.length+ws.length<=xG):x8 (x9 prog w) A (binaryOp .Add (.ref t) (.ref b)) Q E s:=by
 obtain ⟨⟨cls,dd,data,sl⟩,ho,hc,n,hd⟩:=id ht
 obtain ⟨⟨cls2,dd2,data2,sl2⟩,ho2,hc2,n2,hd2⟩:=id hb
 simp only at hc hd hc2 hd2
 subst hc hd hc2 hd2
 have e:vs.toArray++ws.toArray=(vs++ws).toArray:=by simp
 by_cases hw:ws=[]
 ·exact C6 ⟨_,ho,rfl⟩ ⟨_,ho2,rfl⟩ CP DD Bx Bk (Bf _ _)
   (tuple_addW1 t b vs.toArray ws.toArray n n2 dd dd2 sl sl2 (by simpa using hv) (by simp[hw])) ⟨ho,ho2,h1 hw⟩
 ·refine C6 ⟨_,ho,rfl⟩ ⟨_,ho2,rfl⟩ CP DD Bx Bk (Bf _ _)
   (tuple_addW2 t b vs.toArray ws.toArray n n2 dd dd2 sl sl2 (by simpa using hv) (by simpa using hw) (by rw[xA,xA];exact hsz)) ⟨ho,ho2,?_⟩
  rw[e]
  exact h2 hw
def sIx (n d:Nat):Option Int->Nat
 | none=>d
 | some v=>if v<0 then (v+(n:Int)).toNat else min v.toNat n
end
end HT
namespace L2
open PySem PySem.Spec PyProof.Rows
abbrev TO:=St->Hp->(Option Int->Hp->Prop)->Prop
theorem intsAre_of {ns:List Int}:∀{us:List xw},Vals (ns.map V.int) us->zJ us ns:=by
 induction ns with
 | nil=>intro us r;rw[DS] at r;cases r;exact .nil
 | cons n ns ih =>
  intro us r
  rw[xR] at r
  cases r with
  | cons r1 r2 =>
   obtain ⟨t,e⟩:=r1
   subst e
   exact .cons n t (ih r2)
section
variable  {X:Cx}{e:Expr}{te:TE}{lo hi:Option Expr}{tl th:TO}{pos p2:Pos}
def SlR (X:Cx)(r:V->Option Int->Option Int->Hp->VK->Prop):Prop :=
 ∀(pins:List (Addr×Obj)) (s:xy) (σ:St) (H:Hp) (x:V) (v vl vu:xw) (lo hi:Option Int) (sl:Addr) (Q:VK),Inv X pins σ H s->RelV x v->s.heap.IsSliceOf sl vl vu .none->IsPart vl lo->IsPart vu hi->r x lo hi H Q →
  ∃T id,typeLookup (.type T) "__getitem__" = pure (some (.builtin id))/\s.TypeIs v T/\x8 (x9 X.prog X.w) X.A (getItem v (.ref sl)) (EP X pins σ Q) X.xe s
def sV (xs:List V)(lo hi:Option Int):List V:=(xs.drop (HT.sIx xs.length 0 lo)).take (HT.sIx xs.length xs.length hi-HT.sIx xs.length 0 lo)
theorem mi (xs:List V)(lo hi:Option Int):(sV xs lo hi).length<=xs.length:=by
 unfold sV
 rw[yw,An]
 omega
def wJ (K:xx):R2:=λx y H Q=>∃a b xs ys,x = .ref a/\y = .ref b/\SqT K H a xs/\SqT K H b ys/\xs≠[]/\xs.length+ys.length<=xG ∧
 (ys=[]->Q (.ref a) H)/\(ys≠[]->∀p,H p=none->Q (.ref p) (upd H p (.tup (xs++ys))))
theorem Vals.iJ {xs:List V}{us:List xw}(r:Vals xs us):us=[]↔xs=[]:=by
 cases r with
 | nil=>simp
 | cons _ _=>simp
theorem sW:OpR X (binaryOp .Add) (wJ X.K):=by
 intro pins s σ H x y v u Q I rx ry h
 obtain ⟨a,b,xs,ys,rfl,rfl,ha,hb,hx,hz,q1,q2⟩:=h
 cases rx
 cases ry
 obtain ⟨its,r1,p1,_⟩:=I.tuple ha
 obtain ⟨its2,r2,p2,_⟩:=I.tuple hb
 refine HT.sU p1 p2 (λz=>hx (r1.iJ.mp z)) (λz=>⟨.ref a,H,I,rfl,q1 (r2.iJ.mp z)⟩) (λz =>?_) (by rw[<- r1.length, <- r2.length];exact hz)
 refine ⟨.ref s.heap.objs.size,_,I.laid (t':=s.toks) (o :=.tup (xs++ys)) (λb ob q=>xv _ q) (xC _) ?_,rfl,q2 (λw=>z (r2.iJ.mpr w)) _ (I.hok.fresh (xC _))⟩
 exact ⟨by rw[xM];exact hz,_,r1.append r2,dI.new _ _⟩
end
open PySem PySem.Spec PyProof.Rows
def ixN (n:Nat)(i:Int):Option Nat:=if 0<=i then (if i<n then some i.toNat else none) else if -(n:Int)<=i then some (i+n).toNat else none
def atI {α:Type}(xs:List α)(i:Int):Option α:=(ixN xs.length i).bind λj=>xs[j]?
theorem n5 {n:Nat}{i:Int}{j:Nat}(h:ixN n i=some j):seqIndex? i n=some j/\j<n /\ -(n:Int)<=i/\i<n:=by
 unfold ixN at h
 by_cases h0:0<=i
 ·rw[if_pos h0] at h
  by_cases h1:i<n
  ·rw[if_pos h1] at h
   have e:i.toNat=j:=ym h
   exact ⟨by rw[Ei h0 h1,e],by omega,by omega,h1⟩
  ·rw[if_neg h1] at h;cases h
 ·rw[if_neg h0] at h
  by_cases h1 : -(n:Int)<=i
  ·rw[if_pos h1] at h
   have e:(i+n).toNat=j:=ym h
   exact ⟨by rw[DT (by omega) h1,e],by omega,h1,by omega⟩
  ·rw[if_neg h1] at h;cases h
theorem n6 {α:Type}{xs:List α}{i:Int}{v:α}(h:atI xs i=some v):∃j,seqIndex? i xs.length=some j/\xs[j]? = some v/\j<xs.length /\ -(xs.length:Int)<=i/\i<xs.length:=by
 unfold atI at h
 cases e:ixN xs.length i with
 | none=>rw[e] at h;cases h
 | some j =>
  rw[e] at h
  obtain ⟨h1,h2,h3,h4⟩:=n5 e
  exact ⟨j,h1,h,h2,h3,h4⟩
theorem cX {α:Type}{xs:List α}{j:Nat}{v:α}(h:xs[j]? = some v):atI xs (j:Int)=some v:=by
 have hj:j<xs.length:=(xB.mp h).1
 have e:ixN xs.length (j:Int)=some j:=by
  unfold ixN
  rw[if_pos (by omega),if_pos (by omega)];simp
 unfold atI;rw[e];exact h
def sZ (b:Expr):Prop:=∀o i,subscripted b false o i=operate [o,i] (getItem o i)
def IxR (X:Cx)(r:R2):Prop :=
 ∀(value slice:Expr) (pins:List (Addr×Obj)) (s:xy) (σ:St) (H:Hp) (x y:V) (v u:xw) (Q:VK),Inv X pins σ H s->RelV x v->RelV y u->r x y H Q →
  subscripted slice false v u=operate [v,u] (getItem v u)->x8 (x9 X.prog X.w) X.A (subscriptTail value slice v u) (EP X pins σ Q) X.xe s
def MtR (X:Cx)(id:String)(r:V->List V->Hp->VK->Prop):Prop :=
 ∀(pins:List (Addr×Obj)) (s:xy) (σ:St) (H:Hp) (x:V) (xs:List V) (v:xw) (us:List xw) (Q:VK),Inv X pins σ H s->RelV x v->Vals xs us->r x xs H Q →
  x8 (x9 X.prog X.w) X.A (call (.builtin id) (v :: us)) (EP X pins σ Q) X.xe s
section
variable  {X:Cx}{a b:Expr}{ta tb:TE}{pos:Pos}
theorem aE {r:R2}(hr:IxR X r)(ha:PE X a ta)(hb:PE X b tb)(hs:sZ b):PE X (.Subscript a b pos) (tOp r ta tb):=by
 intro pins s σ H Q I h
 exact Subscript_ (vg ha hb I h λv u s2 x y H2 I2 rx ry q=>hr a b pins s2 σ H2 x y v u Q I2 rx ry q (hs _ _))
def wK (K:xx):R2:=λx y H Q=>∃p xs i v,x = .ref p/\y = .int i/\SqL K H p xs/\atI xs i=some v/\Q v H
def wL (K:xx):R2:=λx y H Q=>∃p xs i v,x = .ref p/\y = .int i/\SqT K H p xs/\atI xs i=some v/\Q v H
theorem cB:IxR X (wK X.K):=by
 intro value slice pins s σ H x y v u Q I rx ry h hs
 obtain ⟨p,xs,i,z,rfl,rfl,hq,he,q⟩:=h
 cases rx
 obtain ⟨t,rfl⟩:=ry
 obtain ⟨its,r,pl,hz⟩:=I.list hq
 obtain ⟨j,h1,h2,h3,h4,h5⟩:=n6 he
 obtain ⟨w,ew,rw'⟩:=r.get h2
 have hl:=r.length
 have hn:=eR
 have fin:EP X pins σ Q w s:=⟨z,H,I,rw',q⟩
 by_cases h0:0<=i
 ·have hj:i.toNat=j:=by
   rw[Ei h0 h5] at h1
   exact ym h1
  exact item_listR pl.isList h0 (by omega) (by rw[hj];simpa using ew) fin hs
 ·have hj:(i+(its.toArray.size:Int)).toNat=j:=by
   rw[DT (by omega) h4] at h1
   rw[xA, <- hl]
   exact ym h1
  exact CW (x:=w) pl.isList.typeIs slot_list_getitem.lookup
   (wpAny_getItem_list_neg (Q:=λr s'=>r=w/\EP X pins σ Q r s') pl.isList (by omega) (by rw[xA] <;> omega) (by omega) (by rw[hj];simpa using ew) ⟨rfl,fin⟩) hs
theorem aK:IxR X (wL X.K):=by
 intro value slice pins s σ H x y v u Q I rx ry h hs
 obtain ⟨p,xs,i,z,rfl,rfl,hq,he,q⟩:=h
 cases rx
 obtain ⟨t,rfl⟩:=ry
 obtain ⟨its,r,pl,hz⟩:=I.tuple hq
 obtain ⟨j,h1,h2,h3,h4,h5⟩:=n6 he
 obtain ⟨w,ew,rw'⟩:=r.get h2
 have hl:=r.length
 have hn:=eR
 have fin:EP X pins σ Q w s:=⟨z,H,I,rw',q⟩
 exact CW (x:=w) pl.typeIs slot_tuple_getitem.lookup
  (getItem_tuple (j:=j) (Q:=λr s'=>r=w/\EP X pins σ Q r s') pl (by omega) (by omega) (by rw[xA, <- hl];exact h1) (by simpa using ew) ⟨rfl,fin⟩) hs
theorem nz (its:List xw)(n j:Nat)(u:xw):yk (·.setIfInBounds j u) { cls :=.type "list",data :=.seq its.toArray n }={ cls :=.type "list",data :=.seq (its.set j u).toArray n }:=by
 simp[yk]
theorem Inv.lst {pins:List (Addr×Obj)}{σ:St}{H:Hp}{s:xy}{p:Addr}{xs:List V}(I:Inv X pins σ H s)(h:H p=some (.lst xs)) :
  ∃(its:List xw) (n:Nat),Vals xs its/\s.heap.get? p=some { cls :=.type "list",data :=.seq its.toArray n }/\xs.length<=xG:=by
 obtain ⟨z,its,n,r,e⟩:=I.hok p _ h
 exact ⟨its,n,r,e,z⟩
theorem Inv.vp {pins:List (Addr×Obj)}{σ:St}{H:Hp}{s:xy}{p:Addr}{xs ys:List V}{its its':List xw}{n n':Nat}{f:Obj->Obj}(I:Inv X pins σ H s)(h:H p=some (.lst xs))
  (ho:s.heap.get? p=some { cls :=.type "list",data :=.seq its.toArray n }) (hf:f { cls :=.type "list",data :=.seq its.toArray n }={ cls :=.type "list",data :=.seq its'.toArray n' }) (r:Vals ys its') (hz:ys.length<=xG) (t:Nat) :
  Inv X pins σ (upd H p (.lst ys)) { s with heap:=s.heap.update p f,toks:=t }:=by
 have e:(s.heap.update p f).get? p=some { cls :=.type "list",data :=.seq its'.toArray n' }:=by
  rw[yn f ho (by rw[hf] <;> rfl),hf]
 refine I.write (x:=p) (e:=p) (by rw[h];trivial) (.inl rfl) (λb u hb q=>(x6 _ _ (zj hb)).trans q) ⟨_,e⟩ ?_
 exact ⟨hz,its',n',r,e⟩
def wM:V->V->V->Hp->(Hp->Prop)->Prop:=λo i v H Q=>∃p xs k j,o = .ref p/\i = .int k/\H p=some (.lst xs)/\ixN xs.length k=some j/\Q (upd H p (.lst (xs.set j v)))
theorem set_list:ve X wM:=by
 intro pins s σ H o i v ov iv u Q I ro ri rv h
 obtain ⟨p,xs,k,j,rfl,rfl,hp,hj,q⟩:=h
 cases ro
 obtain ⟨t,rfl⟩:=ri
 obtain ⟨its,n,r,ho,hz⟩:=I.lst hp
 obtain ⟨h1,h2,h3,h4⟩:=n5 hj
 have hl:=r.length
 have hn:=eR
 have I':Inv X pins σ (upd H p (.lst (xs.set j v))) { s with heap:=s.heap.update p (yk (·.setIfInBounds j u)) } :=
  I.vp hp ho (nz its n j u) (r.set rv j) (by rw[B0];exact hz) s.toks
 by_cases h0:0<=k
 ·have hk:k.toNat=j:=by
   rw[Ei h0 h4] at h1
   exact ym h1
  exact PySem.W.ki_setAt ho h0 (by omega) (by rw[xA, <- hl];exact h4) (by rw[hk];exact ⟨_,I',q⟩)
 ·have hk:(k+(its.toArray.size:Int)).toNat=j:=by
   rw[DT (by omega) h3] at h1
   rw[xA, <- hl]
   exact ym h1
  exact PySem.W.ki_setBack ho (by omega) (by rw[xA, <- hl];exact h3) (by omega) (by rw[hk];exact ⟨_,I',q⟩)
theorem ly (lo hi:Option Int)(n:Nat):(sliceBounds lo hi none n).1=((HT.sIx n 0 lo:Nat):Int)/\(sliceBounds lo hi none n).2.1=((HT.sIx n n hi:Nat):Int)/\(sliceBounds lo hi none n).2.2=1:=by
 refine ⟨?_,?_,rfl⟩
 ·cases lo with
  | none=>simp[sliceBounds,HT.sIx]
  | some i =>
   simp only[sliceBounds,HT.sIx,DY,show (1:Int)>0 by decide,if_true]
   by_cases h:i<0
   ·simp only[h,if_true] <;> omega
   ·simp only[h,if_false] <;> omega
 ·cases hi with
  | none=>simp[sliceBounds,HT.sIx]
  | some i =>
   simp only[sliceBounds,HT.sIx,DY,show (1:Int)>0 by decide,if_true]
   by_cases h:i<0
   ·simp only[h,if_true] <;> omega
   ·simp only[h,if_false] <;> omega
theorem jX (its:List xw)(lo hi:Option Int):slicePick its.toArray lo hi none=((its.drop (HT.sIx its.length 0 lo)).take (HT.sIx its.length its.length hi-HT.sIx its.length 0 lo)).toArray:=by
 obtain ⟨h1,h2,h3⟩:=ly lo hi its.toArray.size
 unfold slicePick
 rw[h1,h2,h3]
 simp only[sliceRange_one,pick_run,xA] <;> rfl
def rSlL (K:xx):V->Option Int->Option Int->Hp->VK->Prop:=λx lo hi H Q=>∃a xs,x = .ref a/\SqL K H a xs/\∀p,H p=none->Q (.ref p) (upd H p (.lst (sV xs lo hi)))
theorem sl_list:SlR X (rSlL X.K):=by
 intro pins s σ H x v vl vu lo hi sl Q I rx hs pl pu h
 obtain ⟨a,xs,rfl,hx,q⟩:=h
 cases rx
 obtain ⟨its,r,ht,hz⟩:=I.list hx
 have hlen:=r.length
 refine ⟨"list",_,slot_list_getitem.lookup,ht.isList.typeIs,?_⟩
 refine wpAny_getItem_list_slice ht.isList hs pl pu .none (by simp) ?_ (by rw[xA] <;> omega)
 rw[jX, <- hlen]
 refine ⟨.ref s.heap.objs.size,_,I.laid (t':=s.toks) (o :=.lst (sV xs lo hi)) (λb ob q=>xv _ q) (xC _) ?_,rfl,q _ (I.hok.fresh (xC _))⟩
 exact ⟨yf (mi xs lo hi) hz,_,0,(r.drop (HT.sIx xs.length 0 lo)).take (HT.sIx xs.length xs.length hi-HT.sIx xs.length 0 lo),xF _ rfl⟩
def gm:V->Bool
 | .non=>true
 | .bl _=>true
 | .int _=>true
 | .str _=>true
 | _=>false
def eqV:V->V->Bool
 | .non,.non=>true
 | .bl a,.bl b=>a == b
 | .bl a,.int b=>(if a then 1 else 0) == b
 | .int a,.bl b=>a == (if b then 1 else 0)
 | .int a,.int b=>a == b
 | .str a,.str b=>a == b
 | _,_=>false
theorem vq {A:yy}{s:xy}{y x:V}{u v:xw}(ry:RelV y u)(rx:RelV x v)(fy:gm y=true)(fx:gm x=true):AE A s u v (eqV y x):=by
 cases y with
 | non =>
  cases ry
  cases x with
  | non=>cases rx;exact B1 _
  | bl b=>cases rx;exact SeqAt.EqAt.none_bool b
  | int b=>obtain ⟨t,rfl⟩:=rx;exact SeqAt.EqAt.none_int b t
  | str b=>obtain ⟨t,rfl⟩:=rx;exact SeqAt.EqAt.none_str b t
  | _=>exact absurd (show false=true from fx) xN
 | bl a =>
  cases ry
  cases x with
  | non=>cases rx;exact SeqAt.EqAt.bool_none a
  | bl b=>cases rx;exact C9 a b
  | int b=>obtain ⟨t,rfl⟩:=rx;exact SeqAt.EqAt.bool_int a b t
  | str b=>obtain ⟨t,rfl⟩:=rx;exact SeqAt.EqAt.bool_str a b t
  | _=>exact absurd (show false=true from fx) xN
 | int a =>
  obtain ⟨t',rfl⟩:=ry
  cases x with
  | non=>cases rx;exact SeqAt.EqAt.int_none a t'
  | bl b=>cases rx;exact SeqAt.EqAt.int_bool a t' b
  | int b=>obtain ⟨t,rfl⟩:=rx;exact Ap a t' b t
  | str b=>obtain ⟨t,rfl⟩:=rx;exact Dr a t' b t
  | _=>exact absurd (show false=true from fx) xN
 | str a =>
  obtain ⟨t',rfl⟩:=ry
  cases x with
  | non=>cases rx;exact SeqAt.EqAt.str_none a t'
  | bl b=>cases rx;exact SeqAt.EqAt.str_bool a t' b
  | int b=>obtain ⟨t,rfl⟩:=rx;exact Ds a t' b t
  | str b=>obtain ⟨t,rfl⟩:=rx;exact Dv a t' b t
  | _=>exact absurd (show false=true from fx) xN
 | _=>exact absurd (show false=true from fy) xN
def eqU (x:V)(u:xw):Bool:=match u with
 | .none=>eqV .non x
 | .bool b=>eqV (.bl b) x
 | .int i _=>eqV (.int i) x
 | .str z _=>eqV (.str z) x
 | _=>false
theorem qC {x y:V}{u:xw}(r:RelV y u)(f:gm y=true):eqU x u=eqV y x:=by
 cases y with
 | non=>cases r;rfl
 | bl b=>cases r;rfl
 | int i=>obtain ⟨t,rfl⟩:=r;rfl
 | str z=>obtain ⟨t,rfl⟩:=r;rfl
 | _=>exact absurd (show false=true from f) xN
theorem gn {x:V}:∀{xs:List V} {us:List xw},Vals xs us->xs.all gm=true->us.any (eqU x)=xs.any λy=>eqV y x
 | _,_,.nil,_=>rfl
 | y :: xs,u :: us,.cons r t,f=>by
  rw[EE,yO] at f
  rw[Bl,Bl,qC r f.1,gn t f.2]
theorem eU {A:yy}{s:xy}{x:V}{v:xw}(rx:RelV x v)(fx:gm x=true):∀{xs:List V} {us:List xw},Vals xs us->xs.all gm=true->∀u∈us,AE A s u v (eqU x u)
 | _,_,.nil,_=>λu hu=>by cases hu
 | y :: xs,u :: us,.cons r t,f=>λu' hu=>by
  rw[EE,yO] at f
  rcases yj.mp hu with rfl | hu
  ·rw[qC r f.1];exact vq r rx f.1 fx
  ·exact eU rx fx t f.2 u' hu
def inV (x:V)(xs:List V):Bool:=xs.any λy=>eqV y x
def rIn (K:xx)(neg:Bool):R2:=λx y H Q=>∃p xs,y = .ref p/\(SqL K H p xs\/SqT K H p xs)/\gm x=true/\xs.all gm=true/\Q (.bl (if neg then !inV x xs else inV x xs)) H
theorem pk:OpR X (Aa .In) (rIn X.K false):=by
 intro pins s σ H x y v u Q I rx ry h
 obtain ⟨p,xs,rfl,hq,fx,fs,q⟩:=h
 cases ry
 rcases hq with hq | hq
 ·obtain ⟨its,r,pl,hz⟩:=I.list hq
  refine SeqAt.in_listAt (eqU x) pl.isList (λw hw=>eU rx fx r fs w (by simpa using hw)) ⟨.bl _,H,I,rfl,?_⟩
  rw[show its.toArray.any (eqU x)=its.any (eqU x) by simp,gn r fs]
  exact q
 ·obtain ⟨its,r,pl,hz⟩:=I.tuple hq
  refine SeqAt.in_tupleAt (eqU x) pl (λw hw=>eU rx fx r fs w (by simpa using hw)) ⟨.bl _,H,I,rfl,?_⟩
  rw[show its.toArray.any (eqU x)=its.any (eqU x) by simp,gn r fs]
  exact q
theorem lA:OpR X (Aa .NotIn) (rIn X.K true):=by
 intro pins s σ H x y v u Q I rx ry h
 obtain ⟨p,xs,rfl,hq,fx,fs,q⟩:=h
 cases ry
 rcases hq with hq | hq
 ·obtain ⟨its,r,pl,hz⟩:=I.list hq
  refine SeqAt.notIn_listAt (eqU x) pl.isList (λw hw=>eU rx fx r fs w (by simpa using hw)) ⟨.bl _,H,I,rfl,?_⟩
  rw[show its.toArray.any (eqU x)=its.any (eqU x) by simp,gn r fs]
  exact q
 ·obtain ⟨its,r,pl,hz⟩:=I.tuple hq
  refine SeqAt.notIn_tupleAt (eqU x) pl (λw hw=>eU rx fx r fs w (by simpa using hw)) ⟨.bl _,H,I,rfl,?_⟩
  rw[show its.toArray.any (eqU x)=its.any (eqU x) by simp,gn r fs]
  exact q
theorem gp:cc X (.builtin "len") (λxs H Q=>∃p ys,xs=[.ref p]/\(SqL X.K H p ys\/SqT X.K H p ys)/\Q (.int ys.length) H):=by
 intro pins s σ H xs us Q I r h
 obtain ⟨p,ys,rfl,hq,q⟩:=h
 obtain ⟨u,rfl,rx⟩:=vals1 r
 cases rx
 have hn:=eR
 rcases hq with hq | hq
 ·obtain ⟨its,r',pl,hz⟩:=I.list hq
  have hlen:=r'.length
  exact Calls.call_len_list pl.isList (by simp only[xA] <;> omega) ⟨.int ys.length,H,I.tok _,⟨s.toks+1,by rw[xA,hlen]⟩,q⟩
 ·obtain ⟨its,r',pl,hz⟩:=I.tuple hq
  have hlen:=r'.length
  exact len_tuple pl (by simp only[xA] <;> omega) ⟨.int ys.length,H,I.tok _,⟨s.toks+1,by rw[xA,hlen]⟩,q⟩
theorem dN:cc X (.type "list") (λxs H Q=>∃p ys,xs=[.ref p]/\(SqL X.K H p ys\/SqT X.K H p ys)/\∀l,H l=none->Q (.ref l) (upd H l (.lst ys))):=by
 intro pins s σ H xs us Q I r h
 obtain ⟨p,ys,rfl,hq,q⟩:=h
 obtain ⟨u,rfl,rx⟩:=vals1 r
 cases rx
 have fin:∀(its:List xw),Vals ys its->ys.length<=xG->∀(h':Heap) (c':Nat),(∀b o',s.heap.get? b=some o'->h'.get? b=some o') →
   h'.get? s.heap.objs.size=some { cls :=.type "list",dict:=none,data :=.seq its.toArray c',slots := #[] }->EP X pins σ Q (.ref s.heap.objs.size) { s with heap:=h' }:=λits r' hz h' c' kp e =>
  ⟨.ref s.heap.objs.size,_,I.laid (t':=s.toks) kp (xC _) (show aT X.prog X.w _ h' _ (.lst ys) from ⟨hz,its,c',r',e⟩),rfl,q _ (I.hok.fresh (xC _))⟩
 rcases hq with hq | hq
 ·obtain ⟨its,r',pl,hz⟩:=I.list hq
  have hlen:=r'.length
  obtain ⟨o,ho,hc,n,hd⟩:=pl.isList
  exact call_list_seq p (.inl rfl) ho hc hd (λh' c' kp e=>fin its r' hz h' c' kp e) (by simp only[xA] <;> omega)
 ·obtain ⟨its,r',pl,hz⟩:=I.tuple hq
  have hlen:=r'.length
  obtain ⟨o,ho,hc,n,hd⟩:=pl
  exact call_list_seq p (.inr rfl) ho hc hd (λh' c' kp e=>fin its r' hz h' c' kp e) (by simp only[xA] <;> omega)
theorem bh:cc X (.type "tuple") (λxs H Q=>∃p ys,xs=[.ref p]/\((SqL X.K H p ys/\∀l,H l=none->Q (.ref l) (upd H l (.tup ys)))\/(SqT X.K H p ys/\Q (.ref p) H))):=by
 intro pins s σ H xs us Q I r h
 obtain ⟨p,ys,rfl,h⟩:=h
 obtain ⟨u,rfl,rx⟩:=vals1 r
 cases rx
 rcases h with ⟨hq,q⟩ | ⟨hq,q⟩
 ·obtain ⟨its,r',pl,hz⟩:=I.list hq
  have hlen:=r'.length
  refine call_tuple_list pl.isList (λh' kp =>?_) (by simp only[xA] <;> omega)
  have I1:Inv X pins σ H { s with heap:=h' }:=I.kept (t':=s.toks) kp
  have I2:Inv X pins σ (upd H h'.objs.size (.tup ys)) { s with heap:=h'.push { cls :=.type "tuple",data :=.seq its.toArray } } :=
   I1.laid (t':=s.toks) (λb o e=>xv _ e) (xC _) (show aT X.prog X.w _ _ _ (.tup ys) from ⟨hz,its,r',dI.new _ _⟩)
  exact ⟨.ref h'.objs.size,_,I2,rfl,q _ (I1.hok.fresh (xC _))⟩
 ·obtain ⟨its,r',pl,hz⟩:=I.tuple hq
  exact call_tuple_same pl ⟨.ref p,H,I,rfl,q⟩
def tyV (K:xx)(T:String)(x:V)(H:Hp):Prop:=match x with
 | .str _=>T = "str"
 | .int _=>T = "int"
 | .ref p=>(T = "list" /\ ∃xs,SqL K H p xs)\/(T = "tuple" /\ ∃o,K.lookup p=some o/\o.cls = .type "tuple" /\ o.dict=none) ∨
   (T = "dict" /\ ((∃kvs,H p=some (.dK kvs))\/∃kvs,H p=some (.dT kvs)))\/(T = "set" /\ ∃S n,H p=some (.set S n))
 | _=>False
theorem qD {pins:List (Addr×Obj)}{σ:St}{H:Hp}{s:xy}{T:String}{x:V}{v:xw}(I:Inv X pins σ H s)(r:RelV x v)(ty:tyV X.K T x H) :
  s.TypeIs v T/\∀a,v = .ref a->∃ob,s.heap.get? a=some ob/\ob.dict=none:=by
 cases x with
 | str z =>
  obtain ⟨t,rfl⟩:=r
  cases (show T = "str" from ty)
  exact ⟨typeIs_str s z t,λ_ e=>nomatch e⟩
 | int i =>
  obtain ⟨t,rfl⟩:=r
  cases (show T = "int" from ty)
  exact ⟨ED s i t,λ_ e=>nomatch e⟩
 | ref p =>
  cases r
  rcases ty with ⟨rfl,xs,hq⟩ | ⟨rfl,o,hk,hc,hd⟩ | ⟨rfl,hk⟩ | ⟨rfl,S,n,hk⟩
  ·obtain ⟨its,_,pl,_⟩:=I.list hq
   refine ⟨pl.isList.typeIs,λa e =>?_⟩
   cases e
   obtain ⟨o,n,e,c,hd,_⟩:=pl
   exact ⟨o,e,hd⟩
  ·refine ⟨⟨o,I.kIn p o hk,hc⟩,λa e =>?_⟩
   cases e
   exact ⟨o,I.kIn _ o hk,hd⟩
  ·have z:∃o,s.heap.get? p=some o/\o.ExactDict:=by
    rcases hk with ⟨kvs,hk⟩ | ⟨kvs,hk⟩
    ·obtain ⟨_,_,_,_,o,_,_,e,ex,_⟩:=I.hok p _ hk
     exact ⟨o,e,ex⟩
    ·obtain ⟨_,_,_,_,o,_,_,e,ex,_⟩:=I.hok p _ hk
     exact ⟨o,e,ex⟩
   obtain ⟨o,e,ex⟩:=z
   refine ⟨⟨o,e,ex.1⟩,λa e2 =>?_⟩
   cases e2
   exact ⟨o,e,ex.2.1⟩
  ·obtain ⟨o,_,_,_,e,ex,_⟩:=I.hok p _ hk
   refine ⟨⟨o,e,ex.1⟩,λa e2 =>?_⟩
   cases e2
   exact ⟨o,e,ex.2.1⟩
 | _=>exact False.elim ty
def tBM0 (K:xx)(T:String)(r:V->List V->Hp->VK->Prop)(to:TE):TE:=λσ H Q=>to σ H λx H1=>tyV K T x H1/\r x [] H1 Q
def tBM (K:xx)(T:String)(r:V->List V->Hp->VK->Prop)(to:TE)(t:TA):TE:=λσ H Q=>to σ H λx H1=>tyV K T x H1/\t σ H1 λxs H2=>r x xs H2 Q
variable  {o e:Expr}{es:List Expr}{to:TE}{t:TA}{name:Str}{apos cpos:Pos}{T id:String}{r:V->List V->Hp->VK->Prop}
theorem qF (pa:PlainAttrs T)(slot:Slot T name id)(hty:typeOf (.builtin id)=pure (.type "method_descriptor"))(hm:MtR X id r)(ho:PE X o to)
  (hbase:attributeBase o name X.env (eval o X.env)=eval o X.env:=by rfl) (hline:(apos.endLine == cpos.line)=true:=by rfl):PE X (.Call (.Attribute o name apos) [] [] cpos) (tBM0 X.K T r to):=by
 intro pins s σ H Q I h
 refine wpAny_Call_method0_late hbase hline (thn (ho pins s σ H _ I h) λv s1 ⟨x,H1,I1,r1,ty,q1⟩ =>?_)
 obtain ⟨h1,h2⟩:=qD I1 r1 ty
 exact ⟨T,id,pa,slot,hty,h1,h2,CS rfl (PySem.evalArgs_none (hm pins s1 σ H1 x [] v [] Q I1 r1 .nil q1))⟩
theorem eC (pa:PlainAttrs T)(slot:Slot T name id)(hty:typeOf (.builtin id)=pure (.type "method_descriptor"))(hm:MtR X id r)(ho:PE X o to)(ha:PA X (e :: es) t)
  (hbase:attributeBase o name X.env (eval o X.env)=eval o X.env:=by rfl)
  (hfew:((Bh cpos (yA (e :: es) X.env)).all (λx => !x.1) && (backToKw cpos (keywordEach [] X.env)).all (λx=>x.1.isSome)
   && decide ((e :: es).length+([]:List Keyword).length+(if ([]:List Keyword).isEmpty then 0 else 1)<30))=true:=by rfl)
  (hline:(apos.endLine == cpos.line)=true:=by rfl) (hs:yA (e :: es) X.env=(false,eval e X.env) :: yA es X.env:=by rfl) (hplain:(Bh cpos (yA es X.env)).any (·.1)=false:=by rfl) :
  PE X (.Call (.Attribute o name apos) (e :: es) [] cpos) (tBM X.K T r to t):=by
 intro pins s σ H Q I h
 refine wpAny_Call_method_late hbase hfew hline rfl (thn (ho pins s σ H _ I h) λv s1 ⟨x,H1,I1,r1,ty,q1⟩ =>?_)
 obtain ⟨h1,h2⟩:=qD I1 r1 ty
 refine ⟨T,id,pa,slot,hty,h1,h2,?_⟩
 have hA:=ha cpos pins s1 σ H1 _ I1 q1
 rw[hs] at hA ⊢
 refine CS (by show (false || (Bh cpos (yA es X.env)).any (·.1))=false;rw[hplain] <;> rfl) (Dc ?_)
 exact thn hA λus s2 ⟨vs,H2,I2,r2,q2⟩=>hm pins s2 σ H2 x vs v us Q I2 r1 r2 q2
end
open PySem PySem.Spec PyProof.Rows
def MtM (X:Cx)(id:String)(r:V->List V->Hp->VK->Prop):Prop :=
 ∀(pins:List (Addr×Obj)) (s:xy) (σ:St) (H:Hp) (x:V) (xs:List V) (v:xw) (us:List xw) (Q:VK),Inv X pins σ H s->RelV x v->Vals xs us->r x xs H Q →
  x8 (x9 X.prog X.w) X.A (call (.builtin id) (v :: us)) (EP X pins σ Q) X.xe s
theorem Vals.one:∀{x:V} {us:List xw},Vals [x] us->∃u,us=[u]/\RelV x u
 | _,_,.cons r .nil=>⟨_,rfl,r⟩
theorem Vals.rep {xs:List V}{us:List xw}(h:Vals xs us):∀k:Nat,Vals (yJ k xs).flatten (yJ k us).flatten
 | 0 =>.nil
 | k+1=>by
  rw[zM,zM,zN,zN]
  exact Vals.append h (Vals.rep h k)
theorem foldl_rep (its:List xw):∀(k:Nat) (acc:List xw),
  List.foldl (λx1 x2=>x1++x2) acc.toArray (yJ k its.toArray)=(acc++(yJ k its).flatten).toArray
 | 0,acc=>by simp
 | k+1,acc=>by
  have e:acc.toArray++its.toArray=(acc++its).toArray:=by simp
  have e2:(acc++its)++(yJ k its).flatten=acc++(yJ (k+1) its).flatten:=by
   rw[zM,zN,yr]
  rw[<- e2, <- foldl_rep its k (acc++its), <- e,zM,D9]
section
variable  {X:Cx}{pins:List (Addr×Obj)}{σ:St}{H:Hp}{s:xy}{l b:Addr}{xs ys zs:List V}
theorem Inv.wN {its its':List xw}{n:Nat}{f:Array xw->Array xw}{t':Nat}(I:Inv X pins σ H s)(hH:H l=some (.lst xs))
  (e:s.heap.get? l=some { cls :=.type "list",data :=.seq its.toArray n }) (hf:f its.toArray=its'.toArray) (hv:Vals ys its') (hz:ys.length<=xG) :
  Inv X pins σ (upd H l (.lst ys)) { s with heap:=s.heap.update l (yk f),toks:=t' }:=by
 have q:=PySem.IsL.update e f
 rw[hf] at q
 refine I.write (x:=l) (e:=l) (by rw[hH];exact trivial) (.inl rfl) (λb' u hb hu=>(x6 s.heap (yk f) (zj hb)).trans hu) ⟨_,q⟩ ?_
 exact ⟨hz,its',_,hv,q⟩
theorem Inv.wO {its:List xw}{t':Nat}(I:Inv X pins σ H s)(hv:Vals ys its)(hz:ys.length<=xG) :
  Inv X pins σ (upd H s.heap.objs.size (.lst ys)) { s with heap:=s.heap.push { cls :=.type "list",data :=.seq its.toArray },toks:=t' } :=
 I.laid (λ_ _ q=>xv _ q) (xC _) ⟨hz,its,0,hv,xF _ rfl⟩
theorem Inv.fresh (I:Inv X pins σ H s):H s.heap.objs.size=none:=I.hok.fresh (xC _)
theorem Inv.vt (I:Inv X pins σ H s)(hH:H l=some (.lst xs)):xs.length<=xG/\∃(its:List xw) (n:Nat),Vals xs its/\xs.length=its.length/\s.heap.get? l=some { cls :=.type "list",data :=.seq its.toArray n }:=by
 obtain ⟨z,its,n,r,e⟩:=I.hok l _ hH
 exact ⟨z,its,n,r,r.length,e⟩
theorem qG {n:Nat}(h:n<=xG):Builtin.List.listTooLong n=false:=by
 unfold Builtin.List.listTooLong
 exact decide_eq_false (by omega)
end
section
variable  {X:Cx}
def tf:V->List V->Hp->VK->Prop:=λx vs H Q=>∃l xs y,x = .ref l/\vs=[y]/\H l=some (.lst xs)/\xs.length<xG/\Q .non (upd H l (.lst (xs++[y])))
theorem bW:MtM X "list.append" tf:=by
 intro pins s σ H x vs v us Q I rx rv h
 obtain ⟨l,xs,y,rfl,rfl,hH,hz,q⟩:=h
 cases rx
 obtain ⟨u,rfl,ru⟩:=rv.one
 obtain ⟨z,its,n,r,hl,e⟩:=I.vt hH
 refine BX F.slot_list_append ⟨_,e,rfl⟩ F.entry_list_append (F.args_list_append_2 _ _) (PySem.list_append l its.toArray n u (by rw[xA];omega)) ⟨e,?_⟩
 refine ⟨.non,_,I.wN (its':=its++[u]) hH e (by simp) (r.append (.cons ru .nil)) ?_,rfl,q⟩
 rw[xM,y6]
 omega
def rRep:R2:=λx y H Q=>∃l k xs,x = .ref l/\y = .int k/\H l=some (.lst xs) /\ -(2 ^ 63)<=k/\k<2 ^ 63/\xs.length*k.toNat<=xG ∧
 ∀p,H p=none->Q (.ref p) (upd H p (.lst (yJ k.toNat xs).flatten))
theorem len_rep {α:Type}(xs:List α)(k:Nat):(yJ k xs).flatten.length=k*xs.length:=by
 induction k with
 | zero=>simp
 | succ k ih=>rw[zM,zN,xM,ih,Nat.succ_mul,Nat.add_comm]
theorem vv:OpR X (binaryOp .Mult) rRep:=by
 intro pins s σ H x y v u Q I rx ry h
 obtain ⟨l,k,xs,rfl,rfl,hH,h1,h2,hz,q⟩:=h
 cases rx
 obtain ⟨t,rfl⟩:=ry
 obtain ⟨z,its,n,r,hl,e⟩:=I.vt hH
 have hlen:its.toArray.size*k.toNat<=xG:=by rw[xA, <- hl];exact hz
 have hcap:¬ its.toArray.size*k.toNat>(2 ^ 63-1)/8:=by
  have:(xG:Nat)<=(2 ^ 63-1)/8:=by decide
  omega
 have hfit:¬ (!Builtin.List.listFitsIndex k)=true:=by
  rw[fitsIndex_both h1 h2]
  exact xN
 have hlong:¬ Builtin.List.listTooLong (its.toArray.size*k.toNat)=true:=by
  rw[qG hlen]
  exact xN
 have hnew:List.foldl (λx1 x2=>x1++x2) #[] (yJ (if its.toArray.isEmpty=true then 0 else k.toNat) its.toArray)=(yJ k.toNat its).flatten.toArray:=by
  have f0:∀m:Nat,List.foldl (λx1 x2=>x1++x2) #[] (yJ m its.toArray)=(yJ m its).flatten.toArray:=λm=>by
   have:=foldl_rep its m []
   rw[B2] at this
   exact this
  rw[f0]
  cases its with
  | nil=>simp
  | cons a r'=>rw[if_neg (by simp)]
 refine wpAny_binaryOp_repeat_ref (T := "list") (U := "int") (by decide) ⟨_,e,rfl⟩ (λs'=>ED s' k t) noFill_list_mul F.fills_int_mul Ea repeat_list F.slot_int_index.lookup
  (BX Ea (ED s k t) F.entry_int_rmul (F.args_int_rmul_2 _ _) (int___rmul___int_list k t l its.toArray n)
   ⟨e,rfl,⟨_,e,rfl⟩,BX F.slot_list_mul ⟨_,e,rfl⟩ F.entry_list_mul (F.args_list_mul_2 _ _) (AutoListH.list___mul___list_int_3 l its.toArray n k t hfit hcap hlong) ⟨e,?_⟩⟩)
 rw[hnew]
 exact ⟨.ref _,_,I.wO (t':=s.toks) (r.rep k.toNat) (by rw[len_rep,Nat.mul_comm];exact hz),rfl,q _ I.fresh⟩
end
section
variable  {prog:xX}{w:yv}{A:yy}{E:xw->xy->Prop}{s:xy}
end
section
variable  {X:Cx}
end
end L2
namespace Att
open PySem PySem.W PySem.Calls PyProof.Rows
theorem iE {P:Params}{h:Heap}:∀(ns:List Int) (vs:List xw),WellAll P h vs (ns.map WData.int)->zJ vs ns:=by
 intro ns
 induction ns with
 | nil =>
  intro vs w
  rw[DS] at w
  cases w
  exact .nil
 | cons n ns ih =>
  intro vs w
  rw[xR] at w
  cases w with
  | cons a b =>
   cases a
   exact .cons _ _ (ih _ b)
theorem px {l:OpenLaw}{n:Nat}(hn:l.most=some n){P:Params}{h:Heap}{args:List WData}{vals:List xw}
  (hpre:l.row.toRowW.claim.pre args=true) (hwl:WellAll P h vals args) :
  ∃a vs ns,vals=[xV a]/\args=[WData.list (ns.map WData.int)]/\h.get? a=some { cls :=.type "list",data :=.seq vs.toArray }/\zJ vs ns/\ns.length<=n:=by
 have hsh:WShape.hasAll [] args [.list .int]=true:=(pre_splitW hpre).1
 have hc:l.pre.holds [] { args:=args }=true:=(pre_splitW hpre).2
 obtain ⟨d,r,rfl,h1,h2⟩:=hasAllW_cons hsh
 obtain rfl:=hasAllW_nil h2
 obtain ⟨xs,rfl,h3⟩:=hasW_list h1
 obtain ⟨ns,rfl⟩:=items_int h3
 have hlen:ns.length<=n:=by
  unfold OpenLaw.pre at hc
  have h4:(WTm.not (.lt (.lit (.int (n:Int))) (.len (.arg 0)))).holds [] { args:=[.list (ns.map .int)] }=true:=by
   have h4:=(holds_andW hc).1
   rw[hn] at h4
   exact h4
  have h5:=condW_of h4 (w_not (w_lt w_lit (w_len_list (w_arg rfl))))
  rw[xt] at h5
  refine CG λq =>?_
  have q':(n:Int)<((ns.length:Nat):Int):=by omega
  first
   | (rw[decide_eq_true q'] at h5;exact absurd h5 (by decide))
   | (simp at h5;omega)
 cases hwl with
 | cons w1 w2 =>
  cases w2
  cases w1 with
  | list ho hall=>exact ⟨_,_,ns,rfl,rfl,ho,iE ns _ hall,hlen⟩
theorem pA (l:OpenLaw)(args:List WData):l.row.toRowW.claim.post args (.bool true) args=true :=
 postW_of (r:=l.row.toRowW) (X:=(true == true))
  (show WShape.has [] (.bool true) .bool=true by first | rfl | decide | simp[WShape.has,WShape.arms,WShape.armsAll])
  (show (WTm.eq .res (.lit (.bool true))).value [] { args:=args,res:=some (.bool true),after:=args }=some (.bool (true == true)) from w_eq_bool (w_res rfl) w_lit) rfl
theorem mj {l:OpenLaw}{n:Nat}{q:xX}{loose:List Str}{XP:(Str->Option xw)->Heap->Prop}{YP:yv->Heap->Prop}{d:DefRec}
  (hn:l.most=some n) (hdf:d.params.defaults=[])
  (call:∀(w:yv) (s₀ s₁:xy) (mg mb:Str->Option xw) (fa:Addr) (o:Obj) (pm cd doc:xw) (a:Addr) (vs:List xw) (ns:List Int),
   Ground q loose [] XP w s₀ mg mb s₁.heap->YP w s₁.heap →
   s₁.heap.get? fa=some o->o.data = .func (docDef d.name d.params d.body d.scope pm cd doc)->s₁.heap.CodeRec cd d.name->mg d.name=some (.ref fa) →
   s₁.heap.get? a=some { cls :=.type "list",data :=.seq vs.toArray }->zJ vs ns->ns.length<=n->s₁.gens = #[] →
   Bv (x9 l.prog w) callerA (.call (.ref fa) ⟨[.ref a],[]⟩) (λr s'=>r = .ok (.ret (.bool true))/\OldK s₁.heap s'.heap/\s'.os=s₁.os/\AllBare s'.gens) s₁) :
  WalkO q loose XP YP l.row.toRowW d [] (λf vs=>PySem.call f vs):=by
 intro w s₀ s₁ mg mb G Y fa o pm cd doc dV kV ho hd hcd hD hmg hg args vals as hpre hlay hrd hwl hlo
 obtain rfl:dV = .none:=Dflts.none hD hdf
 obtain rfl:kV = .none:=Dflts.noKw hD
 obtain ⟨a,vs,ns,rfl,rfl,hobj,hints,hlen⟩:=px hn hpre hwl
 refine enter_call (Cg (call w s₀ s₁ mg mb fa o pm cd doc a vs ns G Y ho (fd_plain hd) hcd hmg hobj hints hlen hg) λr s' hq =>?_)
 obtain ⟨rfl,h2,h3,h4⟩:=hq
 exact ⟨.inl ⟨.bool true,.bool true,[],rfl,λ_=>rfl,.bool true,pA l _,λ_=>⟨List.Pairwise.nil,λ_ hm=>(nomatch hm)⟩⟩,h2,h3,h4⟩
section
variable  {prog:xX}{w:yv}{A:yy}{E:xw->xy->Prop}{s:xy}{K:Frag}
def ledger (h:Heap)(L d:Addr):List (Addr×Obj):=(yP h.objs.size).filterMap λa=>if a=L\/a=d then none else (h.get? a).map λo=>(a,o)
end
end Att
namespace L2
open PySem PySem.Spec PyProof.Rows
theorem gY:∀{vs:List xw} {ns:List Int},zJ vs ns->Vals (ns.map V.int) vs
 | _,_,.nil =>.nil
 | _,_,.cons n t h =>.cons ⟨t,rfl⟩ (gY h)
def vw (H:Hp):Prop:=∀b,H b=none\/∃o xs,H b=some (.frz o (.lst xs))
theorem qH {P:xX}{w:yv}{K:xx}{mg mb:Str->Option xw}{CX:CXT}{k:Nat}{fa a:Addr}{fd:yM}{x:Str}{sp:Sp}{s₁:xy}{vs:List xw}{ns:List Int}
  (KX:K.In s₁.heap) (hns:s₁.heap.Ns yh mg) (hb:s₁.heap.Ns builtinsNs mb) (hbb:∀x:Str,x ≠ "__name__" -> mb x=yN x) (hlim:s₁.heap.NoLimit) (hg:s₁.gens = #[])
  (ha:s₁.heap.get? a=some { cls :=.type "list",data :=.seq vs.toArray }) (hi:zJ vs ns) (hl:ns.length<=xG) (hr:bY k callerA)
  (F:∀base:Heap,K.In base->base.Ns yh mg->bF P w K mg base CX k fa fd [x] sp) (hbind:∀(s:xy) (u:xw),BindsTo s fd ⟨[u],[]⟩ [(x,u)])
  (hsp:∀H:Hp,vw H->SqL K H a (ns.map V.int)->sp [.ref a] H (λv _=>v = .bl true) λ_ _ _=>False)
  (hCX:∀H e s',CX [] H s₁ (λ_ _ _=>False) e s'->False) :
  Bv (x9 P w) callerA (.call (.ref fa) ⟨[.ref a],[]⟩) (λr s'=>r = .ok (.ret (.bool true))/\OldK s₁.heap s'.heap/\s'.os=s₁.os/\AllBare s'.gens) s₁:=by
 have rv:=gY hi
 have lenV:=hi.length
 have core:∀H:Hp,vw H->SqL K H a (ns.map V.int)->HOk P w H s₁.heap->(∀b,H b≠none->b=a)->(H a≠none->K.lookup a=none) →
   Bv (x9 P w) callerA (.call (.ref fa) ⟨[.ref a],[]⟩) (λr s'=>r = .ok (.ret (.bool true))/\OldK s₁.heap s'.heap/\s'.os=s₁.os/\AllBare s'.gens) s₁:=by
  intro H hO hS hok hA hK
  have base_of:∀{b:Addr} {o:Obj},s₁.heap.get? b=some o->H b=none->(kY s₁.heap H).get? b=some o:=λe n=>qj e n
  have noA:∀{b:Addr} {o:Obj} {es:Array DictEntry} {ep:Nat},s₁.heap.get? b=some o->o.data = .dict es ep->H b=none:=λ{b o es ep} e d=>by
   cases q:H b with
   | none=>rfl
   | some u =>
    have e':b=a:=hA b (by rw[q];simp)
    subst e'
    rw[ha] at e;cases e
    have d':Data.seq vs.toArray _=Data.dict es ep:=d
    cases d'
  have nsK:∀{b:Addr} {m:Str->Option xw},s₁.heap.Ns b m->(kY s₁.heap H).Ns b m:=λ{b m} ⟨o,es,ep,e,d,r⟩=>⟨o,es,ep,base_of e (noA e d),d,r⟩
  have hKb:K.In (kY s₁.heap H):=λb o e=>base_of (KX b o e) (by
   cases q:H b with
   | none=>rfl
   | some u =>
    have e':b=a:=hA b (by rw[q];simp)
    subst e'
    rw[hK (by rw[q];simp)] at e;cases e)
  have hM:Mod K mg (kY s₁.heap H):=⟨hKb,nsK hns,⟨mb,nsK hb,hbb⟩,let ⟨mc,h1,h2⟩:=hlim;⟨mc,nsK h1,h2⟩⟩
  have e0:sR P w K mg (kY s₁.heap H) callerA [] s₁ H:=⟨rfl,hM,λb o e=>sN e,Nat.le_of_eq (oX _ _),trivial,λb hb=>absurd (show b∈([]:List Addr) from hb) (by simp),hok,.of_eq hg⟩
  refine Cg ((F _ hKb (nsK hns)).run callerA [] s₁ H ⟨[.ref a],[]⟩ [.ref a] [.ref a] _ _ hr e0 (hbind s₁ (.ref a)) (.cons rfl .nil) (hsp H hO hS)) λr s' h =>?_
  cases r with
  | error e=>exact (hCX H e s' h).elim
  | ok fl =>
   cases fl with
   | next=>exact False.elim h
   | brk=>exact False.elim h
   | cont=>exact False.elim h
   | ret u =>
    obtain ⟨v,H',os,bare,un,hok',r',q⟩:=h
    have q':v = .bl true:=q
    subst q'
    obtain rfl:u=Value.bool true:=r'
    refine ⟨rfl,OldK.of_keep λb o e =>?_,os,bare⟩
    cases q:H b with
    | none=>exact un.keep b o e q (by intro z;exact absurd (show b∈([]:List Addr) from z) (by simp)) (by simp)
    | some u =>
     rcases hO b with z | ⟨ob,xs,z⟩
     ·rw[q] at z;cases z
     ·have z2:=un.frzs b ob _ z
      obtain ⟨e1,_⟩:=hok b _ z
      obtain ⟨e2,_⟩:=hok' b _ z2
      rw[e] at e1;cases e1
      exact e2
 cases hk:K.lookup a with
 | some o =>
  have e:=KX a o hk
  rw[ha] at e
  cases e
  refine core (λ_=>none) (λ_ =>.inl rfl) (.inr ⟨_,vs.toArray,_,hk,rfl,rfl,rfl,by rw[xA,lenV];exact hl,by simpa using rv⟩) (λb u z=>by have z':(none:Option HO)=some u:=z;cases z') (λb z=>absurd rfl z) λz=>absurd rfl z
 | none =>
  refine core (λb=>if b=a then some (.frz { cls :=.type "list",data :=.seq vs.toArray } (.lst (ns.map V.int))) else none) (λb =>?_) (.inl (.inr ⟨{ cls :=.type "list",data :=.seq vs.toArray },if_pos rfl⟩)) (λb u z =>?_) (λb z =>?_) λ_=>hk
  ·by_cases hb:b=a
   ·exact .inr ⟨_,_,if_pos hb⟩
   ·exact .inl (if_neg hb)
  ·by_cases hb:b=a
   ·have z':=(if_pos hb).symm.trans z
    cases z'
    subst hb
    exact ⟨ha,by rw[xt];exact hl,vs,_,rv,ha⟩
   ·have z':=(if_neg hb).symm.trans z
    cases z'
  ·by_cases hb:b=a
   ·exact hb
   ·exact absurd (if_neg hb) z
open PySem PySem.Spec PyProof.Rows
theorem tj {l:PySem.W.OpenLaw}{n k:Nat}{q:xX}{loose:List Str}{XP:(Str->Option xw)->Heap->Prop}{YP:yv->Heap->Prop}{d:DefRec}{K:Params->xx}{CX:yv->CXT}{sp:yv->Sp}{x:Str}
  (hn:l.most=some n) (hn2:n<=xG) (hdf:d.params.defaults=[]) (hr:bY k callerA)
  (hY:∀(w:yv) (h:Heap),YP w h->(K w.params).In h)
  (F:∀(w:yv) (mg:Str->Option xw) (fa:Addr) (h:Heap),(K w.params).In h->h.Ns yh mg->mg d.name=some (.ref fa) →
   ∃fd:yM,(∀(s:xy) (u:xw),BindsTo s fd ⟨[u],[]⟩ [(x,u)]) ∧
    ∀base:Heap,(K w.params).In base->base.Ns yh mg->bF l.prog w (K w.params) mg base (CX w) k fa fd [x] (sp w))
  (hsp:∀(w:yv) (H:Hp) (a:Addr) (ns:List Int),ns.length<=n->vw H->SqL (K w.params) H a (ns.map V.int)->sp w [.ref a] H (λv _=>v = .bl true) λ_ _ _=>False)
  (hCX:∀(w:yv) (H:Hp) (s:xy) (e:xw) (s':xy),CX w [] H s (λ_ _ _=>False) e s'->False) :
  PySem.W.WalkO q loose XP YP l.row.toRowW d [] (λf vs=>PySem.call f vs):=by
 refine Att.mj hn hdf λw s₀ s₁ mg mb fa o pm cd doc a vs ns G Y ho hd hcd hmg hobj hints hlen hg =>?_
 have KX:=hY w _ Y
 obtain ⟨fd,hb,hF⟩:=F w mg fa _ KX G.T.g hmg
 exact qH KX G.T.g G.T.b G.T.builtins G.T.nolimit hg hobj hints (yf hlen hn2) hr hF hb (λH hO hS=>hsp w H a ns hlen hO hS) λH e s'=>hCX w H s₁ e s'
open PySem PySem.Spec PyProof.Rows
def cE (s:Stmt):Arguments:=match s with
 | .FunctionDef _ a _ _ _ _ _ _ _ _=>a
 | _=>{ posonlyargs:=[],args:=[],vararg:=none,kwonlyargs:=[],kw_defaults:=[],kwarg:=none,defaults:=[] }
def bO (s:Stmt):List Stmt:=match s with
 | .FunctionDef _ _ b _ _ _ _ _ _ _=>b
 | _=>[]
def aq (s:Stmt):Scope:=match s with
 | .FunctionDef _ _ _ _ _ _ sc _ _ _=>sc
 | _=>{ kind :=.function,names:=[],isGenerator:=false,isCoroutine:=false }
abbrev CX0:CXT:=λ_ _ _ _ _ _=>False
abbrev E0:XK:=λ_ _ _=>False
theorem wQ {X:Cx}:Passes CX0 X E0:=λ_ _ _ _ _ _ _ h=>h.elim
structure Fun (K:xx)(x qual:Str)(st:Stmt)(f:Addr)(fd:yM):Prop where
 ex:∃(oc:xw) (od:Option Addr) (kV doc pm:xw) (an:Option Addr) (cdv ct:xw) (osl:Array (Option xw)),
  fd=PySem.W.fnOf x qual (cE st) (bO st) (aq st) .none kV doc pm an cdv ct/\K.lookup f=some ⟨oc,od,.func fd,osl⟩/\PySem.W.codeIn K cdv qual=true
 kp:PySem.W.keepIn K (.ref f)=true
section
variable  {P:xX}{w:yv}{K:xx}{mg:Str->Option xw}{base:Heap}
theorem Fun.ok {x qual:Str}{st:Stmt}{f:Addr}{fd:yM}{N ps:List Str}{k:Nat}{sp:Sp}(F:Fun K x qual st f fd)(S:aH N ps (aq st))(len:∀vs H Q E,sp vs H Q E->vs.length=ps.length)
  (hbody:∀(cdv:xw) (A:yy) (outer:List Env) (s:xy) (H:Hp) (vs:List V) (Q:VK) (E:XK),bY k (A.deeper (envOfC qual (aq st) s.heap.objs.size f cdv))->sp vs H Q E →
   ∃t,PSs (eE CX0 P w K mg base N qual (aq st) f cdv A outer s H E).nox (bO st) t/\t { nx:=λ_ H'=>Q .non H',rt:=Q } (start N vs) H):bF P w K mg base CX0 (k+1) f fd ps sp:=by
 obtain ⟨oc,od,kV,doc,pm,an,cdv,ct,osl,rfl,lk,hcd⟩:=F.ex
 refine uz lk hcd S len λA outer s H vs Q E hr hsp =>?_
 obtain ⟨t,h,q⟩:=hbody cdv A outer s H vs Q E hr hsp
 exact ⟨t,h.nox,q⟩
theorem Fun.binds {x qual:Str}{st:Stmt}{f:Addr}{fd:yM}{ps:List Str}(F:Fun K x qual st f fd)
  (h:∀(kV doc pm:xw) (an:Option Addr) (cdv ct:xw) (us:List xw),us.length=ps.length->bindArgs (PySem.W.fnOf x qual (cE st) (bO st) (aq st) .none kV doc pm an cdv ct) ⟨us,[]⟩=pure (ps.zip us)):Binds K fd ps []:=by
 obtain ⟨oc,od,kV,doc,pm,an,cdv,ct,osl,rfl,lk,hcd⟩:=F.ex
 exact .all (h kV doc pm an cdv ct)
theorem nA {x qual:Str}{st:Stmt}{f:Addr}{oc:xw}{od an:Option Addr}{osl:Array (Option xw)}{kV doc pm cdv ct:xw}(l:K.lookup f=some ⟨oc,od,.func (PySem.W.fnOf x qual (cE st) (bO st) (aq st) .none kV doc pm an cdv ct),osl⟩)
  (c:PySem.W.codeIn K cdv qual=true) (k:PySem.W.keepIn K (.ref f)=true):Fun K x qual st f (PySem.W.fnOf x qual (cE st) (bO st) (aq st) .none kV doc pm an cdv ct):=⟨⟨oc,od,kV,doc,pm,an,cdv,ct,osl,rfl,l,c⟩,k⟩
end
theorem iq {A:yy}{k:Nat}(hr:bY k A):A.units+1<cLine:=y3 (Bc (by decide:1<=64) _) hr.units
theorem bX {n:Nat}(h:n<=1000):n<xG:=y3 h (by decide)
section
variable  {X:Cx}
theorem pv (i:Nat){x:Str}{pos:Pos}(hN:X.N[i]? = some x:=by rfl)(hv:Vis X.env.scope x:=by first | exact Or.inl rfl | exact Or.inr (Or.inl rfl) | exact Or.inr (Or.inr rfl))(hd:(x == ("__debug__" : Str))=false:=by decide)
  (hcd:(x == ("__classdict__" : Str))=false:=by decide):PE X (.Name x pos) (we i):=u6 hN hv hd hcd
end
theorem dO {A B:Prop}(h:B):if false=true then A else B:=by
 rw[if_neg xN]
 exact h
theorem eV {A B:Prop}(h:A):if true=true then A else B:=by
 rw[if_pos rfl]
 exact h
theorem cQ {c A B:Prop}[Decidable c](h1:c->A)(h2:¬ c->B):if c then A else B:=by
 by_cases h:c
 ·rw[if_pos h]
  exact h1 h
 ·rw[if_neg h]
  exact h2 h
theorem wR {c A B:Prop}[Decidable c](hc:c)(h:B):if (!decide c)=true then A else B:=by
 rw[decide_eq_true hc]
 exact dO h
def az (H H':Hp):Prop:=∀b o,H b=some o->H' b=some o
theorem az.refl (H:Hp):az H H:=λ_ _ h=>h
theorem az.trans {H H1 H2:Hp}(a:az H H1)(b:az H1 H2):az H H2:=λc o h=>b c o (a c o h)
theorem az.free {H H':Hp}(e:az H H'){l:Addr}(h:H' l=Option.none):H l=Option.none:=by
 cases q:H l with
 | none=>rfl
 | some o =>
  rw[e l o q] at h
  cases h
theorem az.seq {K:xx}{H H':Hp}{a:Addr}{xs:List V}(e:az H H')(h:SqL K H a xs):SqL K H' a xs:=by
 rcases h with (h | ⟨o,h⟩) | h
 ·exact .inl (.inl (e _ _ h))
 ·exact .inl (.inr ⟨o,e _ _ h⟩)
 ·exact .inr h
end L2
set_option maxHeartbeats 4000000
namespace L2
open PySem PySem.Spec PyProof.Rows
def ml (on:List (Str×NameKind))(N:List Str)(sc:Scope)(N':List Str)(ix:List (Option Nat)):Bool :=
 decide (sc.kind = .function) &&
 sc.names.all (λy=>match y.2 with
  | .local=>decide (sc.names.lookup y.1=some .local)
  | .cell=>false
  | .free=>decide (on.lookup y.1=some .cell) || decide (on.lookup y.1=some .free)
  | _=>true) &&
 decide (ix.length=N'.length) &&
 (ix.zip N').all (λp=>match p.1 with
  | none=>true
  | some j=>decide (N[j]? = some p.2) && decide (sc.names.lookup p.2=some .free))
theorem ir {ns:List (Str×NameKind)}{y:Str}{k:NameKind}(h:ns.lookup y=some k):(y,k)∈ns:=Af h
structure jb (on:List (Str×NameKind))(N:List Str)(sc:Scope)(N':List Str)(ix:List (Option Nat)):Prop where
 kind:sc.kind = .function
 locs:∀y∈sc.names,y.2 = .local->sc.names.lookup y.1=some .local
 nocell:∀y∈sc.names,y.2 ≠ .cell
 frees:∀y∈sc.names,y.2 = .free->on.lookup y.1=some .cell\/on.lookup y.1=some .free
 len:ix.length=N'.length
 slot:∀(i j:Nat) (y:Str),ix[i]? = some (some j)->N'[i]? = some y->N[j]? = some y/\sc.names.lookup y=some .free
theorem jb.of {on:List (Str×NameKind)}{N:List Str}{sc:Scope}{N':List Str}{ix:List (Option Nat)}(h:ml on N sc N' ix=true):jb on N sc N' ix:=by
 unfold ml at h
 rw[yO,yO,yO] at h
 obtain ⟨⟨⟨h1,h2⟩,h3⟩,h4⟩:=h
 rw[AJ] at h2 h4
 refine ⟨of_decide_eq_true h1,λy hy e =>?_,λy hy e =>?_,λy hy e =>?_,of_decide_eq_true h3,λi j y e1 e2 =>?_⟩
 ·have q:=h2 y hy
  rw[e] at q
  exact of_decide_eq_true q
 ·have q:=h2 y hy
  rw[e] at q
  cases q
 ·have q:=h2 y hy
  rw[e] at q
  exact ((Bool.or_eq_true _ _).mp q).imp of_decide_eq_true of_decide_eq_true
 ·have q:=h4 (some j,y) (xD (i:=i) (by rw[zh];exact ⟨e1,e2⟩))
  dsimp only at q
  rw[yO] at q
  exact ⟨of_decide_eq_true q.1,of_decide_eq_true q.2⟩
theorem iu {α β:Type}(f:α -> β -> β)(b:α -> β -> Sem (ForInStep β)):∀(l:List α) (c:β),(∀x∈l,∀d,b x d=pure (.yield (f x d)))->forIn l c b=pure (l.foldl (λd x=>f x d) c)
 | [],c,_=>rfl
 | x :: l,c,h=>by
  rw[CZ,h x xT,pure_bind]
  exact iu f b l (f x c) λy hy=>h y (xO _ hy)
def aI (env:Env)(l:List (Str×NameKind))(c:List (Str×Addr)):List (Str×Addr) :=
 l.foldl (λd y=>if y.2 = .free then (y.1,(env.cells.lookup y.1).getD 0) :: d else d) c
theorem nB {sc:Scope}{env:Env}(h:∀y∈sc.names,y.2 = .free->∃c,env.cells.lookup y.1=some c):closureFor sc env=pure (aI env sc.names []):=by
 simp only[closureFor]
 unfold aI
 rw[iu (λy d=>if y.2 = .free then (y.1,(env.cells.lookup y.1).getD 0) :: d else d)]
 ·rfl
 ·rintro ⟨n,k⟩ hy d
  by_cases hk:k = .free
  ·subst hk
   obtain ⟨c,e⟩:=h _ hy rfl
   have e':env.cells.lookup n=some c:=e
   simp only[beq_self_eq_true,if_true,cellOf,e',Option.getD_some]
   rfl
  ·have hb:(k == NameKind.free)=false:=by simpa using hk
   simp only[hb,zp,if_false,hk]
theorem cF {env:Env}{y:Str}{c:Addr}:∀(l:List (Str×NameKind)) (d:List (Str×Addr)),(∀z∈l,z.2 = .free->∃c,env.cells.lookup z.1=some c)->(aI env l d).lookup y=some c →
  d.lookup y=some c\/env.cells.lookup y=some c
 | [],d,_,h =>.inl h
 | (n,k) :: l,d,hf,h=>by
  have h':(aI env l (if k = .free then (n,(env.cells.lookup n).getD 0) :: d else d)).lookup y=some c:=h
  have ih:=cF l _ (λz hz=>hf z (xO _ hz)) h'
  by_cases hk:k = .free
  ·subst hk
   rw[if_pos rfl] at ih
   rcases ih with q | q
   ·rw[yx] at q
    cases hx:(y == n) with
    | true =>
     rw[hx] at q
     obtain ⟨c',e⟩:=hf (n,.free) xT rfl
     have e':env.cells.lookup n=some c':=e
     have q':some ((env.cells.lookup n).getD 0)=some c:=q
     rw[e'] at q'
     have en:y=n:=eq_of_beq hx
     rw[en,e']
     exact .inr q'
    | false =>
     rw[hx] at q
     exact .inl q
   ·exact .inr q
  ·rw[if_neg hk] at ih
   exact ih
theorem dP {env:Env}{y:Str}:∀(l:List (Str×NameKind)) (d:List (Str×Addr)),((y,NameKind.free)∈l\/∃c,d.lookup y=some c)->∃c,(aI env l d).lookup y=some c
 | [],d,h=>by
  rcases h with h | h
  ·cases h
  ·exact h
 | (n,k) :: l,d,h=>by
  show ∃c,(aI env l (if k = .free then (n,(env.cells.lookup n).getD 0) :: d else d)).lookup y=some c
  refine dP l _ ?_
  have old:(∃c,d.lookup y=some c)->∃c,(if k = .free then (n,(env.cells.lookup n).getD 0) :: d else d).lookup y=some c:=λ⟨c,e⟩=>by
   by_cases hk:k = .free
   ·rw[if_pos hk,yx]
    cases hx:(y == n) with
    | true=>exact ⟨_,rfl⟩
    | false=>exact ⟨c,e⟩
   ·rw[if_neg hk];exact ⟨c,e⟩
  rcases h with h | h
  ·rcases yj.mp h with q | q
   ·cases q
    rw[if_pos rfl,yx,beq_self_eq_true]
    exact .inr ⟨_,rfl⟩
   ·exact .inl q
  ·exact .inr (old h)
theorem jf {c:Str->NameKind->Bool}{y:Str}:∀l:List (Str×NameKind),(l.map λz=>if c z.1 z.2=true then (z.1,NameKind.cell) else (z.1,z.2)).lookup y=(l.lookup y).map λk=>if c y k=true then NameKind.cell else k
 | []=>rfl
 | (n,k) :: l=>by
  have ih:=jf (c:=c) (y:=y) l
  rw[xR]
  have e:(if c n k=true then (n,NameKind.cell) else (n,k))=(n,if c n k=true then NameKind.cell else k):=by split <;> rfl
  show List.lookup y ((if c n k=true then (n,NameKind.cell) else (n,k)) :: _)=_
  rw[e,yx,yx]
  cases hx:(y == n) with
  | true =>
   have en:y=n:=eq_of_beq hx
   subst en
   rfl
  | false=>exact ih
def blk (X:Cx)(sc:Scope)(cl:List (Str×Addr))(C:Addr)(N':List Str)(s:xy)(H:Hp)(fp:List Addr):Cx :=
 { X with N:=N',s₀:=s,H₀:=H,env:=compEnvC sc cl C X.env,outer:=X.stack,ex:=fp,fn:=λ_=>false,pn:=[],xe:=λ_ _=>False }
def PF (X:Cx)(ifs:List Expr)(t:TT):Prop :=
  ∀(pins:List (Addr×Obj)) (s:xy) (σ:St) (H:Hp) (Q:Bool->Hp->Prop),Inv X pins σ H s->t σ H Q →
    x8 (x9 X.prog X.w) X.A (forIn ifs true λc r=>if r=true then do let ok ← isTrue c X.env (eval c X.env);pure (ForInStep.yield ok) else pure (ForInStep.yield r)) (TP X pins σ Q) X.xe s
theorem dQ {X:Cx}:PF X [] (λ_ H Q=>Q true H):=λ_ _ _ H _ I h=>wpAny_tests_nil ⟨H,I,h⟩
theorem jg {X:Cx}{c:Expr}{t:TT}(h:PT X c t):PF X [c] t:=λpins s σ H Q I q=>wpAny_tests_one (h pins s σ H Q I q)
def inner (ix:List (Option Nat))(σ:St):St:=ix.map λo=>match o with | none=>none | some j=>(σ[j]?).join
def jh (J:It)(g:TG)(tc:TT)(te:TE)(τ:St)(Q:VK)(H1:Hp):Prop:=∃W:Nat->Nat->St->List V->Hp->Prop,(∃m,W 0 m τ [] H1)/\∀i m τ ys H,W i m τ ys H →
 (J.stop i H/\ys.length<=xG/\∀l,H l=none->Q (.ref l) (upd H l (.lst ys))) ∨
 (J.go i H/\∀x H',J.yld i H x H'->g x τ H' λτ2 H2=>tc τ2 H2 λb H3=>if b=true then te τ2 H3 λy H4=>ys.length<xG/\∃m',m'<m/\W (i+1) m' τ2 (ys++[y]) H4 else ∃m',m'<m/\W (i+1) m' τ2 ys H3)
def qI (ix:List (Option Nat))(wi:TI)(g:TG)(tc:TT)(te:TE):TE:=λσ H Q=>wi σ H λJ H1=>jh J g tc te (inner ix σ) Q H1
section
variable  {X:Cx}{sc:Scope}{N':List Str}{ix:List (Option Nat)}{pins:List (Addr×Obj)}{σ:St}{H:Hp}{s:xy}
theorem vx (I:Inv X pins σ H s)(K:jb X.env.scope.names X.N sc N' ix){C:Addr}{fp:List Addr}(hC:s.heap.objs.size<=C)(f:∀b∈fp,gW X pins H b)(fl:∀b∈fp,b<s.heap.objs.size) :
  (blk X sc (aI X.env sc.names []) C N' s H fp).Ok:=by
 have hcl:∀y∈sc.names,y.2 = .free->∃c,X.env.cells.lookup y.1=some c:=λy hy e=>I.ok.has y.1 (K.frees y hy e)
 have up:∀y c,(aI X.env sc.names []).lookup y=some c->X.env.cells.lookup y=some c:=λy c e=>by
  rcases cF sc.names [] hcl e with q | q
  ·cases q
  ·exact q
 have nfs:∀b∈fp,b∉frs X.stack:=λb hb z=>by
  rcases yj.mp (I.kZ b z) with q | q
  ·exact (f b hb).2.1 q
  ·exact (f b hb).2.2.1 q
 refine ⟨I.ok.mod,K.kind,I.ok.glob,I.ok.blt,hC,λy z c h1 h2=>I.ok.inj y z c (up _ _ h1) (up _ _ h2),λy hy =>?_,(λy c h=>nomatch h),I.ok.hd,I.ok.frames,.inl rfl,λb hb =>?_,λb o e=>I.bs b o e,yf I.ok.bsz I.sz,λb o e hb =>?_,nfs,I.stack,I.k7⟩
 ·have hy':(relabel sc X.env).names.lookup y=some .cell\/(relabel sc X.env).names.lookup y=some .free:=hy
  have em:=jf (c:=λn k=>k == .free && X.env.scope.kind == .function && X.env.kindOf n == some .cell) (y:=y) sc.names
  have em':(relabel sc X.env).names.lookup y=_:=em
  rw[em'] at hy'
  cases hq:sc.names.lookup y with
  | none=>rw[hq] at hy';rcases hy' with q | q <;> cases q
  | some k =>
   have km:=ir hq
   have hk:k = .free:=by
    rw[hq] at hy'
    simp only[C0,Option.some.injEq] at hy'
    by_cases hc:(k == .free && X.env.scope.kind == .function && X.env.kindOf y == some .cell)=true
    ·rw[yO,yO] at hc
     exact by simpa using hc.1.1
    ·rw[if_neg hc] at hy'
     rcases hy' with q | q
     ·exact absurd q (K.nocell _ km)
     ·exact q
   subst hk
   exact dP sc.names [] (.inl km)
 ·exact ⟨x5 (xZ (fl b hb) hC),λy c e=>(f b hb).2.2.2.2.1 y c (up y c e)⟩
 ·rcases (f b hb).2.2.2.1 with q | q
  ·exact I.ok.noex b o e q
  ·exact absurd (xZ (xE e) (yf I.ok.bsz q)) (yV _)
theorem tm (I:Inv X pins σ H s)(K:jb X.env.scope.names X.N sc N' ix){C:Addr}{fp:List Addr}(hC:s.heap.objs.size<=C)(f:∀b∈fp,gW X pins H b)(fl:∀b∈fp,b<s.heap.objs.size)
  {h1:Heap} {t:Nat} {m:Str->Option xw} (k:∀b o,s.heap.get? b=some o->h1.get? b=some o) (ns:h1.Ns C m) :
  Inv (blk X sc (aI X.env sc.names []) C N' s H fp) [] (inner ix σ) H { s with heap:=h1,toks:=t }:=by
 have hcl:∀y∈sc.names,y.2 = .free->∃c,X.env.cells.lookup y.1=some c:=λy hy e=>I.ok.has y.1 (K.frees y hy e)
 have up:∀y c,(aI X.env sc.names []).lookup y=some c->X.env.cells.lookup y=some c:=λy c e=>by
  rcases cF sc.names [] hcl e with q | q
  ·cases q
  ·exact q
 refine ⟨vx I K hC f fl,rfl,I.bare,Un.kept k,⟨m,ns,λi y v e1 e2 e3 =>?_⟩,λy c e =>?_,I.hok.fresh hC,λy c e=>I.freeC y c (up y c e),(λp hp=>nomatch hp),I.hok.kept k,?_⟩
 ·have e2':(ix.map λo=>match o with | none=>none | some j=>(σ[j]?).join)[i]? = some (some v):=e2
  rw[xI] at e2'
  cases hi:ix[i]? with
  | none=>rw[hi] at e2';cases e2'
  | some o =>
   cases o with
   | none=>rw[hi] at e2';cases e2'
   | some j =>
    rw[hi] at e2'
    have e4:(σ[j]?).join=some v:=ym e2'
    have e5:σ[j]? = some (some v):=by
     cases hj:σ[j]? with
     | none=>rw[hj] at e4;cases e4
     | some z=>rw[hj] at e4;rw[show z=some v from e4]
    obtain ⟨n1,n2⟩:=K.slot i j y hi e1
    have mem:=ir n2
    have kc:X.env.kindOf y=some .cell\/X.env.kindOf y=some .free:=K.frees _ mem rfl
    obtain ⟨m',_,hl⟩:=I.loc
    obtain ⟨u,r,l⟩:=hl j y v n1 e5 (.inr kc)
    refine ⟨u,r,?_⟩
    rcases l with ⟨q,_⟩ | ⟨_,c,q,z⟩
    ·rcases kc with kc | kc <;> (rw[kc] at q;cases q)
    ·obtain ⟨c',hc'⟩:=dP (env:=X.env) (y:=y) sc.names [] (.inl mem)
     have:=up y c' hc'
     rw[q] at this
     cases this
     refine .inr ⟨?_,c,hc',z.keeps k⟩
     have em:=jf (c:=λn k=>k == .free && X.env.scope.kind == .function && X.env.kindOf n == some .cell) (y:=y) sc.names
     have em':(relabel sc X.env).names.lookup y=_:=em
     rcases kc with kc | kc
     ·left
      show (relabel sc X.env).names.lookup y=some .cell
      rw[em',n2]
      simp only[C0,kc,I.ok.kind]
      rfl
     ·right
      show (relabel sc X.env).names.lookup y=some .free
      rw[em',n2]
      simp only[C0,kc,I.ok.kind]
      rfl
 ·obtain ⟨v,z⟩:=I.cell y c (up y c e)
  exact ⟨v,z.keeps k⟩
 ·show (ix.map _).length=N'.length
  rw[xt]
  exact K.len
end
open PySem PySem.Spec PyProof.Rows
theorem nD {prog:xX}{w:yv}{A:yy}{R:Result->xy->Prop}{s:xy}{elt target iter:Expr}{ifs:List Expr}{sc:Scope}{pos:Pos}{it acc:xw}{env:Env}(J:Nat->xy->Prop)
    (turn:∀n s,J n s->x8 (x9 prog w) A (pyNext it) (λr s1=>match r with
      | none=>R (.ok .next) s1
      | some v=>x8 (x9 prog w) A (letOwnedTupleGo target it v) (λ_ s2=>x8 (x9 prog w) A (assign target env v) (λ_ s3 =>
          x8 (x9 prog w) A (forIn ifs true λc r=>if r=true then do let ok ← isTrue c env (eval c env);pure (ForInStep.yield ok) else pure (ForInStep.yield r)) (λok s4 =>
            if ok=true then x8 (x9 prog w) A (eval elt env) (λx s5=>x8 (x9 prog w) A (call (.builtin "list.append") [acc,x]) (λ_ s6=>∃m,m<n/\J m s6) (λ_ _=>False) s5) (λ_ _=>False) s4
            else ∃m,m<n/\J m s4) (λ_ _=>False) s3) (λ_ _=>False) s2) (λ_ _=>False) s1) (λ_ _=>False) s)
    (n:Nat) (h:J n s):Bv (x9 prog w) A (.compLoop (.ListComp elt [⟨target,iter,ifs,0⟩] sc pos) 0 it acc env) R s:=by
  refine codeAny_loop rfl J (λk t q =>?_) n h
  show x8 _ A (Sem.onRaise (compTurn (.ListComp elt [⟨target,iter,ifs,0⟩] sc pos) 0 it acc env) (λx=>do noteFrame x env;theTreesLotGoes x)) _ _ t
  refine wpAny_noted ?_
  rw[compTurn_list]
  have no:∀{E:xw->xy->Prop} (x:xw) (t:xy),False->E x t:=λ_ _ z=>z.elim
  refine xu (Br (xu (zk (turn k t q) (λr s1 h1 =>?_) no)))
  cases r with
  | none=>exact xJ h1
  | some v =>
    refine xu (zk h1 (λ_ s2 h2=>xu (zk h2 (λ_ s3 h3=>xu (zk h3 (λok s4 h4 =>?_) no)) no)) no)
    cases ok with
    | false=>exact xJ ⟨rfl,h4⟩
    | true=>exact xu (xu (zk h4 (λx s5 h5=>xu (zk h5 (λ_ s6 h6=>xJ (xJ ⟨rfl,h6⟩)) no)) no))
section
variable  {X:Cx}
def tE (X:Cx)(pins:List (Addr×Obj))(σ:St)(Q:VK)(use:Option (xw->Sem Unit))(Q2:xw->xy->Prop):Prop :=
 ∀(s4:xy) (H3:Hp) (acc C:Addr) (ys:List V) (oC:Obj),Inv X (pins++[(C,oC)]) σ (upd H3 acc (.lst ys)) s4->(∃m,s4.heap.Ns C m)->X.s₀.heap.objs.size<=C->(∀x c,X.env.cells.lookup x=some c->c≠C)->(∀p∈X.pn++pins,p.1≠C)->Q (.ref acc) (upd H3 acc (.lst ys)) →
  compPost (x9 X.prog X.w) X.A X.xe use Q2 (.ref acc) C (.ok .next) s4
theorem ku {elt target iter:Expr}{ifs:List Expr}{sc:Scope}{pos ps:Pos}{wi:TI}{g:TG}{tc:TT}{te:TE}{N':List Str}{ix:List (Option Nat)}{use:Option (xw->Sem Unit)}{Q2:xw->xy->Prop}
  {pins:List (Addr×Obj)} {s:xy} {σ:St} {H:Hp} {Q:VK}
  (hcalm:X.calm=true) (hi:PI X target iter wi) (hk:ml X.env.scope.names X.N sc N' ix=true)
  (hg:∀cl C s H fp,PG (blk X sc cl C N' s H fp) target g) (hc:∀cl C s H fp,PF (blk X sc cl C N' s H fp) ifs tc) (he:∀cl C s H fp,PE (blk X sc cl C N' s H fp) elt te)
  (hs:∀x,foldedSetIterable iter X.env x=pure x) (fin:tE X pins σ Q use Q2) (I:Inv X pins σ H s) (h:qI ix wi g tc te σ H Q) :
  x8 (x9 X.prog X.w) X.A (comprehension (.ListComp elt [⟨target,iter,ifs,0⟩] sc pos) sc X.env ps (newList []) false (eval iter X.env) use) Q2 X.xe s:=by
 have K:=jb.of hk
 have hcl:∀y∈sc.names,y.2 = .free->∃c,X.env.cells.lookup y.1=some c:=λy hy e=>I.ok.has y.1 (K.frees y hy e)
 refine wpAny_comprehension_free rfl hs (nB hcl) K.kind K.locs (thn (hi pins s σ H _ I h) λv s1 h1=>thn h1 λitv s2 h2 =>?_)
 obtain ⟨it,fp,tn,J,H2,e,I2,T,st2,f2,W,⟨m0,w0⟩,turn⟩:=h2
 subst e
 refine Ad (wpAny_newFunctionEnv K.nocell (by intro y hy;simp at hy) (λh1 ns1 sb1 =>?_) K.kind)
 dsimp only at ns1 sb1 ⊢
 generalize hP:s2.heap.push { cls :=.type "list",dict:=none,data :=.seq ([]:List xw).toArray }=G at ns1 sb1 ⊢
 have sG:G.objs.size=s2.heap.objs.size+1:=by rw[<- hP,AM]
 have fl:∀b∈fp,b<s2.heap.objs.size:=λb hb=>by
  obtain ⟨o,e,_⟩:=T.obj _ _ st2 b hb
  exact xE e
 have hC:s2.heap.objs.size<=G.objs.size:=by rw[sG];exact Nat.le_succ _
 have aC:s2.heap.objs.size≠G.objs.size:=by rw[sG];exact x5 (CH _)
 have old:∀b o,s2.heap.get? b=some o->h1.get? b=some o:=λb o e=>by
  have lt:=xE e
  have ne:b≠G.objs.size:=x5 (xZ lt hC)
  rw[sb1.2 b ne]
  exact xv _ (hP ▸ xv _ e)
 have accO:h1.PlainList s2.heap.objs.size #[]:=⟨_,by
  rw[sb1.2 _ aC]
  exact xv _ (hP ▸ xF _ rfl)⟩
 have IB:=tm (t:=s2.toks+([]:List (Str×xw)).length) I2 K hC f2 fl old ns1
 have up:∀y c,(aI X.env sc.names []).lookup y=some c->X.env.cells.lookup y=some c:=λy c e=>by
  rcases cF sc.names [] hcl e with q | q
  ·cases q
  ·exact q
 have accNotCell:∀y c,(aI X.env sc.names []).lookup y=some c->c≠s2.heap.objs.size:=λy c e z=>by
  obtain ⟨v,q⟩:=I2.cell y c (up y c e)
  exact absurd q.lt (by rw[z];exact yV _)
 have accFs:s2.heap.objs.size∉frs X.stack:=λz=>by
  rcases yj.mp (I2.kZ _ z) with q | q
  ·exact absurd I2.lt (by rw[<- q];exact yV _)
  ·exact I2.u5 (xC _) q
 have accFp:s2.heap.objs.size∉fp:=λz=>absurd (fl _ z) (yV _)
 have stat:∀{H':Hp} {ob:Obj},(∀b∈fp,H' b=none)->∀b∈fp,gW (blk X sc (aI X.env sc.names []) G.objs.size N' s2 H2 fp) [(s2.heap.objs.size,ob)] H' b:=λ{H' ob} hn b hb=>by
  refine ⟨hn b hb,x5 (xZ (fl b hb) hC),IB.ok.exfs b hb,.inl hb,λy c e=>(f2 b hb).2.2.2.2.1 y c (up y c e),λp hp z =>?_⟩
  have ep:p=(s2.heap.objs.size,ob):=by simpa [blk] using hp
  subst ep
  exact accFp (by rw[show s2.heap.objs.size=b from z];exact hb)
 have accPin:∀{pl:List (Addr×Obj)} {σ':St} {H':Hp} {s':xy} {its:Array xw} {n:Nat},Inv (blk X sc (aI X.env sc.names []) G.objs.size N' s2 H2 fp) pl σ' H' s'->s'.heap.get? s2.heap.objs.size=some { cls :=.type "list",data :=.seq its n } →
   H' s2.heap.objs.size=none->Inv (blk X sc (aI X.env sc.names []) G.objs.size N' s2 H2 fp) [(s2.heap.objs.size,{ cls :=.type "list",data :=.seq its n })] σ' H' s':=λ{pl σ' H' s' its n} J' e nn=>J'.gf λp hp=>by
  have ep:p=(s2.heap.objs.size,({ cls :=.type "list",data :=.seq its n }:Obj)):=by simpa [blk] using hp
  subst ep
  exact ⟨e,nn,aC,accFs,λv z=>nomatch z⟩
 have loop:Bv (x9 X.prog X.w) X.A (.compLoop (.ListComp elt [⟨target,iter,ifs,0⟩] sc pos) 0 (.ref it) (.ref s2.heap.objs.size) (compEnvC sc (aI X.env sc.names []) G.objs.size X.env))
   (compPost (x9 X.prog X.w) X.A X.xe use Q2 (.ref s2.heap.objs.size) G.objs.size) { s2 with heap:=h1,toks:=s2.toks+([]:List (Str×xw)).length }:=by
  refine nD (λn s'=>∃i ys its nn σ' H',Inv (blk X sc (aI X.env sc.names []) G.objs.size N' s2 H2 fp) [(s2.heap.objs.size,{ cls :=.type "list",data :=.seq its nn })] σ' H' s'/\Vals ys its.toList/\tn i s'.heap/\(∀b∈fp,H' b=none)/\W i n σ' ys H')
   (λn s3 h3 =>?_) m0 ?_
  ·obtain ⟨i,ys,its,nn,σ3,H3,I3,r3,st3,fr3,w3⟩:=h3
   obtain ⟨e3,a3,_,_,_⟩:=I3.pin (s2.heap.objs.size,{ cls :=.type "list",data :=.seq its nn }) (by simp[blk])
   rcases turn i n σ3 ys H3 w3 with ⟨stop,zl,q3⟩ | ⟨go,step⟩
   ·refine thn (T.done (blk X sc (aI X.env sc.names []) G.objs.size N' s2 H2 fp) rfl rfl rfl hcalm i _ s3 σ3 H3 _ I3 (stat fr3) st3 stop) λr s4 ⟨hr,I4⟩ =>?_
    subst hr
    obtain ⟨e4,a4,_,_,_⟩:=I4.pin (s2.heap.objs.size,{ cls :=.type "list",data :=.seq its nn }) (by simp[blk])
    obtain ⟨m4,n4,_⟩:=I4.loc
    obtain ⟨oC,es4,ep4,c4,d4,r4⟩:=id n4
    have ltA:∀b o,s2.heap.get? b=some o->b≠s2.heap.objs.size:=λb o e=>x5 (xE e)
    have B:=I4.base
    have hok:HOk X.prog X.w (upd H3 s2.heap.objs.size (.lst ys)) s4.heap:=λb o e=>by
     by_cases hb:b=s2.heap.objs.size
     ·subst hb
      rw[af] at e
      cases e
      exact ⟨zl,its.toList,nn,r3,e4⟩
     ·rw[ak hb] at e
      refine (I4.hok b o e).stay (λc u hc q=>q) (λc q =>?_) (λc xs q =>?_)
      ·rw[ak (aj q a4)];exact q
      ·rw[ak (aj q a4)];exact q
    have I5:Inv X pins σ (upd H3 s2.heap.objs.size (.lst ys)) s4:=by
     refine I2.uw (ch:=fp) I4.os ⟨λb o e n hb hx=>B.keep b o e n hb hx,λb o e n hb hx=>B.slot b o e n hb hx,λb o e n hx =>?_,λb o e hx=>B.there b o e hx,λb xs e =>?_,λb o u e =>?_,λb ps e =>?_⟩ hok I4.bare (λb hb =>?_)
     ·rw[ak (ltA b o e)];exact B.free b o e n hx
     ·have q:=B.tups b xs e
      rw[ak (aj q a4)];exact q
     ·have q:=B.frzs b o u e
      rw[ak (aj q a4)];exact q
     ·obtain ⟨more,q⟩:=B.tbls b ps e
      exact ⟨more,by rw[ak (aj q a4)];exact q⟩
     ·obtain ⟨g0,g1,g2,g3,g4,g5⟩:=f2 b hb
      exact ⟨g3,g1,g4,g5⟩
    have cL:G.objs.size≠X.env.locals:=zS (xZ I2.lt hC)
    have I6:Inv X (pins++[(G.objs.size,oC)]) σ (upd H3 s2.heap.objs.size (.lst ys)) s4:=I5.gf λp hp=>by
     rcases xS.mp hp with q | q
     ·exact I5.pin p (yg _ q)
     ·have ep:p=(G.objs.size,oC):=by simpa using q
      subst ep
      exact ⟨c4,by rw[ak (zj aC)];exact I4.free,cL,I2.u5 hC,λv z=>by rw[d4] at z;cases z⟩
    refine fin s4 H3 s2.heap.objs.size G.objs.size ys oC I6 ⟨m4,n4⟩ (yf I2.sz hC) (λy c e z =>?_) (λp hp z =>?_) (q3 _ a4)
    ·obtain ⟨v,q⟩:=I2.cell y c e
     exact absurd (xZ q.lt hC) (by rw[z];exact yV _)
    ·exact absurd (xZ (xE (I2.pin p hp).1) hC) (by rw[z];exact yV _)
   ·refine thn (T.item (blk X sc (aI X.env sc.names []) G.objs.size N' s2 H2 fp) rfl rfl rfl hcalm i _ s3 σ3 H3 _ I3 (stat fr3) st3 go) λr s4 ⟨u,hr,h4⟩ =>?_
    subst hr
    refine thn h4 λ_ s5 ⟨x,H5,I5,r5,y5,st5,fr5⟩ =>?_
    have I5':=I5.pinned (stat fr5) (T.obj _ _ st5)
    refine thn (hg _ _ _ _ _ _ s5 σ3 H5 x u _ I5' r5 (step x H5 y5)) λ_ s6 ⟨σ6,H6,I6,q6⟩ =>?_
    refine thn (hc _ _ _ _ _ _ s6 σ6 H6 _ I6 q6) λok s7 ⟨H7,I7,q7⟩ =>?_
    have back:∀{σ7:St} {H7:Hp} {s7:xy},Inv (blk X sc (aI X.env sc.names []) G.objs.size N' s2 H2 fp) ([(s2.heap.objs.size,{ cls :=.type "list",data :=.seq its nn })]++fZ fp s5.heap) σ7 H7 s7->tn (i+1) s7.heap/\∀b∈fp,H7 b=none:=λJ7 =>
     ⟨T.keep _ _ _ st5 λb hb o e=>(J7.pin (b,o) (yg _ (yg _ (cP hb e)))).1,λb hb=>by
      obtain ⟨o,e,d⟩:=T.obj _ _ st5 b hb
      exact (J7.pin (b,o) (yg _ (yg _ (cP hb e)))).2.1⟩
    cases ok with
    | false =>
     rw[if_neg (by decide)] at q7
     obtain ⟨m',lm,w7⟩:=q7
     show ∃m,m<n/\_
     exact ⟨m',lm,i+1,ys,its,nn,σ6,H7,I7.dC,r3,(back I7).1,(back I7).2,w7⟩
    | true =>
     rw[if_pos rfl] at q7
     refine thn (he _ _ _ _ _ _ s7 σ6 H7 _ I7 q7) λz s8 ⟨y,H8,I8,r8,lz,m',lm,w8⟩ =>?_
     obtain ⟨e8,a8,_,_,_⟩:=I8.pin (s2.heap.objs.size,{ cls :=.type "list",data :=.seq its nn }) (by simp[blk])
     have sz:its.size<=xG:=by
      have l:ys.length=its.size:=r3.length.trans xK
      rw[<- l]
      exact Ao lz
     refine wpAny_list_append_plain ⟨nn,e8⟩ (λh' pl' sb' =>?_) sz
     obtain ⟨n9,e9⟩:=pl'
     have I8p:Inv (blk X sc (aI X.env sc.names []) G.objs.size N' s2 H2 fp) (fZ fp s5.heap) σ6 H8 s8:=I8.gf λp hp=>I8.pin p (yg _ (yg _ hp))
     have I9:=I8p.turned (it:=s2.heap.objs.size) (h':=h') (t':=s8.toks) (λb o ne e=>by rw[sb'.2 b ne];exact e) a8 aC (.inr (xC _)) (λy c e=>accNotCell y c e) (λp hp z=>by
      have hp':p∈fZ fp s5.heap:=by simpa [blk] using hp
      exact accFp (by rw[<- z];exact (ki hp').1))
     have b9:tn (i+1) h'/\∀b∈fp,H8 b=none :=
      ⟨T.keep _ _ _ st5 λb hb o e=>(I9.pin (b,o) (yg _ (cP hb e))).1,(back I8).2⟩
     exact ⟨m',lm,i+1,ys++[y],its.push z,n9,σ6,H8,accPin I9 e9 a8,by rw[Ac];exact r3.append (.cons r8 .nil),b9.1,b9.2,w8⟩
  ·obtain ⟨n0,e0⟩:=accO
   exact ⟨0,[], #[],n0,_,H2,accPin IB e0 (I2.hok.fresh (xC _)),.nil,T.keep _ _ _ st2 λb hb o e=>old b o e,λb hb=>(f2 b hb).1,w0⟩
 exact codeAny_compStart_list loop (T.self _ 0 _ _ _ (T.keep _ _ _ st2 λb hb o e=>old b o e) loop)
theorem bP {elt target iter:Expr}{ifs:List Expr}{sc:Scope}{pos:Pos}{wi:TI}{g:TG}{tc:TT}{te:TE}(N':List Str)(ix:List (Option Nat))
  (hcalm:X.calm=true) (hi:PI X target iter wi) (hk:ml X.env.scope.names X.N sc N' ix=true)
  (hg:∀cl C s H fp,PG (blk X sc cl C N' s H fp) target g) (hc:∀cl C s H fp,PF (blk X sc cl C N' s H fp) ifs tc) (he:∀cl C s H fp,PE (blk X sc cl C N' s H fp) elt te)
  (hs:∀x,foldedSetIterable iter X.env x=pure x:=by intro _;rfl):PE X (.ListComp elt [⟨target,iter,ifs,0⟩] sc pos) (qI ix wi g tc te):=by
 intro pins s σ H Q I h
 rw[eval_ListComp]
 refine ku hcalm hi hk hg hc he hs (λs4 H3 acc C ys oC I4 ns hC hc hp q =>?_) I h
 obtain ⟨m,ns⟩:=ns
 refine ⟨m,ns,λh' sb=>⟨.ref acc,_,?_,rfl,q⟩⟩
 obtain ⟨_,n0,n1,n2,_⟩:=I4.pin (C,oC) (by simp)
 exact (I4.dC).turned (it:=C) (h':=h') (t':=s4.toks) (λb o ne e=>by rw[sb.2 b ne];exact e) n0 n1 (.inr hC) hc hp
theorem ji {elt target iter:Expr}{ifs:List Expr}{sc:Scope}{pos pos' spos:Pos}{wi:TI}{g:TG}{tc:TT}{te:TE}{i:Nat}{x:Str}(N':List Str)(ix:List (Option Nat))
    (hcalm:X.calm=true) (hN:X.N.Nodup) (hx:X.N[i]? = some x) (hl:X.env.scope.names.lookup x=some .local)
    (hi:PI X target iter wi) (hk:ml X.env.scope.names X.N sc N' ix=true)
    (hg:∀cl C s H fp,PG (blk X sc cl C N' s H fp) target g) (hc:∀cl C s H fp,PF (blk X sc cl C N' s H fp) ifs tc) (he:∀cl C s H fp,PE (blk X sc cl C N' s H fp) elt te)
    (hsw:swapsWith (.ListComp elt [⟨target,iter,ifs,0⟩] sc pos) (some (.Name x pos')) spos.line X.env=pure true:=by rfl)
    (hs:∀x,foldedSetIterable iter X.env x=pure x:=by intro _;rfl):PS X (.Assign [.Name x pos'] (.ListComp elt [⟨target,iter,ifs,0⟩] sc pos) spos) (vf (qI ix wi g tc te) (eN i)):=by
  intro pins s σ H D I h
  rw[exec_Assign_Name_used _ _ _ _ hsw]
  refine xu (Br (xu ?_))
  show x8 _ X.A (do let _ ← comprehension (.ListComp elt [⟨target,iter,ifs,0⟩] sc pos) sc X.env _ (newList []) false (eval iter X.env) (some (assign (.Name x pos') X.env))) _ _ s
  refine xu (zk (ku (Q:=λv H1=>D.nx (σ.set i (some v)) H1) (Q2:=λ_ s'=>SP X pins D .next s') hcalm hi hk hg hc he hs (λs4 H3 acc C ys oC I4 ns hC hc hp q =>?_) I h) (λ_ s' q=>xJ (xJ q)) λ_ _ e=>e)
  obtain ⟨m,ns⟩:=ns
  obtain ⟨e0,n0,n1,n2,_⟩:=I4.pin (C,oC) (by simp)
  show x8 _ X.A (assign (.Name x pos') X.env (.ref acc)) _ _ s4
  refine thn ((aB (i:=i) hN hx (.inl hl) (.inr hl)) (pins++[(C,oC)]) s4 σ _ (.ref acc) (.ref acc) _ I4 rfl q) λ_ s5 ⟨σ5,H5,I5,q5⟩ =>?_
  obtain ⟨e5,k0,k1,k2,_⟩:=I5.pin (C,oC) (by simp)
  obtain ⟨o',es',ep',c',r'⟩:=ns
  have e':=e0.symm.trans c'
  cases e'
  refine ⟨m,⟨_,es',ep',e5,r'⟩,λh' sb=>⟨σ5,H5,?_,q5⟩⟩
  exact (I5.dC).turned (it:=C) (h':=h') (t':=s5.toks) (λb o ne e=>by rw[sb.2 b ne];exact e) k0 k1 (.inr hC) hc hp
end
open PySem PySem.Spec PyProof.Rows
section
variable  {X:Cx}
def wU (K:xx):R2:=λx y H Q=>∃l b xs zs,x = .ref l/\y = .ref b/\SqL K H l xs/\SqL K H b zs/\xs.length+zs.length<=xG/\∀p,H p=none->Q (.ref p) (upd H p (.lst (xs++zs)))
theorem lB:OpR X (binaryOp .Add) (wU X.K):=by
 intro pins s σ H x y v u Q I rx ry h
 obtain ⟨l,b,xs,zs,rfl,rfl,hH,hB,hz,q⟩:=h
 cases rx
 cases ry
 obtain ⟨its,r,e,z⟩:=I.list hH
 obtain ⟨its2,r2,e2,z2⟩:=I.list hB
 obtain ⟨⟨c1,d1,da1,sl1⟩,n,e,k1,k2,k3⟩:=e
 obtain ⟨⟨c2,d2,da2,sl2⟩,n2,e2,g1,g2,g3⟩:=e2
 simp only at k1 k3 g1 g3
 subst k1 k3 g1 g3
 have l1:=r.length
 have l2:=r2.length
 have ea:its.toArray++its2.toArray=(its++its2).toArray:=by simp
 refine C6 ⟨_,e,rfl⟩ ⟨_,e2,rfl⟩ noFill_list_add seq_list_add PySem.F.slot_list_add PySem.F.entry_list_add
  (PySem.F.args_list_add_2 _ _) (list_addW l b its.toArray its2.toArray n n2 d1 d2 sl1 sl2 (by rw[xA,xA];omega)) ⟨e,e2,?_⟩
 rw[ea]
 exact ⟨.ref _,_,I.wO (t':=s.toks) (r.append r2) (by rw[xM];omega),rfl,q _ I.fresh⟩
theorem cC:cc X (.builtin "isinstance") (λxs H Q=>∃x T t b,xs=[x,.ty T]/\gX X.K H x t/\PySem.W.kitOne X.K t (.type T)=some b/\Q (.bl b) H):=by
 intro pins s σ H xs us Q I r h
 obtain ⟨x,T,t,b,rfl,ty,e,q⟩:=h
 obtain ⟨u,w',rfl,ru,rw'⟩:=vals2 r
 cases (show w'=BZ T from rw')
 exact pe I ru ty e λtk=>⟨.bl b,H,I.tok tk,rfl,q⟩
end
def n8 (k:Nat)(tc:TT)(te:TE)(τ:St)(Pv:Nat->List V->Hp->Prop)(i:Nat)(x:V)(ys:List V)(H:Hp):Prop :=
 ∀(R1:V->Hp->Prop) (R0:Hp->Prop),(∀y H4,Pv (i+1) (ys++[y]) H4->R1 y H4)->(∀H3,Pv (i+1) ys H3->R0 H3)->tc (τ.set k (some x)) H λb H3=>if b=true then te (τ.set k (some x)) H3 R1 else R0 H3
theorem dR {K:xx}{a:Addr}{xs:List V}{k:Nat}{tc:TT}{te:TE}{τ:St}{H:Hp}{Q:VK}(Pv:Nat->List V->Hp->Prop)(h0:Pv 0 [] H)(hz:xs.length<=xG)
  (hl:∀i ys H,i<=xs.length->Pv i ys H->SqL K H a xs) (hs:∀i x ys H,xs[i]? = some x->ys.length<=i->Pv i ys H->n8 k tc te τ Pv i x ys H)
  (hd:∀ys H,ys.length<=xs.length->Pv xs.length ys H->∀l,H l=none->Q (.ref l) (upd H l (.lst ys))) :
  jh (Itl K a) (eN k) tc te τ Q H:=by
 refine ⟨λi m σ ys H=>m=xs.length-i/\i<=xs.length/\(∀x,σ.set k (some x)=τ.set k (some x))/\ys.length<=i/\Pv i ys H,⟨xs.length,by simp,yE _,λ_=>rfl,xC _,h0⟩,?_⟩
 rintro i m σ ys H ⟨rfl,hi,hτ,hy,p⟩
 have q:=hl i ys H hi p
 by_cases hlt:i<xs.length
 ·refine .inr ⟨⟨xs,xs[i],q,by simp[hlt]⟩,λx H' y =>?_⟩
  obtain ⟨e,y⟩:=y
  subst e
  show tc (σ.set k (some x)) _ _
  rw[hτ x]
  have hσ:∀z,(τ.set k (some x)).set k (some z)=τ.set k (some z):=λz=>by rw[Cc]
  refine hs i x ys _ (y xs q) hy p _ _ (λy4 H4 p4=>⟨by omega,xs.length-(i+1),by omega,rfl,hlt,hσ,by rw[xM,y6];omega,p4⟩) λH3 p3=>⟨xs.length-(i+1),by omega,rfl,hlt,hσ,by omega,p3⟩
 ·have e:i=xs.length:=by omega
  subst e
  exact .inl ⟨⟨xs,q,xC _⟩,by omega,hd ys H hy p⟩
theorem cw {K:xx}{a:Addr}{xs:List V}{k:Nat}{tc:TT}{te:TE}{τ:St}{H:Hp}{Q:VK}(Pv:Nat->List V->Hp->Prop)(h0:Pv 0 [] H)(hz:xs.length<=xG)
  (hl:∀i ys H,i<=xs.length->Pv i ys H->SqT K H a xs) (hs:∀i x ys H,xs[i]? = some x->ys.length<=i->Pv i ys H->n8 k tc te τ Pv i x ys H)
  (hd:∀ys H,ys.length<=xs.length->Pv xs.length ys H->∀l,H l=none->Q (.ref l) (upd H l (.lst ys))) :
  jh (Itt K a) (eN k) tc te τ Q H:=by
 refine ⟨λi m σ ys H=>m=xs.length-i/\i<=xs.length/\(∀x,σ.set k (some x)=τ.set k (some x))/\ys.length<=i/\Pv i ys H,⟨xs.length,by simp,yE _,λ_=>rfl,xC _,h0⟩,?_⟩
 rintro i m σ ys H ⟨rfl,hi,hτ,hy,p⟩
 have q:=hl i ys H hi p
 by_cases hlt:i<xs.length
 ·refine .inr ⟨⟨xs,xs[i],q,by simp[hlt]⟩,λx H' y =>?_⟩
  obtain ⟨e,y⟩:=y
  subst e
  show tc (σ.set k (some x)) _ _
  rw[hτ x]
  have hσ:∀z,(τ.set k (some x)).set k (some z)=τ.set k (some z):=λz=>by rw[Cc]
  refine hs i x ys _ (y xs q) hy p _ _ (λy4 H4 p4=>⟨by omega,xs.length-(i+1),by omega,rfl,hlt,hσ,by rw[xM,y6];omega,p4⟩) λH3 p3=>⟨xs.length-(i+1),by omega,rfl,hlt,hσ,by omega,p3⟩
 ·have e:i=xs.length:=by omega
  subst e
  exact .inl ⟨⟨xs,q,xC _⟩,by omega,hd ys H hy p⟩
theorem iw {lo:Int}{n:Nat}{k:Nat}{tc:TT}{te:TE}{τ:St}{H:Hp}{Q:VK}(Pv:Nat->List V->Hp->Prop)(h0:Pv 0 [] H)(hz:n<=xG)
  (hs:∀i ys H,i<n->ys.length<=i->Pv i ys H->n8 k tc te τ Pv i (.int (lo+i)) ys H)
  (hd:∀ys H,ys.length<=n->Pv n ys H->∀l,H l=none->Q (.ref l) (upd H l (.lst ys))) :
  jh (Itr lo n) (eN k) tc te τ Q H:=by
 refine ⟨λi m σ ys H=>m=n-i/\i<=n/\(∀x,σ.set k (some x)=τ.set k (some x))/\ys.length<=i/\Pv i ys H,⟨n,by simp,yE _,λ_=>rfl,xC _,h0⟩,?_⟩
 rintro i m σ ys H ⟨rfl,hi,hτ,hy,p⟩
 by_cases hlt:i<n
 ·refine .inr ⟨hlt,λx H' y =>?_⟩
  obtain ⟨e,y⟩:=y
  subst e y
  show tc (σ.set k (some (.int (lo+i)))) _ _
  rw[hτ]
  have hσ:∀z,(τ.set k (some (.int (lo+i)))).set k (some z)=τ.set k (some z):=λz=>by rw[Cc]
  refine hs i ys _ hlt hy p _ _ (λy4 H4 p4=>⟨by omega,n-(i+1),by omega,rfl,hlt,hσ,by rw[xM,y6];omega,p4⟩) λH3 p3=>⟨n-(i+1),by omega,rfl,hlt,hσ,by omega,p3⟩
 ·have e:i=n:=by omega
  subst e
  exact .inl ⟨xC _,by omega,hd ys H hy p⟩
structure Cal (P:xX)(w:yv)(K:xx)(mg:Str->Option xw)(base:Heap)(k:Nat)(x:Str)(ps:List Str)(sp:Sp):Prop where
 ex:∃f fd,bF P w K mg base CX0 k f fd ps sp/\mg x=some (.ref f)/\PySem.W.keepIn K (.ref f)=true/\Binds K fd ps []
theorem aD {X:Cx}{j k:Nat}{x:Str}{ps:List Str}{sp:Sp}{e:Expr}{es:List Expr}{t:TA}{p pos:Pos}(C:Cal X.prog X.w X.K X.mg X.base k x ps sp)(hr:bY j X.A)(hj:k<=j)(hg:Gl X x)(ha:PA X (e :: es) t)
  (hdb:(x == ("__debug__" : Str))=false:=by decide) (he:yA (e :: es) X.env=(false,eval e X.env) :: yA es X.env:=by rfl) (hpl:(Bh pos (yA es X.env)).any (·.1)=false:=by rfl) :
  PE X (.Call (.Name x p) (e :: es) [] pos) (qA sp [] E0 t):=by
 obtain ⟨f,fd,F,m,kp,b⟩:=C.ex
 exact nZ F (hr.mono hj) hg m kp b .nil wQ ha hdb he hpl
theorem ae {H:Hp}{p:Addr}(h:H p=none)(o:HO):az H (upd H p o):=λb u q=>by rw[ak (aj q h)];exact q
theorem small {n:Nat}(h:n<=1000):n<=xG:=Ao (bX h)
open PySem PySem.Spec PyProof.Rows
section
variable  {X:Cx}
def tF:V->List V->Hp->VK->Prop:=λx vs H Q=>∃(l:Addr) (xs:List V) (i:Int) (y:V),x = .ref l/\vs=[.int i,y]/\H l=some (.lst xs)/\0<=i/\i<=xs.length/\xs.length<xG/\Q .non (upd H l (.lst (xs.take i.toNat++y :: xs.drop i.toNat)))
theorem pB:MtM X "list.insert" tF:=by
 intro pins s σ H x vs v us Q I rx rv h
 obtain ⟨l,xs,i,y,rfl,rfl,hH,h0,h1,hz,q⟩:=h
 cases rx
 obtain ⟨ui,uy,rfl,⟨t,rfl⟩,ry⟩:=vals2 rv
 obtain ⟨z,its,n,r,hl,e⟩:=I.vt hH
 have zl:=eR
 have fits:¬ (!Builtin.List.listFitsIndex i)=true:=by
  have:Builtin.List.listFitsIndex i=true:=by
   unfold Builtin.List.listFitsIndex
   simp only[yO,decide_eq_true_eq]
   omega
  rw[this];simp
 refine BX F.slot_list_insert ⟨_,e,rfl⟩ F.entry_list_insert (F.args_list_insert_3 _ _ _) (CI l its.toArray n i t uy fits (by rw[xA];omega)) ⟨e,?_⟩
 refine ⟨.non,_,I.wN (its':=its.take i.toNat++uy :: its.drop i.toNat) hH e ?_ ((r.take _).append (.cons ry (r.drop _))) ?_,rfl,q⟩
 ·have ek:min i.toNat its.toArray.size=i.toNat:=by rw[xA];omega
  dsimp only
  rw[if_neg (by omega),ek]
  apply CJ.mp
  rw[yp,Ac,zo,zo,yT,yT]
  simp
  rw[xW (by rw[An];omega)]
 ·rw[xM,yo,yw,An]
  omega
theorem kB {α β:Type}{F:α -> β -> Prop}:∀{l:List α} {m:List β} {i:Nat} {x:α} {y:β},Paired F l m->l[i]? = some x->m[i]? = some y->F x y
 | _,_,0,_,_,.cons h _,e1,e2=>by simp at e1 e2;subst e1 e2;exact h
 | _,_,i+1,_,_,.cons _ t,e1,e2=>kB (i:=i) t (by simpa using e1) (by simpa using e2)
 | _,_,_,_,_,.nil,e1,_=>by simp at e1
theorem all_true (n:Nat):((yP n).all λ_=>true)=true:=by simp
end
open PySem PySem.Spec PyProof.Rows
def uC (K:xx)(k l:Nat):TG:=wx K 2 (qm (eN k) (qm (eN l) wu))
def wV (k l:Nat)(tc:TT)(te:TE)(τ:St)(Pv:Nat->List V->Hp->Prop)(i:Nat)(a b:V)(ys:List V)(H:Hp):Prop :=
 ∀(R1:V->Hp->Prop) (R0:Hp->Prop),(∀y H4,Pv (i+1) (ys++[y]) H4->R1 y H4)->(∀H3,Pv (i+1) ys H3->R0 H3)->tc ((τ.set k (some a)).set l (some b)) H λc H3=>if c=true then te ((τ.set k (some a)).set l (some b)) H3 R1 else R0 H3
open PySem PySem.Spec PyProof.Rows
section
variable  {X:Cx}{K:xx}
theorem dD (h:X.K=K:=by rfl):IxR X (wK K):=by subst h;exact cB
theorem dS (h:X.K=K:=by rfl):IxR X (wL K):=by subst h;exact aK
end
open PySem PySem.Spec PyProof.Rows
theorem Inv.nE {X:Cx}{pins:List (Addr×Obj)}{σ:St}{H:Hp}{s:xy}{h':Heap}{t':Nat}{ch:List Addr}{T:Addr}{o:HO}(I:Inv X pins σ H s)(f:∀b∈ch,gW X pins H b)
  (k:∀b ob,b∉ch->s.heap.get? b=some ob->h'.get? b=some ob) (th:∀b∈ch,∃ob,h'.get? b=some ob) (hT:s.heap.objs.size<=T) (new:aT X.prog X.w (upd H T o) h' T o):Inv X pins σ (upd H T o) { s with heap:=h',toks:=t' }:=by
 have hn:H T=none:=I.hok.fresh hT
 have nT:∀b ob,s.heap.get? b=some ob->b≠T:=λb ob e=>x5 (xZ (xE e) hT)
 refine I.step (g':=s.gens) (d':=s.drawn) (ch:=ch) (λb hb =>?_) (λb ob _ _ hc e _=>k b ob hc e) (λb ob _ _ hc e _=>⟨ob.slots,k b ob hc e⟩) (λb ob _ e n=>by rw[ak (nT b ob e)];exact n)
  (λb ob hc e=>⟨ob,k b ob hc e⟩) (λb xs e=>by rw[ak (aj e hn)];exact e) (λb ob u e=>by rw[ak (aj e hn)];exact e) (λb ps e=>⟨#[],by rw[ak (aj e hn),e];simp⟩) (λm hm =>?_) (λb u e =>?_) I.bare
 ·obtain ⟨g0,g1,g2,g3,g4,g5⟩:=f b hb
  exact ⟨g3,g1,g4,g5⟩
 ·obtain ⟨ob,es,ep,ho,r⟩:=hm
  exact ⟨ob,es,ep,k _ ob (λz=>(f _ z).2.1 rfl) ho,r⟩
 ·by_cases hb:b=T
  ·subst hb
   rw[af] at e
   cases e
   exact new
  ·rw[ak hb] at e
   refine (I.hok b u e).stay (λc v hc q=>k c v ?_ q) (λc q=>by rw[ak (aj q hn)];exact q) λc xs q=>by rw[ak (aj q hn)];exact q
   intro z
   have n0:=(f c z).1
   rcases hc with hc | hc
   ·rw[hc,e] at n0;cases n0
   ·rw[hc] at n0;cases n0
open PySem PySem.Spec PyProof.Rows
open PySem.AutoSeq1 (wpAny_loadPart')
section
variable  {prog:xX}{w:yv}{A:yy}{E:xw->xy->Prop}{s:xy}
theorem nF {it t:Addr}{i:Nat}{items:Array xw}{x:xw}{Q:xw->xy->Prop}(hi:s.heap.IsTupleIter it t i)(hl:s.heap.IsTuple t items)(hx:items[i]? = some x)
  (q:∀h',h'.IsTupleIter it t (i+1)->Heap.SameBut it s.heap h'->Q x { s with heap:=h' }):x8 (x9 prog w) A (Builtin.SmallTypes.nextOf (.ref it)) Q E s:=by
 obtain ⟨o,eo,oc,od⟩:=id hi
 obtain ⟨ol,el,_,nl,dl⟩:=hl
 unfold Builtin.SmallTypes.nextOf
 refine xu (zd (name:=Str.ofString "__next__") hi.typeIs Am (ze Am hi.typeIs B3 ?_ (BS _)))
 show x8 _ _ (field (.ref it) 0 >>= _) _ _ s;refine xu (Aj eo od (x :=.ref t) rfl ?_)
 show x8 _ _ (if (xV t == zA)=true then _ else _) _ _ s;rw[if_neg (show ¬ ((xV t == zA)=true) from xN)]
 show x8 _ _ (field (.ref it) 1 >>= _) _ _ s;refine xu (Aj eo od (x :=.int i 0) rfl ?_)
 show x8 _ _ (seqItems? (.ref t) >>= _) _ _ s;refine xu (zB el dl ?_)
 simp only[yD,hx];refine xu (wpAny_setField eo od (by simp) (xJ ⟨x,rfl,xJ (q _ ?_ (Dj ..))⟩))
 exact ⟨_,yn _ eo (Obj.isFreed_of_fields (Dw od _)),(Obj.cls_mapFields ..).trans oc,by rw[Dw od];simp[EJ]⟩
theorem jj {it t:Addr}{i:Nat}{items:Array xw}{Q:xw->xy->Prop}(hh:A.handled=none)(hi:s.heap.IsTupleIter it t i)(hl:s.heap.IsTuple t items)(hx:items[i]? = none)
  (q:∀h' e,Heap.ExtBut it s.heap h'->(∃o,h'.get? e=some o/\o.cls = .type "StopIteration")->E (.ref e) { s with heap:=h' }):x8 (x9 prog w) A (Builtin.SmallTypes.nextOf (.ref it)) Q E s:=by
 obtain ⟨o,eo,oc,od⟩:=id hi
 obtain ⟨ol,el,_,nl,dl⟩:=hl
 unfold Builtin.SmallTypes.nextOf
 refine xu (zd (name:=Str.ofString "__next__") hi.typeIs Am (ze Am hi.typeIs B3 ?_ (BS _)))
 show x8 _ _ (field (.ref it) 0 >>= _) _ _ s;refine xu (Aj eo od (x :=.ref t) rfl ?_)
 show x8 _ _ (if (xV t == zA)=true then _ else _) _ _ s;rw[if_neg (show ¬ ((xV t == zA)=true) from xN)]
 show x8 _ _ (field (.ref it) 1 >>= _) _ _ s;refine xu (Aj eo od (x :=.int i 0) rfl ?_)
 show x8 _ _ (seqItems? (.ref t) >>= _) _ _ s;refine xu (zB el dl ?_)
 simp only[yD,hx];refine xu (AN (xu (wpAny_setField eo od (by simp) ?_)))
 show x8 _ _ (newExc (.type "StopIteration") [] >>= _) _ _ _;refine xu ?_
 simp only[newExc,newTuple];refine xu (Ad ?_ (by size_fits))
 refine xu (m:=firstArgMember _ _) (wpAny_of_eq (a:=zA) (by first | rfl | (simp only[firstArgMember];rfl)) ?_);refine Ad ?_ (by size_fits)
 simp only[raiseNew];refine xu (wpAny_handled ?_)
 first | (rw[show A.in1.handled=none from hh]) | (rw[hh])
 refine xu (xJ (wpAny_throw ?_));exact q _ _ (((Dj ..).extBut.push _).push _) ⟨_,xF _ rfl,rfl⟩
end
open PySem PySem.Spec PyProof.Rows
section
variable  {X:Cx}
end
def ForW (J:It)(g:TG)(tb:TS)(D:Ends)(σ:St)(H:Hp):Prop:=∃W:Nat->Nat->St->Hp->Prop,(∃m,W 0 m σ H)/\∀i m σ H,W i m σ H →
 (J.stop i H/\D.nx σ H)\/(J.go i H/\∃N:St->Hp->Prop,(∀σ' H',N σ' H'->∃m',m'<m/\W (i+1) m' σ' H')/\∀x H',J.yld i H x H'->g x σ H' λσ2 H2=>tb { D with nx:=N,ct:=N,bk:=D.nx } σ2 H2)
end L2
namespace Srt
open PySem PyProof.Rows
def gal:Bool->xY->Array xY->Nat->Nat->Nat->StateT yl Sem (Option Nat):=sortPriv% PySem.Builtin.gallop
def mLo:Array xY->Array xY->StateT yl Sem (Array xY):=sortPriv% PySem.Builtin.mergeLo
def mHi:Array xY->Array xY->StateT yl Sem (Array xY):=sortPriv% PySem.Builtin.mergeHi
def mAt:Nat->StateT yl Sem Bool:=sortPriv% PySem.Builtin.mergeAt
def uD:StateT yl Sem Unit:=sortPriv% PySem.Builtin.sortRuns
def vy:Nat->Nat->StateT yl Sem (Option Nat):=sortPriv% PySem.Builtin.countRun
def qJ:Nat->Nat->Nat->StateT yl Sem Bool:=sortPriv% PySem.Builtin.binarySort
theorem vz (lf:Bool)(ky:xY)(ar:Array xY)(bs n ht:Nat):gal lf ky ar bs n ht=(do
    let far (i:Nat):StateT yl Sem (Option Bool):=do
      let z ← elem' ar (bs+i)
      if lf then lt' z ky else return (← lt' ky z).map (!·)
    let mut la:=0;let mut of:=1
    let mut lo:=0;let mut hi:=0
    let some rt ← far ht | return none
    if rt then
      let mx:=n-ht
      for _ in [0:n] do
        if of≥mx then break
        let some mo ← far (ht+of)
          | return none
        if !mo then break
        la:=of;of:=2*of+1
      lo:=ht+la+1;hi:=ht+min of mx
    else
      let mx:=ht+1
      for _ in [0:n] do
        if of≥mx then break
        let some fd ← far (ht-of)
          | return none
        if fd then break
        la:=of;of:=2*of+1
      lo:=ht+1-min of mx;hi:=ht-la
    for _ in [0:n] do
      if lo≥hi then break
      let md:=lo+(hi-lo)/2
      let some mo ← far md | return none
      if mo then lo:=md+1 else hi:=md
    return some hi):=rfl
section
variable  {prog:xX}{w:yv}{A:yy}{E:xw->xy->Prop}{s:xy}
theorem qK {lf:Bool}{ky:xY}{ar:Array xY}{bs n ht:Nat}{st:yl}{Q:Option Nat->yl->Prop}(p:Nat->Bool)
    (hf:∀i,i<n->∀(Q:Option Bool->yl->Prop),Q (some (p i)) st->wpS (x9 prog w) A E s (do let z ← elem' ar (bs+i);if lf then lt' z ky else return (← lt' ky z).map (!·)) Q st)
    (hp:∀i j,i<=j->j<n->p j=true->p i=true) (hh:ht<n)
    (h:∀k,k<=n->(∀i,i<k->p i=true)->(∀i,k<=i->i<n->p i=false)->Q (some k) st):wpS (x9 prog w) A E s (gal lf ky ar bs n ht) Q st:=by
  rw[vz]
  dsimp only
  refine xQ (hf ht hh _ ?_)
  dsimp only
  cases hr:p ht with
  | true =>
    rw[if_pos rfl]
    refine xQ (zQ (y7 (I:=λx c st'=>st=st'/\∃la of,c=(none,la,of)/\la<of/\x+1<=of/\ht+la<n/\p (ht+la)=true)
      (Q:=λc st'=>st=st'/\∃la of,c=(none,la,of)/\la<of/\ht+la<n/\p (ht+la)=true/\(n-ht<=of\/(ht+of<n/\p (ht+of)=false))) ?step ?fin ⟨rfl,0,1,rfl,by omega,by omega,by omega,by simpa using hr⟩) ?post)
    case fin =>
      rintro c st' ⟨rfl,la,of,rfl,b1,b2,b3,b4⟩
      exact ⟨rfl,la,of,rfl,b1,b3,b4,.inl (by omega)⟩
    case step =>
      rintro x c st' _ hx ⟨rfl,la,of,rfl,b1,b2,b3,b4⟩
      dsimp only
      by_cases hge:of≥n-ht
      · rw[if_pos hge]
        exact x3 ⟨rfl,la,of,rfl,b1,b3,b4,.inl hge⟩
      · rw[if_neg hge]
        refine xQ (hf _ (by omega) _ ?_)
        dsimp only
        cases hm:p (ht+of) with
        | true =>
          simp only[BU,zp,if_false]
          exact x3 ⟨rfl,of,2*of+1,rfl,by omega,by omega,by omega,hm⟩
        | false =>
          simp only[Bool.not_false,if_true]
          exact x3 ⟨rfl,la,of,rfl,b1,b3,b4,.inr ⟨by omega,hm⟩⟩
    case post =>
      rintro c st' ⟨rfl,la,of,rfl,b1,b3,b4,b5⟩
      have h1:(ht+la+1)<=(ht+min of (n-ht)):=by omega
      have h2:(ht+min of (n-ht))<=n:=by omega
      have h3:∀i,i<(ht+la+1)->p i=true:=λi hi=>hp i (ht+la) (by omega) b3 b4
      have h4:∀i,(ht+min of (n-ht))<=i->i<n->p i=false:=λi hi hn=>by
        rcases b5 with b5 | ⟨b5,b6⟩
        · omega
        · cases hpi:p i with
          | false=>rfl
          | true=>rw[hp (ht+of) i (by omega) hn hpi] at b6;cases b6
      dsimp only
      refine xQ (zQ (y7 (I:=λx c st'=>st=st'/\∃lo hi,c=(none,lo,hi)/\lo<=hi/\hi<=n/\hi-lo<=n-x/\(∀i,i<lo->p i=true)/\(∀i,hi<=i->i<n->p i=false))
        (Q:=λc st'=>st=st'/\∃k,c=(none,k,k)/\k<=n/\(∀i,i<k->p i=true)/\(∀i,k<=i->i<n->p i=false)) ?step ?fin ⟨rfl,(ht+la+1),(ht+min of (n-ht)),rfl,h1,h2,by omega,h3,h4⟩) ?post)
      case fin =>
        rintro c st' ⟨rfl,lo,hi,rfl,a1,a2,a3,a4,a5⟩
        have e:lo=hi:=by omega
        subst e
        exact ⟨rfl,lo,rfl,a2,a4,a5⟩
      case post =>
        rintro c st' ⟨rfl,k,rfl,a2,a4,a5⟩
        exact x3 (h k a2 a4 a5)
      case step =>
        rintro x c st' _ hx ⟨rfl,lo,hi,rfl,a1,a2,a3,a4,a5⟩
        dsimp only
        by_cases hge:lo≥hi
        · rw[if_pos hge]
          have e:lo=hi:=by omega
          subst e
          exact x3 ⟨rfl,lo,rfl,a2,a4,a5⟩
        · rw[if_neg hge]
          refine xQ (hf _ (by omega) _ ?_)
          dsimp only
          cases hm:p (lo+(hi-lo)/2) with
          | true =>
            rw[if_pos rfl]
            exact x3 ⟨rfl,_,_,rfl,by omega,a2,by omega,λi hi'=>hp i _ (by omega) (by omega) hm,a5⟩
          | false =>
            rw[if_neg (by simp)]
            refine x3 ⟨rfl,_,_,rfl,by omega,by omega,by omega,a4,λi hi' hn =>?_⟩
            cases hpi:p i with
            | false=>rfl
            | true=>rw[hp _ i hi' hn hpi] at hm;cases hm
  | false =>
    rw[if_neg (by simp)]
    refine xQ (zQ (y7 (I:=λx c st'=>st=st'/\∃la of,c=(none,la,of)/\la<of/\x+1<=of/\la<=ht/\p (ht-la)=false)
      (Q:=λc st'=>st=st'/\∃la of,c=(none,la,of)/\la<of/\la<=ht/\p (ht-la)=false/\(ht+1<=of\/(of<=ht/\p (ht-of)=true))) ?step ?fin ⟨rfl,0,1,rfl,by omega,by omega,by omega,by simpa using hr⟩) ?post)
    case fin =>
      rintro c st' ⟨rfl,la,of,rfl,b1,b2,b3,b4⟩
      exact ⟨rfl,la,of,rfl,b1,b3,b4,.inl (by omega)⟩
    case step =>
      rintro x c st' _ hx ⟨rfl,la,of,rfl,b1,b2,b3,b4⟩
      dsimp only
      by_cases hge:of≥ht+1
      · rw[if_pos hge]
        exact x3 ⟨rfl,la,of,rfl,b1,b3,b4,.inl hge⟩
      · rw[if_neg hge]
        refine xQ (hf _ (by omega) _ ?_)
        dsimp only
        cases hm:p (ht-of) with
        | true =>
          rw[if_pos rfl]
          exact x3 ⟨rfl,la,of,rfl,b1,b3,b4,.inr ⟨by omega,hm⟩⟩
        | false =>
          rw[if_neg (by simp)]
          exact x3 ⟨rfl,of,2*of+1,rfl,by omega,by omega,by omega,hm⟩
    case post =>
      rintro c st' ⟨rfl,la,of,rfl,b1,b3,b4,b5⟩
      have h1:(ht+1-min of (ht+1))<=(ht-la):=by omega
      have h2:(ht-la)<=n:=by omega
      have h3:∀i,i<(ht+1-min of (ht+1))->p i=true:=λi hi=>by
        rcases b5 with b5 | ⟨b5,b6⟩
        · omega
        · exact hp i (ht-of) (by omega) (by omega) b6
      have h4:∀i,(ht-la)<=i->i<n->p i=false:=λi hi hn=>by
        cases hpi:p i with
        | false=>rfl
        | true=>rw[hp (ht-la) i hi hn hpi] at b4;cases b4
      dsimp only
      refine xQ (zQ (y7 (I:=λx c st'=>st=st'/\∃lo hi,c=(none,lo,hi)/\lo<=hi/\hi<=n/\hi-lo<=n-x/\(∀i,i<lo->p i=true)/\(∀i,hi<=i->i<n->p i=false))
        (Q:=λc st'=>st=st'/\∃k,c=(none,k,k)/\k<=n/\(∀i,i<k->p i=true)/\(∀i,k<=i->i<n->p i=false)) ?step ?fin ⟨rfl,(ht+1-min of (ht+1)),(ht-la),rfl,h1,h2,by omega,h3,h4⟩) ?post)
      case fin =>
        rintro c st' ⟨rfl,lo,hi,rfl,a1,a2,a3,a4,a5⟩
        have e:lo=hi:=by omega
        subst e
        exact ⟨rfl,lo,rfl,a2,a4,a5⟩
      case post =>
        rintro c st' ⟨rfl,k,rfl,a2,a4,a5⟩
        exact x3 (h k a2 a4 a5)
      case step =>
        rintro x c st' _ hx ⟨rfl,lo,hi,rfl,a1,a2,a3,a4,a5⟩
        dsimp only
        by_cases hge:lo≥hi
        · rw[if_pos hge]
          have e:lo=hi:=by omega
          subst e
          exact x3 ⟨rfl,lo,rfl,a2,a4,a5⟩
        · rw[if_neg hge]
          refine xQ (hf _ (by omega) _ ?_)
          dsimp only
          cases hm:p (lo+(hi-lo)/2) with
          | true =>
            rw[if_pos rfl]
            exact x3 ⟨rfl,_,_,rfl,by omega,a2,by omega,λi hi'=>hp i _ (by omega) (by omega) hm,a5⟩
          | false =>
            rw[if_neg (by simp)]
            refine x3 ⟨rfl,_,_,rfl,by omega,by omega,by omega,a4,λi hi' hn =>?_⟩
            cases hpi:p i with
            | false=>rfl
            | true=>rw[hp _ i hi' hn hpi] at hm;cases hm
end
open PySem PyProof.Rows
structure Cmp (prog:xX)(w:yv)(A:yy)(s:xy)(O:BI)(key:xY->O.α)(U:xY->Prop)(κ:SortKind):Prop where
 lt:∀(E:xw->xy->Prop) (st:yl) (x y:xY) (Q:Option Bool->yl->Prop),kindOf st=κ -> U x->U y->Q (some (O.blt (key x) (key y))) st->wpS (x9 prog w) A E s (lt' x y) Q st
section
variable  {prog:xX}{w:yv}{A:yy}{E:xw->xy->Prop}{s:xy}{O:BI}{key:xY->O.α}{U:xY->Prop}{κ:SortKind}
theorem aN {ar:Array xY}{i:Nat}{z:xY}{st:yl}{Q:xY->yl->Prop}(h:ar[i]? = some z)(hq:Q z st):wpS (x9 prog w) A E s (elem' ar i) Q st:=by
 rw[elem'_eq,h]
 exact x3 hq
theorem vA (C:Cmp prog w A s O key U κ){ky:xY}{ar:Array xY}{bs n ht:Nat}{st:yl}{Q:Option Nat->yl->Prop}(g:Nat->xY)(hk:kindOf st=κ)(uk:U ky)
  (hg:∀i,i<n->ar[bs+i]? = some (g i)) (hu:∀i,i<n->U (g i)) (hs:∀i j,i<=j->j<n->O.kle (key (g i)) (key (g j))) (hh:ht<n)
  (h:∀k,k<=n->(∀i,i<k->O.kle (key (g i)) (key ky))->(∀i,k<=i->i<n->O.klt (key ky) (key (g i)))->Q (some k) st):wpS (x9 prog w) A E s (gal false ky ar bs n ht) Q st:=by
 refine qK (λi => !O.blt (key ky) (key (g i))) (λi hi R hr =>?_) (λi j hij hj hp =>?_) hh (λk hk' h1 h2=>h k hk' (λi hi =>?_) λi hi hn =>?_)
 ·refine xQ (aN (hg i hi) ?_)
  rw[if_neg (by simp)]
  exact xQ (C.lt _ st ky (g i) _ hk uk (hu i hi) (x3 hr))
 ·have a1:O.blt (key ky) (key (g j))=false:=by simpa using hp
  have a2:O.kle (key (g i)) (key ky):=yq (hs i j hij hj) a1
  have a3:O.blt (key ky) (key (g i))=false:=a2
  simp[a3]
 ·have a1:=h1 i hi
  exact (by simpa using a1:O.blt (key ky) (key (g i))=false)
 ·have a1:=h2 i hi hn
  exact (by simpa using a1:O.blt (key ky) (key (g i))=true)
theorem vB (C:Cmp prog w A s O key U κ){ky:xY}{ar:Array xY}{bs n ht:Nat}{st:yl}{Q:Option Nat->yl->Prop}(g:Nat->xY)(hk:kindOf st=κ)(uk:U ky)
  (hg:∀i,i<n->ar[bs+i]? = some (g i)) (hu:∀i,i<n->U (g i)) (hs:∀i j,i<=j->j<n->O.kle (key (g i)) (key (g j))) (hh:ht<n)
  (h:∀k,k<=n->(∀i,i<k->O.klt (key (g i)) (key ky))->(∀i,k<=i->i<n->O.kle (key ky) (key (g i)))->Q (some k) st):wpS (x9 prog w) A E s (gal true ky ar bs n ht) Q st:=by
 refine qK (λi=>O.blt (key (g i)) (key ky)) (λi hi R hr =>?_) (λi j hij hj hp =>?_) hh (λk hk' h1 h2=>h k hk' (λi hi=>h1 i hi) λi hi hn=>h2 i hi hn)
 ·refine xQ (aN (hg i hi) ?_)
  rw[if_pos rfl]
  exact C.lt _ st (g i) ky _ hk (hu i hi) uk hr
 ·exact KeyOrd.klt_of_kle_of_klt (hs i j hij hj) hp
end
open PySem PyProof.Rows
section
variable  {O:BI}(key:xY->O.α)
def Le (p q:xY):Prop:=O.kle (key p) (key q)
structure MW (a b o:Array xY)(x y:Nat):Prop where
 hx:x<=a.size
 hy:y<=b.size
 perm:(o.toList++(a.toList.drop x++b.toList.drop y)).Perm (a.toList++b.toList)
 sorted:o.toList.Pairwise (Le key)
 below:∀p∈o.toList,∀z∈a.toList.drop x++b.toList.drop y,Le key p z
def dv (a b r:Array xY):Prop:=r.toList.Perm (a.toList++b.toList)/\r.toList.Pairwise (Le key)
variable  {key}
theorem MW.fin {a b o:Array xY}{x y:Nat}(m:MW key a b o x y){t:List xY}{r:Array xY}(hr:r.toList=o.toList++t)(ht:t.Perm (a.toList.drop x++b.toList.drop y))(hs:t.Pairwise (Le key)):dv key a b r:=by
 unfold dv
 rw[hr]
 exact ⟨(zT _ ht).trans m.perm,yH.mpr ⟨m.sorted,hs,λp hp q hq=>m.below p hp q (ht.mem_iff.mp hq)⟩⟩
theorem MW.take {a b o:Array xY}{x y x' y':Nat}(m:MW key a b o x y){t:List xY}{r:Array xY}(hr:r.toList=o.toList++t)(hx:x'<=a.size)(hy:y'<=b.size)
  (ht:(t++(a.toList.drop x'++b.toList.drop y')).Perm (a.toList.drop x++b.toList.drop y)) (hs:t.Pairwise (Le key)) (hb:∀p∈t,∀z∈a.toList.drop x'++b.toList.drop y',Le key p z):MW key a b r x' y':=by
 have sub:∀z,z∈t\/z∈a.toList.drop x'++b.toList.drop y'->z∈a.toList.drop x++b.toList.drop y:=λz hz=>ht.mem_iff.mp (xS.mpr hz)
 refine ⟨hx,hy,?_,?_,?_⟩
 ·rw[hr,yr]
  exact (zT _ ht).trans m.perm
 ·rw[hr]
  exact yH.mpr ⟨m.sorted,hs,λp hp q hq=>m.below p hp q (sub q (.inl hq))⟩
 ·rw[hr]
  intro p hp z hz
  rcases xS.mp hp with h | h
  ·exact m.below p h z (sub z (.inr hz))
  ·exact hb p h z hz
theorem drop_cons {α:Type}{l:List α}{i:Nat}{z:α}(h:l[i]? = some z):l.drop i=z :: l.drop (i+1):=by
 obtain ⟨hi,e⟩:=xB.mp h
 rw[List.drop_eq_getElem_cons hi,e]
theorem drop_take {α:Type}(l:List α)(i k:Nat):l.drop i=(l.drop i).take k++l.drop (i+k):=by
 rw[<- Er,zU]
theorem ay {a:Array xY}{i:Nat}{z:xY}(h:a[i]? = some z):a.toList[i]? = some z:=by rw[xU];exact h
theorem MW.iy {a b o:Array xY}{x y:Nat}{z:xY}(m:MW key a b o x y)(h:a[x]? = some z)(ha:a.toList.Pairwise (Le key))(hb:∀t∈b.toList.drop y,Le key z t):MW key a b (o.push z) (x+1) y:=by
 have e:=drop_cons (ay h)
 have hx:x<a.size:=(zK.mp h).1
 have pa:(z :: a.toList.drop (x+1)).Pairwise (Le key):=by rw[<- e];exact ha.sublist (yW _ _)
 refine m.take (t:=[z]) (by rw[Ac]) hx m.hy (by rw[e];exact Cj _) (yR _ _) λp hp t ht =>?_
 have ep:p=z:=by simpa using hp
 subst ep
 rcases xS.mp ht with q | q
 ·exact (Aq.mp pa).1 t q
 ·exact hb t q
theorem MW.kC {a b o:Array xY}{x y:Nat}{z:xY}(m:MW key a b o x y)(h:b[y]? = some z)(hb:b.toList.Pairwise (Le key))(ha:∀t∈a.toList.drop x,Le key z t):MW key a b (o.push z) x (y+1):=by
 have e:=drop_cons (ay h)
 have hy:y<b.size:=(zK.mp h).1
 have pb:(z :: b.toList.drop (y+1)).Pairwise (Le key):=by rw[<- e];exact hb.sublist (yW _ _)
 refine m.take (t:=[z]) (by rw[Ac]) m.hx hy (by rw[e,List.singleton_append];exact DZ.symm) (yR _ _) λp hp t ht =>?_
 have ep:p=z:=by simpa using hp
 subst ep
 rcases xS.mp ht with q | q
 ·exact ha t q
 ·exact (Aq.mp pb).1 t q
theorem ext_toList (a:Array xY)(x k:Nat):(a.extract x (x+k)).toList=(a.toList.drop x).take k:=by
 rw[zo,yT,AG]
theorem fD (a:Array xY)(x:Nat):(a.extract x a.size).toList=a.toList.drop x:=by
 rw[zo,yT]
 exact xW (by rw[An,xK];exact xC _)
theorem aA {l:List xY}(h:l.Pairwise (Le key)){i j:Nat}{p q:xY}(hi:l[i]? = some p)(hj:l[j]? = some q)(hij:i<=j):Le key p q:=by
 by_cases e:i=j
 ·subst e
  rw[hi] at hj
  cases hj
  exact zE _
 ·obtain ⟨h1,e1⟩:=xB.mp hi
  obtain ⟨h2,e2⟩:=xB.mp hj
  have:=Aw.mp h i j h1 h2 (by omega)
  rw[e1,e2] at this
  exact this
theorem aL {l:List xY}{i:Nat}{t:xY}(h:t∈l.drop i):∃j,i<=j/\l[j]? = some t:=by
 obtain ⟨n,e⟩:=yF.mp h
 rw[Bm] at e
 exact ⟨i+n,by omega,e⟩
theorem iz {l:List xY}{i k:Nat}{t:xY}(h:t∈(l.drop i).take k):∃j,j<k/\l[i+j]? = some t:=by
 obtain ⟨n,e⟩:=yF.mp h
 rw[zX] at e
 split at e
 ·rw[Bm] at e
  exact ⟨n,by omega,e⟩
 ·cases e
theorem MW.gu {a b o:Array xY}{x y k:Nat}(m:MW key a b o x y)(hk:x+k<=a.size)(ha:a.toList.Pairwise (Le key))(hb:∀j p,j<k->a.toList[x+j]? = some p->∀t∈b.toList.drop y,Le key p t):MW key a b (o++a.extract x (x+k)) (x+k) y:=by
 refine m.take (t:=(a.toList.drop x).take k) (by rw[yp,ext_toList]) hk m.hy ?_ ?_ λp hp t ht =>?_
 ·rw[<- yr, <- drop_take]
 ·exact ha.sublist ((zg _ _).trans (yW _ _))
 ·obtain ⟨j,hj,e⟩:=iz hp
  rcases xS.mp ht with q | q
  ·obtain ⟨i,hi,e2⟩:=aL q
   exact aA ha e e2 (by omega)
  ·exact hb j p hj e t q
theorem MW.qL {a b o:Array xY}{x y k:Nat}(m:MW key a b o x y)(hk:y+k<=b.size)(hb:b.toList.Pairwise (Le key))(ha:∀j p,j<k->b.toList[y+j]? = some p->∀t∈a.toList.drop x,Le key p t):MW key a b (o++b.extract y (y+k)) x (y+k):=by
 refine m.take (t:=(b.toList.drop y).take k) (by rw[yp,ext_toList]) m.hx hk ?_ ?_ λp hp t ht =>?_
 ·rw[drop_take b.toList y k]
  have e:((b.toList.drop y).take k++b.toList.drop (y+k)).take k=(b.toList.drop y).take k:=by rw[<- drop_take]
  rw[e]
  refine (List.perm_append_comm_assoc _ _ _)
 ·exact hb.sublist ((zg _ _).trans (yW _ _))
 ·obtain ⟨j,hj,e⟩:=iz hp
  rcases xS.mp ht with q | q
  ·exact ha j p hj e t q
  ·obtain ⟨i,hi,e2⟩:=aL q
   exact aA hb e e2 (by omega)
theorem MW.pE {a b o:Array xY}{x y:Nat}(m:MW key a b o x y)(ha:a.toList.Pairwise (Le key))(hy:y=b.size):dv key a b (o++a.extract x a.size++b.extract y b.size):=by
 subst hy
 have e:b.toList.drop b.size=[]:=CT (by rw[xK];exact xC _)
 refine m.fin (t:=a.toList.drop x) (by rw[yp,yp,fD,fD,e,yC]) (by rw[e,yC]) (ha.sublist (yW _ _))
theorem MW.pF {a b o:Array xY}{x y:Nat}(m:MW key a b o x y)(hb:b.toList.Pairwise (Le key))(hx:x=a.size):dv key a b (o++a.extract x a.size++b.extract y b.size):=by
 subst hx
 have e:a.toList.drop a.size=[]:=CT (by rw[xK];exact xC _)
 refine m.fin (t:=b.toList.drop y) (by rw[yp,yp,fD,fD,e,yC]) (by rw[e,B2]) (hb.sublist (yW _ _))
theorem MW.last {a b o:Array xY}{x y:Nat}(m:MW key a b o x y)(ha:a.toList.Pairwise (Le key))(hb:b.toList.Pairwise (Le key))(hx:x+1=a.size)(hl:∀p q,p∈b.toList->a[a.size-1]? = some q->Le key p q):dv key a b (o++b.extract y b.size++a.extract x a.size):=by
 refine m.fin (t:=b.toList.drop y++a.toList.drop x) (by rw[yp,yp,fD,fD,yr]) zV ?_
 refine yH.mpr ⟨hb.sublist (yW _ _),ha.sublist (yW _ _),λp hp q hq=>hl p q (A6 hp) ?_⟩
 obtain ⟨i,hi,e⟩:=aL hq
 rw[xU] at e
 have hi2:i<a.size:=(zK.mp e).1
 rw[show a.size-1=i by omega]
 exact e
theorem MW.size {a b o:Array xY}{x y:Nat}(m:MW key a b o x y):o.size+(a.size-x)+(b.size-y)=a.size+b.size:=by
 have e:=m.perm.length_eq
 simp only[xM,An,xK] at e
 omega
end
structure Sm (st st':yl):Prop where
 k:kindOf st'=kindOf st
 a:x4 st'=x4 st
 p:yi st'=yi st
 f:failedOf st'=failedOf st
theorem Sm.refl (st:yl):Sm st st:=⟨rfl,rfl,rfl,rfl⟩
theorem Sm.mg {st st':yl}(h:Sm st st')(n:Nat):Sm st (SortSt.mk' (kindOf st') (x4 st') (yi st') n (failedOf st')):=⟨h.k,h.a,h.p,h.f⟩
open PySem PyProof.Rows
section
variable  {prog:xX}{w:yv}{A:yy}{E:xw->xy->Prop}{s:xy}{O:BI}{key:xY->O.α}{U:xY->Prop}{κ:SortKind}
theorem aP {a:Array xY}{i:Nat}(h:i<a.size):∃z,a[i]? = some z:=⟨a[i],by simp[h]⟩
theorem bq {a:Array xY}{i:Nat}{z:xY}(h:a[i]? = some z):z∈a.toList:=yF.mpr ⟨i,by rw[xU];exact h⟩
theorem ltq {x n:Nat}(h:x<=n)(c:¬ (x == n)=true):x<n:=Dx h λz=>c (beq_iff_eq.mpr z)
abbrev LoC:=Option (Array xY)×Array xY×Nat×Nat×Nat×Nat×Nat
def tG (a b o:Array xY)(x y mg ac bc:Nat):StateT yl Sem (ForInStep LoC):=do
  let z ← elem' a x
  if (x+1+1 == a.size)=true then pure (.done (some (o.push z++b.extract y b.size++a.extract (x+1) a.size),o.push z,x+1,y,mg,ac,bc))
  else if (decide (ac<7) && decide (bc<7))=true then pure (.done (none,o.push z,x+1,y,mg,ac,bc))
  else pure (.yield (none,o.push z,x+1,y,mg,ac,bc))
def tH (a b o:Array xY)(x y mg ac bc:Nat):StateT yl Sem (ForInStep LoC):=do
  let z ← elem' b y
  if (y+1 == b.size)=true then pure (.done (some (o.push z++a.extract x a.size++b.extract (y+1) b.size),o.push z,x,y+1,mg,ac,bc))
  else do
    let z2 ← elem' a x
    let __x ← gal true z2 b (y+1) (b.size-(y+1)) 0
    match __x with
    | some k =>
      if k>0 then
        if (y+1+k == b.size)=true then pure (.done (some (o.push z++b.extract (y+1) (y+1+k)++a.extract x a.size++b.extract (y+1+k) b.size),o.push z++b.extract (y+1) (y+1+k),x,y+1+k,mg,ac,k))
        else tG a b (o.push z++b.extract (y+1) (y+1+k)) x (y+1+k) mg ac k
      else tG a b (o.push z) x (y+1) mg ac k
    | _=>pure (.done (some (o.push z++a.extract x a.size++b.extract (y+1) b.size),o.push z,x,y+1,mg,ac,bc))
def pG (a b p:Array xY)(x y ac bc mg:Nat):StateT yl Sem (ForInStep LoC):=do
  modify (λs=>SortSt.mk' (kindOf s) (x4 s) (yi s) mg (failedOf s))
  let z ← elem' b y
  let __x ← gal false z a x (a.size-x) 0
  match __x with
  | some k =>
    if k>0 then
      if (x+k+1 == a.size)=true then pure (.done (some (p++a.extract x (x+k)++b.extract y b.size++a.extract (x+k) a.size),p++a.extract x (x+k),x+k,y,mg,k,bc))
      else if (x+k == a.size)=true then pure (.done (some (p++a.extract x (x+k)++a.extract (x+k) a.size++b.extract y b.size),p++a.extract x (x+k),x+k,y,mg,k,bc))
      else tH a b (p++a.extract x (x+k)) (x+k) y mg k bc
    else tH a b p x y mg k bc
  | _=>pure (.done (some (p++a.extract x a.size++b.extract y b.size),p,x,y,mg,ac,bc))
def LoQ (key:xY->O.α)(a b:Array xY)(st:yl)(n:Nat)(r:ForInStep LoC)(st':yl):Prop:=match r with
 | .done c=>Sm st st'/\((∃r p x y mg ac bc,c=(some r,p,x,y,mg,ac,bc)/\dv key a b r)\/∃p x y mg ac bc,c=(none,p,x,y,mg,ac,bc)/\MW key a b p x y/\x+1<a.size/\y<b.size/\n<=p.size)
 | .yield c=>Sm st st'/\∃p x y mg ac bc,c=(none,p,x,y,mg,ac,bc)/\MW key a b p x y/\x+1<a.size/\y<b.size/\n<=p.size
theorem LoQ.out {a b:Array xY}{st st':yl}{n:Nat}{r:Array xY}{c:Array xY×Nat×Nat×Nat×Nat×Nat}(sm:Sm st st')(f:dv key a b r):LoQ key a b st n (.done (some r,c)) st':=by
 obtain ⟨p,x,y,mg,ac,bc⟩:=c
 exact ⟨sm,.inl ⟨_,_,_,_,_,_,_,rfl,f⟩⟩
theorem oa {a b:Array xY}{st st':yl}(ha:a.toList.Pairwise (Le key))(hb:b.toList.Pairwise (Le key))(hl:∀p q,p∈b.toList->a[a.size-1]? = some q->Le key p q)
  {o:Array xY} {x y mg ac bc n:Nat} {za:xY} (sm:Sm st st') (ea:a[x]? = some za) (m4:MW key a b (o.push za) (x+1) y) (hx:x+1<a.size) (hy:y<b.size) (hn:n<=o.size):wpS (x9 prog w) A E s (tG a b o x y mg ac bc) (LoQ key a b st n) st':=by
 unfold tG
 refine xQ (aN ea ?_)
 by_cases d5:(x+1+1 == a.size)=true
 ·rw[if_pos d5]
  exact x3 (LoQ.out sm (m4.last ha hb (beq_iff_eq.mp d5) hl))
 rw[if_neg d5]
 have hx2:x+1+1<a.size:=ltq hx d5
 have hn':n<=(o.push za).size:=by rw[zW];exact BA hn
 split
 ·exact x3 ⟨sm,.inr ⟨_,_,_,_,_,_,rfl,m4,hx2,hy,hn'⟩⟩
 ·exact x3 ⟨sm,_,_,_,_,_,_,rfl,m4,hx2,hy,hn'⟩
theorem og (C:Cmp prog w A s O key U κ){a b:Array xY}{st st':yl}(hκ:kindOf st=κ)(ua:∀p∈a.toList,U p)(ub:∀p∈b.toList,U p)
  (ha:a.toList.Pairwise (Le key)) (hb:b.toList.Pairwise (Le key)) (hl:∀p q,p∈b.toList->a[a.size-1]? = some q->Le key p q)
  {o:Array xY} {x y mg ac bc n:Nat} {zb:xY} (sm:Sm st st') (eb:b[y]? = some zb) (mk:MW key a b o x y) (bl:∀t∈a.toList.drop x,Le key zb t) (hx1:x+1<a.size) (hy:y<b.size) (hn:n<=o.size):wpS (x9 prog w) A E s (tH a b o x y mg ac bc) (LoQ key a b st n) st':=by
 unfold tH
 refine xQ (aN eb ?_)
 have m2:=mk.kC eb hb bl
 by_cases d3:(y+1 == b.size)=true
 ·rw[if_pos d3]
  exact x3 (LoQ.out sm (m2.pE ha (beq_iff_eq.mp d3)))
 rw[if_neg d3]
 have hy1:y+1<b.size:=ltq hy d3
 have hxa:x<a.size:=Ct hx1
 obtain ⟨za,ea⟩:=aP hxa
 refine xQ (aN ea ?_)
 refine xQ (vB C (λi=>(b[y+1+i]?).getD za) (sm.k.trans hκ) (ua _ (bq ea)) (λi hi =>?_) (λi hi =>?_) (λi j hij hj =>?_) (DJ hy1) λk1 hk1 g1 g2 =>?_)
 ·obtain ⟨z,e⟩:=aP (show y+1+i<b.size by omega)
  rw[e];rfl
 ·obtain ⟨z,e⟩:=aP (show y+1+i<b.size by omega)
  rw[e];exact ub _ (bq e)
 ·obtain ⟨z,e⟩:=aP (show y+1+i<b.size by omega)
  obtain ⟨z',e'⟩:=aP (show y+1+j<b.size by omega)
  rw[e,e'];exact aA hb (ay e) (ay e') (Bc hij _)
 dsimp only at g1 g2 ⊢
 have tb:∀j q,j<k1->b.toList[y+1+j]? = some q->∀t∈a.toList.drop x,Le key q t:=λj q hj e t ht=>by
  have z:=g1 j hj
  rw[xU] at e
  rw[e] at z
  obtain ⟨n,hn,e2⟩:=aL ht
  exact yq (zi z) (aA ha (ay ea) e2 hn)
 have hk1':y+1+k1<=b.size:=by omega
 have m3:=m2.qL (k:=k1) hk1' hb tb
 have bl2:∀t∈b.toList.drop (y+1+k1),Le key za t:=λt ht=>by
  obtain ⟨n,hn,e2⟩:=aL ht
  rw[xU] at e2
  have hn2:n<b.size:=(zK.mp e2).1
  have z:=g2 (n-(y+1)) (by omega) (by omega)
  rw[show y+1+(n-(y+1))=n by omega,e2] at z
  exact z
 have hn1:n<=(o.push zb).size:=by rw[zW];exact BA hn
 by_cases k2:k1>0
 ·rw[if_pos k2]
  by_cases d4:(y+1+k1 == b.size)=true
  ·rw[if_pos d4]
   exact x3 (LoQ.out sm (m3.pE ha (beq_iff_eq.mp d4)))
  rw[if_neg d4]
  exact oa ha hb hl sm ea (m3.iy ea ha bl2) hx1 (ltq hk1' d4) (yf hn1 (by rw[A3];exact AK _ _))
 ·rw[if_neg k2]
  obtain rfl:k1=0:=AO k2
  exact oa ha hb hl sm ea (m2.iy ea ha bl2) hx1 hy1 hn1
theorem oh (C:Cmp prog w A s O key U κ){a b:Array xY}{st st':yl}(hκ:kindOf st=κ)(ua:∀p∈a.toList,U p)(ub:∀p∈b.toList,U p)
  (ha:a.toList.Pairwise (Le key)) (hb:b.toList.Pairwise (Le key)) (hl:∀p q,p∈b.toList->a[a.size-1]? = some q->Le key p q)
  {p:Array xY} {x y ac bc n:Nat} (mg:Nat) (sm:Sm st st') (m:MW key a b p x y) (hx:x+1<a.size) (hy:y<b.size) (hn:n<=p.size):wpS (x9 prog w) A E s (pG a b p x y ac bc mg) (LoQ key a b st n) st':=by
 unfold pG
 obtain ⟨zb,eb⟩:=aP hy
 refine xQ (Ae ?_)
 refine xQ (aN eb ?_)
 refine xQ (vA C (λi=>(a[x+i]?).getD zb) ((sm.mg _).k.trans hκ) (ub _ (bq eb)) (λi hi =>?_) (λi hi =>?_) (λi j hij hj =>?_) (DJ (Ct hx)) λk hk h1 h2 =>?_)
 ·obtain ⟨z,e⟩:=aP (show x+i<a.size by omega)
  rw[e];rfl
 ·obtain ⟨z,e⟩:=aP (show x+i<a.size by omega)
  rw[e];exact ua _ (bq e)
 ·obtain ⟨z,e⟩:=aP (show x+i<a.size by omega)
  obtain ⟨z',e'⟩:=aP (show x+j<a.size by omega)
  rw[e,e'];exact aA ha (ay e) (ay e') (Bc hij _)
 dsimp only at h1 h2 ⊢
 have ta:∀j q,j<k->a.toList[x+j]? = some q->∀t∈b.toList.drop y,Le key q t:=λj q hj e t ht=>by
  have z:=h1 j hj
  rw[xU] at e
  rw[e] at z
  obtain ⟨n,hn,e2⟩:=aL ht
  exact yq (show O.kle (key q) (key zb) from z) (aA hb (ay eb) e2 hn)
 have hk':x+k<=a.size:=by omega
 have mk:=m.gu (k:=k) hk' ha ta
 have bl:∀t∈a.toList.drop (x+k),Le key zb t:=λt ht=>by
  obtain ⟨n,hn,e2⟩:=aL ht
  rw[xU] at e2
  have hn2:n<a.size:=(zK.mp e2).1
  have z:=h2 (n-x) (by omega) (by omega)
  rw[show x+(n-x)=n by omega,e2] at z
  exact zi z
 by_cases k0:k>0
 ·rw[if_pos k0]
  by_cases d1:(x+k+1 == a.size)=true
  ·rw[if_pos d1]
   exact x3 (LoQ.out (sm.mg _) (mk.last ha hb (beq_iff_eq.mp d1) hl))
  rw[if_neg d1]
  by_cases d2:(x+k == a.size)=true
  ·rw[if_pos d2]
   exact x3 (LoQ.out (sm.mg _) (mk.pF hb (beq_iff_eq.mp d2)))
  rw[if_neg d2]
  exact og C hκ ua ub ha hb hl (sm.mg _) eb mk bl (ltq (ltq hk' d2) d1) hy (yf hn (by rw[A3];exact AK _ _))
 ·rw[if_neg k0]
  obtain rfl:k=0:=AO k0
  exact og C hκ ua ub ha hb hl (sm.mg _) eb m bl hx hy hn
theorem tJ (C:Cmp prog w A s O key U κ){a b:Array xY}{st st':yl}(hκ:kindOf st=κ)(ua:∀p∈a.toList,U p)(ub:∀p∈b.toList,U p)
  (ha:a.toList.Pairwise (Le key)) (hb:b.toList.Pairwise (Le key)) (hl:∀p q,p∈b.toList->a[a.size-1]? = some q->Le key p q)
  {p:Array xY} {x y ac bc n mg:Nat} (sm:Sm st st') (m:MW key a b p x y) (hx:x+1<a.size) (hy:y<b.size) (hn:n<=p.size):wpS (x9 prog w) A E s (if mg>1 then pG a b p x y ac bc (mg-1) else pG a b p x y ac bc mg) (LoQ key a b st n) st':=by
 split
 ·exact oh C hκ ua ub ha hb hl (mg-1) sm m hx hy hn
 ·exact oh C hκ ua ub ha hb hl mg sm m hx hy hn
abbrev LoD:=Option (Array xY)×Array xY×Nat×Nat×Nat×Nat
abbrev LoE:=Option (Array xY)×Array xY×Nat×Nat×Nat
def qM (a b:Array xY)(mg:Nat)(c:LoD):StateT yl Sem (ForInStep LoD):=do
  let u ← elem' b c.2.2.2.1
  let v ← elem' a c.2.2.1
  let __x ← lt' u v
  match __x with
  | some bw =>
    if bw=true then do
      let z ← elem' b c.2.2.2.1
      if (c.2.2.2.1+1 == b.size)=true then pure (.done (some (c.2.1.push z++a.extract c.2.2.1 a.size++b.extract (c.2.2.2.1+1) b.size),c.2.1.push z,c.2.2.1,c.2.2.2.1+1,0,c.2.2.2.2.2+1))
      else if c.2.2.2.2.2+1≥mg then pure (.done (none,c.2.1.push z,c.2.2.1,c.2.2.2.1+1,0,c.2.2.2.2.2+1))
      else pure (.yield (none,c.2.1.push z,c.2.2.1,c.2.2.2.1+1,0,c.2.2.2.2.2+1))
    else do
      let z ← elem' a c.2.2.1
      if (c.2.2.1+1+1 == a.size)=true then pure (.done (some (c.2.1.push z++b.extract c.2.2.2.1 b.size++a.extract (c.2.2.1+1) a.size),c.2.1.push z,c.2.2.1+1,c.2.2.2.1,c.2.2.2.2.1+1,0))
      else if c.2.2.2.2.1+1≥mg then pure (.done (none,c.2.1.push z,c.2.2.1+1,c.2.2.2.1,c.2.2.2.2.1+1,0))
      else pure (.yield (none,c.2.1.push z,c.2.2.1+1,c.2.2.2.1,c.2.2.2.2.1+1,0))
  | _=>pure (.done (some (c.2.1++a.extract c.2.2.1 a.size++b.extract c.2.2.2.1 b.size),c.2.1,c.2.2.1,c.2.2.2.1,c.2.2.2.2.1,c.2.2.2.2.2))
def vD (a b:Array xY)(c:LoC):StateT yl Sem (ForInStep LoC) :=
 if c.2.2.2.2.1>1 then pG a b c.2.1 c.2.2.1 c.2.2.2.1 c.2.2.2.2.2.1 c.2.2.2.2.2.2 (c.2.2.2.2.1-1) else pG a b c.2.1 c.2.2.1 c.2.2.2.1 c.2.2.2.2.2.1 c.2.2.2.2.2.2 c.2.2.2.2.1
def nG (a b:Array xY)(c:LoE):StateT yl Sem (ForInStep LoE):=do
  let d ← forIn [0:a.size+b.size] ((none,c.2.1,c.2.2.1,c.2.2.2.1,0,0):LoD) λ_ d=>qM a b c.2.2.2.2 d
  match d.1 with
  | some r=>pure (.done (some r,d.2.1,d.2.2.1,d.2.2.2.1,c.2.2.2.2))
  | none=>do
    rule "list.sort.gallop"
    let e ← forIn [0:a.size+b.size] ((none,d.2.1,d.2.2.1,d.2.2.2.1,c.2.2.2.2+1,d.2.2.2.2.1,d.2.2.2.2.2):LoC) λ_ e=>vD a b e
    match e.1 with
    | some r=>pure (.done (some r,e.2.1,e.2.2.1,e.2.2.2.1,e.2.2.2.2.1))
    | none=>do
      modify (λs=>SortSt.mk' (kindOf s) (x4 s) (yi s) (e.2.2.2.2.1+1) (failedOf s))
      pure (.yield (none,e.2.1,e.2.2.1,e.2.2.2.1,e.2.2.2.2.1+1))
theorem tK (a b:Array xY):mLo a b=(do
    rule "list.sort.merge-lo"
    let z ← elem' b 0
    if (1 == b.size)=true then pure (#[z]++a.extract 0 a.size++b.extract 1 b.size)
    else if (0+1 == a.size)=true then pure (#[z]++b.extract 1 b.size++a.extract 0 a.size)
    else do
      let g ← get
      let c ← forIn [0:a.size+b.size] ((none, #[z],0,1,gallopOf g):LoE) λ_ c=>nG a b c
      match c.1 with
      | some r=>pure r
      | none=>unsupported "internal:list.sort.merge-bound"):=by
  kernel_rfl
def LdI (key:xY->O.α)(a b:Array xY)(st:yl)(n:Nat)(c:LoD)(st':yl):Prop:=Sm st st'/\∃o' x y ac bc,c=(none,o',x,y,ac,bc)/\MW key a b o' x y/\x+1<a.size/\y<b.size/\n<=o'.size
def LdQ (key:xY->O.α)(a b:Array xY)(st:yl)(n:Nat)(c:LoD)(st':yl):Prop:=Sm st st'/\((∃r o x y ac bc,c=(some r,o,x,y,ac,bc)/\dv key a b r)\/∃o' x y ac bc,c=(none,o',x,y,ac,bc)/\MW key a b o' x y/\x+1<a.size/\y<b.size/\n<=o'.size)
theorem qN (C:Cmp prog w A s O key U κ){a b:Array xY}{st st':yl}(hκ:kindOf st=κ)(ua:∀p∈a.toList,U p)(ub:∀p∈b.toList,U p)
  (ha:a.toList.Pairwise (Le key)) (hb:b.toList.Pairwise (Le key)) (hl:∀p q,p∈b.toList->a[a.size-1]? = some q->Le key p q)
  {mg n m':Nat} {c:LoD} (I:LdI key a b st n c st') (hm:m'<=n+1) {Q:ForInStep LoD->yl->Prop} (h:∀r st',(match r with | .done c'=>LdQ key a b st (n+1) c' st' | .yield c'=>LdI key a b st m' c' st')->Q r st'):wpS (x9 prog w) A E s (qM a b mg c) Q st':=by
 obtain ⟨sm2,o',x,y,ac,bc,rfl,m,hx,hy,hz⟩:=I
 unfold qM
 obtain ⟨za,ea⟩:=aP (Ct hx)
 obtain ⟨zb,eb⟩:=aP hy
 refine xQ (aN eb (xQ (aN ea (xQ (C.lt _ st' zb za _ (sm2.k.trans hκ) (ub _ (bq eb)) (ua _ (bq ea)) ?_)))))
 dsimp only
 have sz:∀z,n+1<=(o'.push z).size:=λz=>by rw[zW];exact D0 hz
 cases hlt:O.blt (key zb) (key za) with
 | true =>
  rw[if_pos rfl]
  refine xQ (aN eb ?_)
  have m1:=m.kC eb hb λt ht=>by
   obtain ⟨n,hn,e⟩:=aL ht
   exact yq (zi hlt) (aA ha (ay ea) e hn)
  by_cases c3:(y+1 == b.size)=true
  ·rw[if_pos c3]
   exact x3 (h _ _ ⟨sm2,.inl ⟨_,_,_,_,_,_,rfl,m1.pE ha (beq_iff_eq.mp c3)⟩⟩)
  ·rw[if_neg c3]
   have c3':=ltq hy c3
   split
   ·exact x3 (h _ _ ⟨sm2,.inr ⟨_,_,_,_,_,rfl,m1,hx,c3',sz _⟩⟩)
   ·exact x3 (h _ _ ⟨sm2,_,_,_,_,_,rfl,m1,hx,c3',yf hm (sz _)⟩)
 | false =>
  rw[if_neg xN]
  refine xQ (aN ea ?_)
  have m1:=m.iy ea ha λt ht=>by
   obtain ⟨n,hn,e⟩:=aL ht
   exact yq (show O.kle (key za) (key zb) from hlt) (aA hb (ay eb) e hn)
  by_cases c3:(x+1+1 == a.size)=true
  ·rw[if_pos c3]
   exact x3 (h _ _ ⟨sm2,.inl ⟨_,_,_,_,_,_,rfl,m1.last ha hb (beq_iff_eq.mp c3) hl⟩⟩)
  ·rw[if_neg c3]
   have c3':=ltq hx c3
   split
   ·exact x3 (h _ _ ⟨sm2,.inr ⟨_,_,_,_,_,rfl,m1,c3',hy,sz _⟩⟩)
   ·exact x3 (h _ _ ⟨sm2,_,_,_,_,_,rfl,m1,c3',hy,yf hm (sz _)⟩)
def LeI (key:xY->O.α)(a b:Array xY)(st:yl)(n:Nat)(c:LoE)(st':yl):Prop:=Sm st st'/\∃o x y mg,c=(none,o,x,y,mg)/\MW key a b o x y/\x+1<a.size/\y<b.size/\n+1<=o.size
def LeQ (key:xY->O.α)(a b:Array xY)(st:yl)(c:LoE)(st':yl):Prop:=Sm st st'/\((∃r o x y mg,c=(some r,o,x,y,mg)/\dv key a b r)\/∃o x y mg,c=(none,o,x,y,mg)/\MW key a b o x y/\x+1<a.size/\y<b.size/\a.size+b.size+1<=o.size)
theorem pH (C:Cmp prog w A s O key U κ){a b:Array xY}{st st':yl}(hκ:kindOf st=κ)(ua:∀p∈a.toList,U p)(ub:∀p∈b.toList,U p)
  (ha:a.toList.Pairwise (Le key)) (hb:b.toList.Pairwise (Le key)) (na:0<a.size) (hl:∀p q,p∈b.toList->a[a.size-1]? = some q->Le key p q)
  {n:Nat} {c:LoE} (I:LeI key a b st n c st'):wpS (x9 prog w) A E s (nG a b c) (λr st'=>match r with | .done c'=>LeQ key a b st c' st' | .yield c'=>LeI key a b st (n+1) c' st') st':=by
 obtain ⟨sm1,o,x,y,mg,rfl,m,hx,hy,hz⟩:=I
 unfold nG
 have q1:1<=a.size+b.size:=yf na (AK _ _)
 refine xQ (zQ (y7 (I:=λj c st'=>LdI key a b st (o.size+min j 1) c st') (Q:=LdQ key a b st (o.size+1)) (λj c st2 _ hj J=>qN (n:=o.size+min j 1) (m':=o.size+min (j+1) 1) C hκ ua ub ha hb hl J (by omega) λr st' k =>?_) (λc st' J =>?_) ⟨sm1,o,x,y,0,0,rfl,m,hx,hy,xC _⟩) ?_)
 ·cases r with
  | done c'=>exact k.imp id λz=>z.imp id λ⟨o',x,y,ac,bc,e,m,hx,hy,hz⟩=>⟨o',x,y,ac,bc,e,m,hx,hy,by omega⟩
  | yield c'=>exact k
 ·obtain ⟨sm,o',x,y,ac,bc,e,m,hx,hy,hz⟩:=J
  exact ⟨sm,.inr ⟨o',x,y,ac,bc,e,m,hx,hy,by omega⟩⟩
 rintro c st2 ⟨sm2,⟨r,o',x,y,ac,bc,rfl,fr⟩ | ⟨o',x,y,ac,bc,rfl,m,hx,hy,hz2⟩⟩
 ·exact x3 ⟨sm2,.inl ⟨_,_,_,_,_,rfl,fr⟩⟩
 dsimp only
 refine xQ (BW (AN ⟨rfl,?_⟩))
 refine xQ (zQ (y7 (I:=λ_ c st'=>LoQ key a b st o'.size (.yield c) st') (Q:=λc st'=>LoQ key a b st o'.size (.done c) st') (λj c st3 _ hj J =>?_) (λc st' J=>⟨J.1,.inr J.2⟩) ⟨sm2,o',x,y,_,ac,bc,rfl,m,hx,hy,xC _⟩) ?_)
 ·obtain ⟨sm3,p,x,y,mg,ac,bc,rfl,m,hx,hy,hz3⟩:=J
  refine zQ (tJ C hκ ua ub ha hb hl sm3 m hx hy hz3) ?_
  intro r st' h
  cases r <;> exact h
 rintro c st3 ⟨sm3,⟨r,p,x,y,mg,ac,bc,rfl,fr⟩ | ⟨p,x,y,mg,ac,bc,rfl,m,hx,hy,hz3⟩⟩
 ·exact x3 ⟨sm3,.inl ⟨_,_,_,_,_,rfl,fr⟩⟩
 ·dsimp only
  exact xQ (Ae (x3 ⟨sm3.mg _,p,x,y,_,rfl,m,hx,hy,by omega⟩))
theorem vE (C:Cmp prog w A s O key U κ){a b:Array xY}{st:yl}{Q:Array xY->yl->Prop}(hκ:kindOf st=κ)(ua:∀p∈a.toList,U p)(ub:∀p∈b.toList,U p)
  (ha:a.toList.Pairwise (Le key)) (hb:b.toList.Pairwise (Le key)) (na:0<a.size) (nb:0<b.size) (h0:∀p q,b[0]? = some p->a[0]? = some q->Le key p q) (hl:∀p q,p∈b.toList->a[a.size-1]? = some q->Le key p q)
  (h:∀r st',Sm st st'->dv key a b r->Q r st'):wpS (x9 prog w) A E s (mLo a b) Q st:=by
 rw[tK]
 refine xQ (BW (AN ⟨rfl,?_⟩))
 obtain ⟨b0,eb0⟩:=aP nb
 obtain ⟨a0,ea0⟩:=aP na
 have a0le:∀t∈a.toList,Le key a0 t:=λt ht=>by
  obtain ⟨i,e⟩:=yF.mp ht
  exact aA ha (ay ea0) e (yE _)
 have m0:MW key a b #[] 0 0:=⟨yE _,yE _,Cj _,List.Pairwise.nil,λp hp=>by cases hp⟩
 have m1:MW key a b #[b0] 0 1:=m0.kC eb0 hb λt ht=>yq (h0 _ _ eb0 ea0) (a0le t ht)
 refine xQ (aN eb0 ?_)
 by_cases c1:(1 == b.size)=true
 ·rw[if_pos c1]
  exact x3 (h _ st (Sm.refl st) (m1.pE ha (beq_iff_eq.mp c1)))
 rw[if_neg c1]
 by_cases c2:(0+1 == a.size)=true
 ·rw[if_pos c2]
  exact x3 (h _ st (Sm.refl st) (m1.last ha hb (beq_iff_eq.mp c2) hl))
 rw[if_neg c2]
 refine xQ (BN ?_)
 refine xQ (zQ (y7 (I:=λi c st'=>LeI key a b st i c st') (Q:=LeQ key a b st) (λi c st1 _ _ J=>zQ (pH C hκ ua ub ha hb na hl J) λr st' h=>by cases r <;> exact h) (λc st' J =>?_) ⟨Sm.refl st,_,_,_,_,rfl,m1,ltq na c2,ltq nb c1,xC _⟩) ?_)
 ·obtain ⟨sm,o,x,y,mg,e,m,hx,hy,hz⟩:=J
  exact ⟨sm,.inr ⟨o,x,y,mg,e,m,hx,hy,by omega⟩⟩
 rintro c st' ⟨sm,⟨r,o,x,y,mg,rfl,fr⟩ | ⟨o,x,y,mg,rfl,m,hx,hy,hz⟩⟩
 ·exact x3 (h r st' sm fr)
 ·have:=m.size
  omega
end
open PySem PyProof.Rows
section
variable  {O:BI}(key:xY->O.α)
structure MV (a b o:Array xY)(x y:Nat):Prop where
 hx:x<=a.size
 hy:y<=b.size
 perm:((a.toList.take x++b.toList.take y)++o.toList.reverse).Perm (a.toList++b.toList)
 sorted:o.toList.reverse.Pairwise (Le key)
 above:∀p∈a.toList.take x++b.toList.take y,∀q∈o.toList.reverse,Le key p q
variable  {key}
theorem MV.fin {a b o:Array xY}{x y:Nat}(m:MV key a b o x y){t:List xY}{r:Array xY}(hr:r.toList=t++o.toList.reverse)(ht:t.Perm (a.toList.take x++b.toList.take y))(hs:t.Pairwise (Le key)):dv key a b r:=by
 unfold dv
 rw[hr]
 exact ⟨(Ak _ ht).trans m.perm,yH.mpr ⟨hs,m.sorted,λp hp q hq=>m.above p (ht.mem_iff.mp hp) q hq⟩⟩
theorem MV.take {a b o:Array xY}{x y x' y':Nat}(m:MV key a b o x y){t:List xY}{r:Array xY}(hr:r.toList.reverse=t++o.toList.reverse)(hx:x'<=a.size)(hy:y'<=b.size)
  (ht:((a.toList.take x'++b.toList.take y')++t).Perm (a.toList.take x++b.toList.take y)) (hs:t.Pairwise (Le key)) (hb:∀p∈a.toList.take x'++b.toList.take y',∀q∈t,Le key p q):MV key a b r x' y':=by
 have sub:∀z,z∈a.toList.take x'++b.toList.take y'\/z∈t->z∈a.toList.take x++b.toList.take y:=λz hz=>ht.mem_iff.mp (xS.mpr hz)
 refine ⟨hx,hy,?_,?_,?_⟩
 ·rw[hr, <- yr]
  exact (Ak _ ht).trans m.perm
 ·rw[hr]
  exact yH.mpr ⟨hs,m.sorted,λp hp q hq=>m.above p (sub p (.inr hp)) q hq⟩
 ·rw[hr]
  intro p hp z hz
  rcases xS.mp hz with h | h
  ·exact hb p hp z h
  ·exact m.above p (sub p (.inl hp)) z h
theorem aQ {l:List xY}{k:Nat}{t:xY}(h:t∈l.take k):∃j,j<k/\l[j]? = some t:=by
 obtain ⟨n,e⟩:=yF.mp h
 rw[zX] at e
 split at e
 ·exact ⟨n,by omega,e⟩
 ·cases e
theorem kD {l:List xY}{x:Nat}{z:xY}(hx:1<=x)(h:l[x-1]? = some z):l.take x=l.take (x-1)++[z]:=by
 obtain ⟨n,rfl⟩:∃n,x=n+1:=⟨x-1,by omega⟩
 rw[Nat.add_sub_cancel] at h ⊢
 rw[ye,h]
 rfl
theorem oi (a:Array xY)(c x:Nat)(hx:x<=a.size):(a.extract c x).toList=(a.toList.take x).drop c:=by
 rw[zo,yT,List.drop_take]
theorem fE (a:Array xY)(x:Nat):(a.extract 0 x).toList=a.toList.take x:=by
 rw[zo,yT,Es,Nat.sub_zero]
theorem MV.iy {a b o:Array xY}{x y:Nat}{z:xY}(m:MV key a b o x y)(h1:1<=x)(h:a[x-1]? = some z)(ha:a.toList.Pairwise (Le key))(hb:∀t∈b.toList.take y,Le key t z):MV key a b (o.push z) (x-1) y:=by
 have e:=kD h1 (ay h)
 refine m.take (t:=[z]) (by rw[Ac,Bd];rfl) (by have:=m.hx;omega) m.hy ?_ (yR _ _) λp hp q hq =>?_
 ·rw[e,yr,yr]
  exact zT _ zV
 ·have eq:q=z:=by simpa using hq
  subst eq
  rcases xS.mp hp with r | r
  ·obtain ⟨j,hj,e2⟩:=aQ r
   exact aA ha e2 (ay h) (by omega)
  ·exact hb p r
theorem MV.kC {a b o:Array xY}{x y:Nat}{z:xY}(m:MV key a b o x y)(h1:1<=y)(h:b[y-1]? = some z)(hb:b.toList.Pairwise (Le key))(ha:∀t∈a.toList.take x,Le key t z):MV key a b (o.push z) x (y-1):=by
 have e:=kD h1 (ay h)
 refine m.take (t:=[z]) (by rw[Ac,Bd];rfl) m.hx (by have:=m.hy;omega) ?_ (yR _ _) λp hp q hq =>?_
 ·rw[e,yr]
 ·have eq:q=z:=by simpa using hq
  subst eq
  rcases xS.mp hp with r | r
  ·exact ha p r
  ·obtain ⟨j,hj,e2⟩:=aQ r
   exact aA hb e2 (ay h) (by omega)
theorem oj (l:List xY){c x:Nat}(h:c<=x):l.take x=l.take c++(l.take x).drop c:=by
 have e:(l.take x).take c=l.take c:=by rw[List.take_take,Nat.min_eq_left h]
 rw[<- e,zU]
theorem jk {l:List xY}{c x:Nat}{t:xY}(h:t∈(l.take x).drop c):∃j,c<=j/\j<x/\l[j]? = some t:=by
 obtain ⟨j,hj,e⟩:=aL h
 rw[zX] at e
 split at e
 ·exact ⟨j,hj,by omega,e⟩
 ·cases e
theorem MV.gu {a b o:Array xY}{x y c:Nat}(m:MV key a b o x y)(hc:c<=x)(ha:a.toList.Pairwise (Le key))(hb:∀j p,c<=j->j<x->a.toList[j]? = some p->∀t∈b.toList.take y,Le key t p):MV key a b (o++(a.extract c x).reverse) c y:=by
 refine m.take (t:=(a.toList.take x).drop c) (by rw[yp,Bd,Ay,Dd,oi _ _ _ m.hx]) (yf hc m.hx) m.hy ?_ ?_ λp hp q hq =>?_
 ·refine List.Perm.trans ?_ (Ak _ (List.Perm.of_eq (oj a.toList hc).symm))
  rw[yr,yr]
  exact zT _ zV
 ·exact ha.sublist ((yW _ _).trans (zg _ _))
 ·obtain ⟨j,h1,h2,e⟩:=jk hq
  rcases xS.mp hp with r | r
  ·obtain ⟨i,hi,e2⟩:=aQ r
   exact aA ha e2 e (by omega)
  ·exact hb j q h1 h2 e p r
theorem MV.qL {a b o:Array xY}{x y c:Nat}(m:MV key a b o x y)(hc:c<=y)(hb:b.toList.Pairwise (Le key))(ha:∀j p,c<=j->j<y->b.toList[j]? = some p->∀t∈a.toList.take x,Le key t p):MV key a b (o++(b.extract c y).reverse) x c:=by
 refine m.take (t:=(b.toList.take y).drop c) (by rw[yp,Bd,Ay,Dd,oi _ _ _ m.hy]) m.hx (yf hc m.hy) ?_ ?_ λp hp q hq =>?_
 ·rw[yr, <- oj b.toList hc]
 ·exact hb.sublist ((yW _ _).trans (zg _ _))
 ·obtain ⟨j,h1,h2,e⟩:=jk hq
  rcases xS.mp hp with r | r
  ·exact ha j q h1 h2 e p r
  ·obtain ⟨i,hi,e2⟩:=aQ r
   exact aA hb e2 e (by omega)
theorem MV.pF {a b o:Array xY}{x y:Nat}(m:MV key a b o x y)(hb:b.toList.Pairwise (Le key))(hx:x=0):dv key a b (a.extract 0 x++b.extract 0 y++o.reverse):=by
 subst hx
 refine m.fin (t:=b.toList.take y) (by rw[yp,yp,fE,fE,Ay,Ck,B2]) (by rw[Ck,B2]) (hb.sublist (zg _ _))
theorem MV.pE {a b o:Array xY}{x y:Nat}(m:MV key a b o x y)(ha:a.toList.Pairwise (Le key))(hy:y=0):dv key a b (a.extract 0 x++b.extract 0 y++o.reverse):=by
 subst hy
 refine m.fin (t:=a.toList.take x) (by rw[yp,yp,fE,fE,Ay,Ck,yC]) (by rw[Ck,yC]) (ha.sublist (zg _ _))
theorem MV.first {a b o:Array xY}{x y:Nat}(m:MV key a b o x y)(ha:a.toList.Pairwise (Le key))(hb:b.toList.Pairwise (Le key))(hy:y=1)(hl:∀p q,b[0]? = some p->q∈a.toList->Le key p q):dv key a b (b.extract 0 y++a.extract 0 x++o.reverse):=by
 refine m.fin (t:=b.toList.take y++a.toList.take x) (by rw[yp,yp,fE,fE,Ay]) zV ?_
 refine yH.mpr ⟨hb.sublist (zg _ _),ha.sublist (zg _ _),λp hp q hq=>hl p q ?_ (A7 hq)⟩
 obtain ⟨i,hi,e⟩:=aQ hp
 rw[xU] at e
 rw[show i=0 by omega] at e
 exact e
theorem MV.size {a b o:Array xY}{x y:Nat}(m:MV key a b o x y):o.size+x+y=a.size+b.size:=by
 have e:=m.perm.length_eq
 have h1:=m.hx
 have h2:=m.hy
 simp only[xM,yw,xK,List.length_reverse] at e
 omega
end
open PySem PyProof.Rows
section
variable  {prog:xX}{w:yv}{A:yy}{E:xw->xy->Prop}{s:xy}{O:BI}{key:xY->O.α}{U:xY->Prop}{κ:SortKind}
abbrev HiC:=Option (Array xY)×Nat×Nat×Array xY×Nat×Nat×Nat
def tL (a b:Array xY)(x y:Nat)(o:Array xY)(mg ac bc:Nat):StateT yl Sem (ForInStep HiC):=do
  let z ← elem' a (x-1)
  if (x-1 == 0)=true then pure (.done (some (a.extract 0 (x-1)++b.extract 0 y++(o.push z).reverse),x-1,y,o.push z,mg,ac,bc))
  else if (decide (ac<7) && decide (bc<7))=true then pure (.done (none,x-1,y,o.push z,mg,ac,bc))
  else pure (.yield (none,x-1,y,o.push z,mg,ac,bc))
def tM (a b:Array xY)(x y:Nat)(o:Array xY)(mg ac bc:Nat):StateT yl Sem (ForInStep HiC):=do
  let z ← elem' b (y-1)
  if (y-1 == 1)=true then pure (.done (some (b.extract 0 (y-1)++a.extract 0 x++(o.push z).reverse),x,y-1,o.push z,mg,ac,bc))
  else do
    let z2 ← elem' a (x-1)
    let __x ← gal true z2 b 0 (y-1) (y-1-1)
    match __x with
    | some c =>
      if y-1-c>0 then
        if (c == 1)=true then pure (.done (some (b.extract 0 c++a.extract 0 x++(o.push z++(b.extract c (y-1)).reverse).reverse),x,c,o.push z++(b.extract c (y-1)).reverse,mg,ac,y-1-c))
        else if (c == 0)=true then pure (.done (some (a.extract 0 x++b.extract 0 c++(o.push z++(b.extract c (y-1)).reverse).reverse),x,c,o.push z++(b.extract c (y-1)).reverse,mg,ac,y-1-c))
        else tL a b x c (o.push z++(b.extract c (y-1)).reverse) mg ac (y-1-c)
      else tL a b x (y-1) (o.push z) mg ac (y-1-c)
    | _=>pure (.done (some (a.extract 0 x++b.extract 0 (y-1)++(o.push z).reverse),x,y-1,o.push z,mg,ac,bc))
def pI (a b:Array xY)(x y:Nat)(p:Array xY)(ac bc mg:Nat):StateT yl Sem (ForInStep HiC):=do
  modify (λs=>SortSt.mk' (kindOf s) (x4 s) (yi s) mg (failedOf s))
  let z ← elem' b (y-1)
  let __x ← gal false z a 0 x (x-1)
  match __x with
  | some c =>
    if x-c>0 then
      if (c == 0)=true then pure (.done (some (a.extract 0 c++b.extract 0 y++(p++(a.extract c x).reverse).reverse),c,y,p++(a.extract c x).reverse,mg,x-c,bc))
      else tM a b c y (p++(a.extract c x).reverse) mg (x-c) bc
    else tM a b x y p mg (x-c) bc
  | _=>pure (.done (some (a.extract 0 x++b.extract 0 y++p.reverse),x,y,p,mg,ac,bc))
def HiQ (key:xY->O.α)(a b:Array xY)(st:yl)(n:Nat)(r:ForInStep HiC)(st':yl):Prop:=match r with
 | .done c=>Sm st st'/\((∃r x y p mg ac bc,c=(some r,x,y,p,mg,ac,bc)/\dv key a b r)\/∃x y p mg ac bc,c=(none,x,y,p,mg,ac,bc)/\MV key a b p x y/\1<=x/\2<=y/\n<=p.size)
 | .yield c=>Sm st st'/\∃x y p mg ac bc,c=(none,x,y,p,mg,ac,bc)/\MV key a b p x y/\1<=x/\2<=y/\n<=p.size
theorem HiQ.out {a b:Array xY}{st st':yl}{n:Nat}{r:Array xY}{c:Nat×Nat×Array xY×Nat×Nat×Nat}(sm:Sm st st')(f:dv key a b r):HiQ key a b st n (.done (some r,c)) st':=by
 obtain ⟨p,x,y,mg,ac,bc⟩:=c
 exact ⟨sm,.inl ⟨_,_,_,_,_,_,_,rfl,f⟩⟩
theorem qO {x:Nat}(c:¬ (x == 0)=true):1<=x:=Nat.pos_of_ne_zero λz=>c (beq_iff_eq.mpr z)
theorem tN {y:Nat}(h:1<=y)(c:¬ (y == 1)=true):2<=y:=Dx h λz=>c (beq_iff_eq.mpr z.symm)
theorem om {a b:Array xY}{st st':yl}(hb:b.toList.Pairwise (Le key))
  {o:Array xY} {x y mg ac bc n:Nat} {za:xY} (sm:Sm st st') (ea:a[x-1]? = some za) (m4:MV key a b (o.push za) (x-1) y) (hy:2<=y) (hn:n<=o.size):wpS (x9 prog w) A E s (tL a b x y o mg ac bc) (HiQ key a b st n) st':=by
 unfold tL
 refine xQ (aN ea ?_)
 by_cases d5:(x-1 == 0)=true
 ·rw[if_pos d5]
  exact x3 (HiQ.out sm (m4.pF hb (beq_iff_eq.mp d5)))
 rw[if_neg d5]
 have hx2:=qO d5
 have hn':n<=(o.push za).size:=by rw[zW];exact BA hn
 split
 ·exact x3 ⟨sm,.inr ⟨_,_,_,_,_,_,rfl,m4,hx2,hy,hn'⟩⟩
 ·exact x3 ⟨sm,_,_,_,_,_,_,rfl,m4,hx2,hy,hn'⟩
theorem oo (C:Cmp prog w A s O key U κ){a b:Array xY}{st st':yl}(hκ:kindOf st=κ)(ua:∀p∈a.toList,U p)(ub:∀p∈b.toList,U p)
  (ha:a.toList.Pairwise (Le key)) (hb:b.toList.Pairwise (Le key)) (h0:∀p q,b[0]? = some p->q∈a.toList->Le key p q)
  {o:Array xY} {x y mg ac bc n:Nat} {zb:xY} (sm:Sm st st') (eb:b[y-1]? = some zb) (mk:MV key a b o x y) (bl:∀t∈a.toList.take x,Le key t zb) (hx1:1<=x) (hy:2<=y) (hn:n<=o.size):wpS (x9 prog w) A E s (tM a b x y o mg ac bc) (HiQ key a b st n) st':=by
 unfold tM
 refine xQ (aN eb ?_)
 have m2:=mk.kC (DK hy) eb hb bl
 have y1:1<=y-1:=zZ hy
 have bx1:=mk.hx
 have by1:=mk.hy
 by_cases d3:(y-1 == 1)=true
 ·rw[if_pos d3]
  exact x3 (HiQ.out sm (m2.first ha hb (beq_iff_eq.mp d3) h0))
 rw[if_neg d3]
 have hy1:=tN y1 d3
 obtain ⟨za,ea⟩:=aP (show x-1<a.size by omega)
 refine xQ (aN ea ?_)
 refine xQ (vB C (λi=>(b[i]?).getD za) (sm.k.trans hκ) (ua _ (bq ea)) (λi hi =>?_) (λi hi =>?_) (λi j hij hj =>?_) (BQ y1) λc2 hc2 g1 g2 =>?_)
 ·obtain ⟨z,e⟩:=aP (show i<b.size by omega)
  rw[Bg,e];rfl
 ·obtain ⟨z,e⟩:=aP (show i<b.size by omega)
  rw[e];exact ub _ (bq e)
 ·obtain ⟨z,e⟩:=aP (show i<b.size by omega)
  obtain ⟨z',e'⟩:=aP (show j<b.size by omega)
  rw[e,e'];exact aA hb (ay e) (ay e') hij
 dsimp only at g1 g2 ⊢
 have tb:∀j q,c2<=j->j<y-1->b.toList[j]? = some q->∀t∈a.toList.take x,Le key t q:=λj q hj hj2 e t ht=>by
  have z:=g2 j hj hj2
  rw[xU] at e
  rw[e] at z
  obtain ⟨n,hn,e2⟩:=aQ ht
  exact yq (aA ha e2 (ay ea) (zZ hn)) z
 have m3:=m2.qL hc2 hb tb
 have bl2:∀t∈b.toList.take c2,Le key t za:=λt ht=>by
  obtain ⟨n,hn,e2⟩:=aQ ht
  rw[xU] at e2
  have z:=g1 n hn
  rw[e2] at z
  exact zi z
 have hn1:n<=(o.push zb).size:=by rw[zW];exact BA hn
 by_cases k2:y-1-c2>0
 ·rw[if_pos k2]
  by_cases d4:(c2 == 1)=true
  ·rw[if_pos d4]
   exact x3 (HiQ.out sm (m3.first ha hb (beq_iff_eq.mp d4) h0))
  rw[if_neg d4]
  by_cases d6:(c2 == 0)=true
  ·rw[if_pos d6]
   exact x3 (HiQ.out sm (m3.pE ha (beq_iff_eq.mp d6)))
  rw[if_neg d6]
  exact om hb sm ea (m3.iy hx1 ea ha bl2) (tN (qO d6) d4) (yf hn1 (by rw[A3];exact AK _ _))
 ·rw[if_neg k2]
  have ec2:c2=y-1:=Eb hc2 (C2 (AO k2))
  rw[ec2] at bl2
  exact om hb sm ea (m2.iy hx1 ea ha bl2) hy1 hn1
theorem oq (C:Cmp prog w A s O key U κ){a b:Array xY}{st st':yl}(hκ:kindOf st=κ)(ua:∀p∈a.toList,U p)(ub:∀p∈b.toList,U p)
  (ha:a.toList.Pairwise (Le key)) (hb:b.toList.Pairwise (Le key)) (h0:∀p q,b[0]? = some p->q∈a.toList->Le key p q)
  {p:Array xY} {x y ac bc n:Nat} (mg:Nat) (sm:Sm st st') (m:MV key a b p x y) (hx:1<=x) (hy:2<=y) (hn:n<=p.size):wpS (x9 prog w) A E s (pI a b x y p ac bc mg) (HiQ key a b st n) st':=by
 unfold pI
 have bx:=m.hx
 have by':=m.hy
 obtain ⟨zb,eb⟩:=aP (show y-1<b.size by omega)
 refine xQ (Ae ?_)
 refine xQ (aN eb ?_)
 refine xQ (vA C (λi=>(a[i]?).getD zb) ((sm.mg _).k.trans hκ) (ub _ (bq eb)) (λi hi =>?_) (λi hi =>?_) (λi j hij hj =>?_) (BQ hx) λc hc h1 h2 =>?_)
 ·obtain ⟨z,e⟩:=aP (xZ hi bx)
  rw[Bg,e];rfl
 ·obtain ⟨z,e⟩:=aP (xZ hi bx)
  rw[e];exact ua _ (bq e)
 ·obtain ⟨z,e⟩:=aP (show i<a.size by omega)
  obtain ⟨z',e'⟩:=aP (show j<a.size by omega)
  rw[e,e'];exact aA ha (ay e) (ay e') hij
 dsimp only at h1 h2 ⊢
 have ta:∀j q,c<=j->j<x->a.toList[j]? = some q->∀t∈b.toList.take y,Le key t q:=λj q hj hj2 e t ht=>by
  have z:=h2 j hj hj2
  rw[xU] at e
  rw[e] at z
  obtain ⟨n,hn,e2⟩:=aQ ht
  exact yq (aA hb e2 (ay eb) (zZ hn)) (zi z)
 have mk:=m.gu hc ha ta
 have bl:∀t∈a.toList.take c,Le key t zb:=λt ht=>by
  obtain ⟨n,hn,e2⟩:=aQ ht
  rw[xU] at e2
  have z:=h1 n hn
  rw[e2] at z
  exact z
 by_cases k0:x-c>0
 ·rw[if_pos k0]
  by_cases d1:(c == 0)=true
  ·rw[if_pos d1]
   exact x3 (HiQ.out (sm.mg _) (mk.pF hb (beq_iff_eq.mp d1)))
  rw[if_neg d1]
  exact oo C hκ ua ub ha hb h0 (sm.mg _) eb mk bl (qO d1) hy (yf hn (by rw[A3];exact AK _ _))
 ·rw[if_neg k0]
  have ec:c=x:=Eb hc (C2 (AO k0))
  rw[ec] at bl
  exact oo C hκ ua ub ha hb h0 (sm.mg _) eb m bl hx hy hn
theorem tO (C:Cmp prog w A s O key U κ){a b:Array xY}{st st':yl}(hκ:kindOf st=κ)(ua:∀p∈a.toList,U p)(ub:∀p∈b.toList,U p)
  (ha:a.toList.Pairwise (Le key)) (hb:b.toList.Pairwise (Le key)) (h0:∀p q,b[0]? = some p->q∈a.toList->Le key p q)
  {p:Array xY} {x y ac bc n mg:Nat} (sm:Sm st st') (m:MV key a b p x y) (hx:1<=x) (hy:2<=y) (hn:n<=p.size):wpS (x9 prog w) A E s (if mg>1 then pI a b x y p ac bc (mg-1) else pI a b x y p ac bc mg) (HiQ key a b st n) st':=by
 split
 ·exact oq C hκ ua ub ha hb h0 (mg-1) sm m hx hy hn
 ·exact oq C hκ ua ub ha hb h0 mg sm m hx hy hn
abbrev HiD:=Option (Array xY)×Nat×Nat×Array xY×Nat×Nat
abbrev HiE:=Option (Array xY)×Nat×Nat×Array xY×Nat
def qP (a b:Array xY)(mg:Nat)(c:HiD):StateT yl Sem (ForInStep HiD):=do
  let u ← elem' b (c.2.2.1-1)
  let v ← elem' a (c.2.1-1)
  let __x ← lt' u v
  match __x with
  | some aw =>
    if aw=true then do
      let z ← elem' a (c.2.1-1)
      if (c.2.1-1 == 0)=true then pure (.done (some (a.extract 0 (c.2.1-1)++b.extract 0 c.2.2.1++(c.2.2.2.1.push z).reverse),c.2.1-1,c.2.2.1,c.2.2.2.1.push z,c.2.2.2.2.1+1,0))
      else if c.2.2.2.2.1+1≥mg then pure (.done (none,c.2.1-1,c.2.2.1,c.2.2.2.1.push z,c.2.2.2.2.1+1,0))
      else pure (.yield (none,c.2.1-1,c.2.2.1,c.2.2.2.1.push z,c.2.2.2.2.1+1,0))
    else do
      let z ← elem' b (c.2.2.1-1)
      if (c.2.2.1-1 == 1)=true then pure (.done (some (b.extract 0 (c.2.2.1-1)++a.extract 0 c.2.1++(c.2.2.2.1.push z).reverse),c.2.1,c.2.2.1-1,c.2.2.2.1.push z,0,c.2.2.2.2.2+1))
      else if c.2.2.2.2.2+1≥mg then pure (.done (none,c.2.1,c.2.2.1-1,c.2.2.2.1.push z,0,c.2.2.2.2.2+1))
      else pure (.yield (none,c.2.1,c.2.2.1-1,c.2.2.2.1.push z,0,c.2.2.2.2.2+1))
  | _=>pure (.done (some (a.extract 0 c.2.1++b.extract 0 c.2.2.1++c.2.2.2.1.reverse),c.2.1,c.2.2.1,c.2.2.2.1,c.2.2.2.2.1,c.2.2.2.2.2))
def vF (a b:Array xY)(c:HiC):StateT yl Sem (ForInStep HiC) :=
 if c.2.2.2.2.1>1 then pI a b c.2.1 c.2.2.1 c.2.2.2.1 c.2.2.2.2.2.1 c.2.2.2.2.2.2 (c.2.2.2.2.1-1) else pI a b c.2.1 c.2.2.1 c.2.2.2.1 c.2.2.2.2.2.1 c.2.2.2.2.2.2 c.2.2.2.2.1
def nH (a b:Array xY)(c:HiE):StateT yl Sem (ForInStep HiE):=do
  let d ← forIn [0:a.size+b.size] ((none,c.2.1,c.2.2.1,c.2.2.2.1,0,0):HiD) λ_ d=>qP a b c.2.2.2.2 d
  match d.1 with
  | some r=>pure (.done (some r,d.2.1,d.2.2.1,d.2.2.2.1,c.2.2.2.2))
  | none=>do
    rule "list.sort.gallop"
    let e ← forIn [0:a.size+b.size] ((none,d.2.1,d.2.2.1,d.2.2.2.1,c.2.2.2.2+1,d.2.2.2.2.1,d.2.2.2.2.2):HiC) λ_ e=>vF a b e
    match e.1 with
    | some r=>pure (.done (some r,e.2.1,e.2.2.1,e.2.2.2.1,e.2.2.2.2.1))
    | none=>do
      modify (λs=>SortSt.mk' (kindOf s) (x4 s) (yi s) (e.2.2.2.2.1+1) (failedOf s))
      pure (.yield (none,e.2.1,e.2.2.1,e.2.2.2.1,e.2.2.2.2.1+1))
theorem tP (a b:Array xY):mHi a b=(do
    rule "list.sort.merge-hi"
    let z ← elem' a (a.size-1)
    if (a.size-1 == 0)=true then pure (a.extract 0 (a.size-1)++b.extract 0 b.size++(#[z]:Array xY).reverse)
    else if (b.size == 1)=true then pure (b.extract 0 b.size++a.extract 0 (a.size-1)++(#[z]:Array xY).reverse)
    else do
      let g ← get
      let c ← forIn [0:a.size+b.size] ((none,a.size-1,b.size, #[z],gallopOf g):HiE) λ_ c=>nH a b c
      match c.1 with
      | some r=>pure r
      | none=>unsupported "internal:list.sort.merge-bound"):=by
  kernel_rfl
def HdI (key:xY->O.α)(a b:Array xY)(st:yl)(n:Nat)(c:HiD)(st':yl):Prop:=Sm st st'/\∃x y o' ac bc,c=(none,x,y,o',ac,bc)/\MV key a b o' x y/\1<=x/\2<=y/\n<=o'.size
def HdQ (key:xY->O.α)(a b:Array xY)(st:yl)(n:Nat)(c:HiD)(st':yl):Prop:=Sm st st'/\((∃r x y o ac bc,c=(some r,x,y,o,ac,bc)/\dv key a b r)\/∃x y o' ac bc,c=(none,x,y,o',ac,bc)/\MV key a b o' x y/\1<=x/\2<=y/\n<=o'.size)
theorem qQ (C:Cmp prog w A s O key U κ){a b:Array xY}{st st':yl}(hκ:kindOf st=κ)(ua:∀p∈a.toList,U p)(ub:∀p∈b.toList,U p)
  (ha:a.toList.Pairwise (Le key)) (hb:b.toList.Pairwise (Le key)) (h0:∀p q,b[0]? = some p->q∈a.toList->Le key p q)
  {mg n m':Nat} {c:HiD} (I:HdI key a b st n c st') (hm:m'<=n+1) {Q:ForInStep HiD->yl->Prop} (h:∀r st',(match r with | .done c'=>HdQ key a b st (n+1) c' st' | .yield c'=>HdI key a b st m' c' st')->Q r st'):wpS (x9 prog w) A E s (qP a b mg c) Q st':=by
 obtain ⟨sm2,x,y,o',ac,bc,rfl,m,hx,hy,hz⟩:=I
 unfold qP
 have bx:=m.hx
 have by':=m.hy
 obtain ⟨za,ea⟩:=aP (show x-1<a.size by omega)
 obtain ⟨zb,eb⟩:=aP (show y-1<b.size by omega)
 refine xQ (aN eb (xQ (aN ea (xQ (C.lt _ st' zb za _ (sm2.k.trans hκ) (ub _ (bq eb)) (ua _ (bq ea)) ?_)))))
 dsimp only
 have sz:∀z,n+1<=(o'.push z).size:=λz=>by rw[zW];exact D0 hz
 cases hlt:O.blt (key zb) (key za) with
 | true =>
  rw[if_pos rfl]
  refine xQ (aN ea ?_)
  have m1:=m.iy hx ea ha λt ht=>by
   obtain ⟨n,hn,e⟩:=aQ ht
   exact yq (aA hb e (ay eb) (zZ hn)) (zi hlt)
  by_cases c3:(x-1 == 0)=true
  ·rw[if_pos c3]
   exact x3 (h _ _ ⟨sm2,.inl ⟨_,_,_,_,_,_,rfl,m1.pF hb (beq_iff_eq.mp c3)⟩⟩)
  ·rw[if_neg c3]
   have c3':=qO c3
   split
   ·exact x3 (h _ _ ⟨sm2,.inr ⟨_,_,_,_,_,rfl,m1,c3',hy,sz _⟩⟩)
   ·exact x3 (h _ _ ⟨sm2,_,_,_,_,_,rfl,m1,c3',hy,yf hm (sz _)⟩)
 | false =>
  rw[if_neg xN]
  refine xQ (aN eb ?_)
  have m1:=m.kC (DK hy) eb hb λt ht=>by
   obtain ⟨n,hn,e⟩:=aQ ht
   exact yq (aA ha e (ay ea) (zZ hn)) (show O.kle (key za) (key zb) from hlt)
  by_cases c3:(y-1 == 1)=true
  ·rw[if_pos c3]
   exact x3 (h _ _ ⟨sm2,.inl ⟨_,_,_,_,_,_,rfl,m1.first ha hb (beq_iff_eq.mp c3) h0⟩⟩)
  ·rw[if_neg c3]
   have c3':=tN (zZ hy) c3
   split
   ·exact x3 (h _ _ ⟨sm2,.inr ⟨_,_,_,_,_,rfl,m1,hx,c3',sz _⟩⟩)
   ·exact x3 (h _ _ ⟨sm2,_,_,_,_,_,rfl,m1,hx,c3',yf hm (sz _)⟩)
def HeI (key:xY->O.α)(a b:Array xY)(st:yl)(n:Nat)(c:HiE)(st':yl):Prop:=Sm st st'/\∃x y o mg,c=(none,x,y,o,mg)/\MV key a b o x y/\1<=x/\2<=y/\n+1<=o.size
def HeQ (key:xY->O.α)(a b:Array xY)(st:yl)(c:HiE)(st':yl):Prop:=Sm st st'/\((∃r x y o mg,c=(some r,x,y,o,mg)/\dv key a b r)\/∃x y o mg,c=(none,x,y,o,mg)/\MV key a b o x y/\1<=x/\2<=y/\a.size+b.size+1<=o.size)
theorem pJ (C:Cmp prog w A s O key U κ){a b:Array xY}{st st':yl}(hκ:kindOf st=κ)(ua:∀p∈a.toList,U p)(ub:∀p∈b.toList,U p)
  (ha:a.toList.Pairwise (Le key)) (hb:b.toList.Pairwise (Le key)) (h0:∀p q,b[0]? = some p->q∈a.toList->Le key p q) (na:0<a.size)
  {n:Nat} {c:HiE} (I:HeI key a b st n c st'):wpS (x9 prog w) A E s (nH a b c) (λr st'=>match r with | .done c'=>HeQ key a b st c' st' | .yield c'=>HeI key a b st (n+1) c' st') st':=by
 obtain ⟨sm1,x,y,o,mg,rfl,m,hx,hy,hz⟩:=I
 unfold nH
 have q1:1<=a.size+b.size:=yf na (AK _ _)
 refine xQ (zQ (y7 (I:=λj c st'=>HdI key a b st (o.size+min j 1) c st') (Q:=HdQ key a b st (o.size+1)) (λj c st2 _ hj J=>qQ (n:=o.size+min j 1) (m':=o.size+min (j+1) 1) C hκ ua ub ha hb h0 J (by omega) λr st' k =>?_) (λc st' J =>?_) ⟨sm1,x,y,o,0,0,rfl,m,hx,hy,xC _⟩) ?_)
 ·cases r with
  | done c'=>exact k.imp id λz=>z.imp id λ⟨x,y,o',ac,bc,e,m,hx,hy,hz⟩=>⟨x,y,o',ac,bc,e,m,hx,hy,by omega⟩
  | yield c'=>exact k
 ·obtain ⟨sm,x,y,o',ac,bc,e,m,hx,hy,hz⟩:=J
  exact ⟨sm,.inr ⟨x,y,o',ac,bc,e,m,hx,hy,by omega⟩⟩
 rintro c st2 ⟨sm2,⟨r,x,y,o',ac,bc,rfl,fr⟩ | ⟨x,y,o',ac,bc,rfl,m,hx,hy,hz2⟩⟩
 ·exact x3 ⟨sm2,.inl ⟨_,_,_,_,_,rfl,fr⟩⟩
 dsimp only
 refine xQ (BW (AN ⟨rfl,?_⟩))
 refine xQ (zQ (y7 (I:=λ_ c st'=>HiQ key a b st o'.size (.yield c) st') (Q:=λc st'=>HiQ key a b st o'.size (.done c) st') (λj c st3 _ hj J =>?_) (λc st' J=>⟨J.1,.inr J.2⟩) ⟨sm2,x,y,o',_,ac,bc,rfl,m,hx,hy,xC _⟩) ?_)
 ·obtain ⟨sm3,x,y,p,mg,ac,bc,rfl,m,hx,hy,hz3⟩:=J
  refine zQ (tO C hκ ua ub ha hb h0 sm3 m hx hy hz3) ?_
  intro r st' h
  cases r <;> exact h
 rintro c st3 ⟨sm3,⟨r,x,y,p,mg,ac,bc,rfl,fr⟩ | ⟨x,y,p,mg,ac,bc,rfl,m,hx,hy,hz3⟩⟩
 ·exact x3 ⟨sm3,.inl ⟨_,_,_,_,_,rfl,fr⟩⟩
 ·dsimp only
  exact xQ (Ae (x3 ⟨sm3.mg _,x,y,p,_,rfl,m,hx,hy,by omega⟩))
theorem vG (C:Cmp prog w A s O key U κ){a b:Array xY}{st:yl}{Q:Array xY->yl->Prop}(hκ:kindOf st=κ)(ua:∀p∈a.toList,U p)(ub:∀p∈b.toList,U p)
  (ha:a.toList.Pairwise (Le key)) (hb:b.toList.Pairwise (Le key)) (na:0<a.size) (nb:0<b.size) (h0:∀p q,b[0]? = some p->q∈a.toList->Le key p q) (hl:∀p q,p∈b.toList->a[a.size-1]? = some q->Le key p q)
  (h:∀r st',Sm st st'->dv key a b r->Q r st'):wpS (x9 prog w) A E s (mHi a b) Q st:=by
 rw[tP]
 refine xQ (BW (AN ⟨rfl,?_⟩))
 obtain ⟨a0,ea0⟩:=aP (BQ na)
 have m0:MV key a b #[] a.size b.size:=by
  refine ⟨xC _,xC _,?_,List.Pairwise.nil,λp _ q hq=>by cases hq⟩
  rw[xW (by rw[xK];exact xC _),xW (by rw[xK];exact xC _)]
  show (a.toList++b.toList++[]).Perm _
  rw[yC]
 have m1:MV key a b #[a0] (a.size-1) b.size:=m0.iy na ea0 ha λt ht=>hl t a0 (A7 ht) ea0
 refine xQ (aN ea0 ?_)
 by_cases c1:(a.size-1 == 0)=true
 ·rw[if_pos c1]
  exact x3 (h _ st (Sm.refl st) (m1.pF hb (beq_iff_eq.mp c1)))
 rw[if_neg c1]
 by_cases c2:(b.size == 1)=true
 ·rw[if_pos c2]
  exact x3 (h _ st (Sm.refl st) (m1.first ha hb (beq_iff_eq.mp c2) h0))
 rw[if_neg c2]
 refine xQ (BN ?_)
 refine xQ (zQ (y7 (I:=λi c st'=>HeI key a b st i c st') (Q:=HeQ key a b st) (λi c st1 _ _ J=>zQ (pJ C hκ ua ub ha hb h0 na J) λr st' h=>by cases r <;> exact h) (λc st' J =>?_) ⟨Sm.refl st,_,_,_,_,rfl,m1,qO c1,tN nb c2,xC _⟩) ?_)
 ·obtain ⟨sm,x,y,o,mg,e,m,hx,hy,hz⟩:=J
  exact ⟨sm,.inr ⟨x,y,o,mg,e,m,hx,hy,by omega⟩⟩
 rintro c st' ⟨sm,⟨r,x,y,o,mg,rfl,fr⟩ | ⟨x,y,o,mg,rfl,m,hx,hy,hz⟩⟩
 ·exact x3 (h r st' sm fr)
 ·have:=m.size
  omega
end
open PySem PyProof.Rows
theorem vH (i:Nat):mAt i=(do
    let s ← get
    let (some (sa,na,pw),some (sb,nb,_)):=((yi s)[i]?,(yi s)[i+1]?) | unsupported "internal:list.sort.pending"
    set (SortSt.mk' (kindOf s) (x4 s) (((yi s).setIfInBounds i (sa,na+nb,pw)).eraseIdxIfInBounds (i+1)) (gallopOf s) (failedOf s))
    let some k ← gal false (← elem' (x4 s) sb) (x4 s) sa na 0 | return false
    let (sa,na):=(sa+k,na-k)
    if na == 0 then return true
    let some nb ← gal true (← elem' (x4 s) (sa+na-1)) (x4 s) sb nb (nb-1) | return false
    if nb == 0 then return true
    let x:=(x4 s).extract sa sb
    let y:=(x4 s).extract sb (sb+nb)
    let mm ← if na<=nb then mLo x y else mHi x y
    modify λs=>setArr s (mm.toList.zipIdx.foldl (λa (p,j)=>a.setIfInBounds (sa+j) p) (x4 s))
    return (failedOf (← get)).isNone):=rfl
theorem gv {α:Type}(p r:List α)(k:Nat):(p++r).drop (p.length+k)=r.drop k:=by
 rw[<- Er,Cm]
theorem nJ {α:Type}(p r:List α)(k:Nat):(p++r)[p.length+k]? = r[k]? := by
 rw[A5 (by omega),AG]
theorem uE {α:Type}(p a r:List α){k:Nat}(h:k<a.length):(p++(a++r))[p.length+k]? = a[k]? := by
 rw[nJ,A9 h]
theorem written (l:List xY):∀(c n:Nat) (a:Array xY),c+n+l.length<=a.size->((l.zipIdx n).foldl (λ(a:Array xY) (pj:xY×Nat)=>a.setIfInBounds (c+pj.2) pj.1) a).toList=a.toList.take (c+n)++l++a.toList.drop (c+n+l.length):=by
 induction l with
 | nil=>intro c n a _;simp
 | cons z l ih =>
  intro c n a h
  rw[yo] at h
  rw[CK,D9,ih c (n+1) _ (by rw[Array.size_setIfInBounds];omega)]
  have e:(a.setIfInBounds (c+n) z).toList=a.toList.set (c+n) z:=B9 ..
  rw[e]
  have lt:c+n<a.toList.length:=by rw[xK];omega
  have t1:(a.toList.set (c+n) z).take (c+(n+1))=a.toList.take (c+n)++[z]:=by
   rw[show c+(n+1)=c+n+1 by omega,ye,List.take_set_of_le (xC _),zq lt]
   rfl
  have t2:(a.toList.set (c+n) z).drop (c+(n+1)+l.length)=a.toList.drop (c+n+(l.length+1)):=by
   rw[List.drop_set_of_lt (by omega),show c+(n+1)+l.length=c+n+(l.length+1) by omega]
  rw[t1,t2,yo]
  simp
section
variable  {prog:xX}{w:yv}{A:yy}{E:xw->xy->Prop}{s:xy}{O:BI}{key:xY->O.α}{U:xY->Prop}{κ:SortKind}
theorem vI (C:Cmp prog w A s O key U κ){i pw pw2:Nat}{st:yl}{Q:Bool->yl->Prop}{P X Y S:List xY}(hκ:kindOf st=κ)(hf:failedOf st=none)
    (ha:(x4 st).toList=P++(X++(Y++S))) (hu:∀p∈(x4 st).toList,U p) (h1:(yi st)[i]? = some (P.length,X.length,pw)) (h2:(yi st)[i+1]? = some (P.length+X.length,Y.length,pw2))
    (nx:0<X.length) (ny:0<Y.length) (sx:X.Pairwise (Le key)) (sy:Y.Pairwise (Le key))
    (h:∀st' M,M.Perm (X++Y)->M.Pairwise (Le key)->(x4 st').toList=P++(M++S)->yi st'=((yi st).setIfInBounds i (P.length,X.length+Y.length,pw)).eraseIdxIfInBounds (i+1)->kindOf st'=κ -> failedOf st'=none->Q true st') :
    wpS (x9 prog w) A E s (mAt i) Q st:=by
  rw[vH]
  refine xQ (BN ?_)
  rw[h1,h2]
  dsimp only
  refine xQ (show wpS (x9 prog w) A E s (modify λ_=>SortSt.mk' (kindOf st) (x4 st) (((yi st).setIfInBounds i (P.length,X.length+Y.length,pw)).eraseIdxIfInBounds (i+1)) (gallopOf st) (failedOf st)) _ st from Ae ?_)
  generalize hst1:SortSt.mk' (kindOf st) (x4 st) (((yi st).setIfInBounds i (P.length,X.length+Y.length,pw)).eraseIdxIfInBounds (i+1)) (gallopOf st) (failedOf st)=st1
  have k1:kindOf st1=κ:=by rw[<- hst1];exact hκ
  have a1:x4 st1=x4 st:=by rw[<- hst1]
  have p1:yi st1=((yi st).setIfInBounds i (P.length,X.length+Y.length,pw)).eraseIdxIfInBounds (i+1):=by rw[<- hst1]
  have f1:failedOf st1=none:=by rw[<- hst1];exact hf
  have sz:(x4 st).size=P.length+X.length+Y.length+S.length:=by
    rw[<- xK,ha];simp only[xM];omega
  have atX:∀j,j<X.length->(x4 st)[P.length+j]? = X[j]? := λj hj=>by
    rw[<- xU,ha,uE _ _ _ hj]
  have atY:∀j,j<Y.length->(x4 st)[P.length+X.length+j]? = Y[j]? := λj hj=>by
    rw[<- xU,ha, <- yr,show P.length+X.length+j=(P++X).length+j by rw[xM],uE _ _ _ hj]
  have uX:∀p∈X,U p:=λp hp=>hu p (by rw[ha];simp[hp])
  have uY:∀p∈Y,U p:=λp hp=>hu p (by rw[ha];simp[hp])
  have xget:∀j,j<X.length->∃z,X[j]? = some z:=λj hj=>⟨X[j],by simp[hj]⟩
  have yget:∀j,j<Y.length->∃z,Y[j]? = some z:=λj hj=>⟨Y[j],by simp[hj]⟩
  obtain ⟨y0,ey0⟩:=yget 0 ny
  have plain:(∀p∈X,∀q∈Y,Le key p q)->Q true st1:=λhle=>h st1 (X++Y) (Cj _) (yH.mpr ⟨sx,sy,hle⟩) (by rw[a1,ha,yr]) p1 k1 f1
  refine xQ (aN (z:=y0) (by rw[show P.length+X.length=P.length+X.length+0 by omega,atY 0 ny];exact ey0) ?_)
  refine xQ (vA C (λj=>(X[j]?).getD y0) k1 (uY _ (xD ey0)) (λj hj =>?_) (λj hj =>?_) (λi j hij hj =>?_) nx λk hk g1 g2 =>?_)
  · obtain ⟨z,e⟩:=xget j hj
    rw[atX j hj,e];rfl
  · obtain ⟨z,e⟩:=xget j hj
    rw[e];exact uX _ (xD e)
  · obtain ⟨z,e⟩:=xget i (by omega)
    obtain ⟨z',e'⟩:=xget j hj
    rw[e,e'];exact aA sx e e' hij
  dsimp only at g1 g2 ⊢
  have y0le:∀q∈Y,Le key y0 q:=λq hq=>by
    obtain ⟨n,e⟩:=yF.mp hq
    exact aA sy ey0 e (yE _)
  by_cases c1:(X.length-k == 0)=true
  · rw[if_pos c1]
    refine x3 (plain λp hp q hq =>?_)
    obtain ⟨n,e⟩:=yF.mp hp
    have hn:n<X.length:=(xB.mp e).1
    have z:=g1 n (by have:=beq_iff_eq.mp c1;omega)
    rw[e] at z
    exact yq z (y0le q hq)
  rw[if_neg c1]
  have kx:k<X.length:=by have:X.length-k≠0:=λz=>c1 (beq_iff_eq.mpr z);omega
  obtain ⟨xl,exl⟩:=xget (X.length-1) (by omega)
  have xlle:∀p∈X,Le key p xl:=λp hp=>by
    obtain ⟨n,e⟩:=yF.mp hp
    have hn:n<X.length:=(xB.mp e).1
    exact aA sx e exl (by omega)
  refine xQ (aN (z:=xl) (by rw[show P.length+k+(X.length-k)-1=P.length+(X.length-1) by omega,atX _ (by omega)];exact exl) ?_)
  refine xQ (vB C (λj=>(Y[j]?).getD xl) k1 (uX _ (xD exl)) (λj hj =>?_) (λj hj =>?_) (λi j hij hj =>?_) (by omega) λm hm e1 e2 =>?_)
  · obtain ⟨z,e⟩:=yget j hj
    rw[atY j hj,e];rfl
  · obtain ⟨z,e⟩:=yget j hj
    rw[e];exact uY _ (xD e)
  · obtain ⟨z,e⟩:=yget i (by omega)
    obtain ⟨z',e'⟩:=yget j hj
    rw[e,e'];exact aA sy e e' hij
  dsimp only at e1 e2 ⊢
  by_cases c2:(m == 0)=true
  · rw[if_pos c2]
    refine x3 (plain λp hp q hq =>?_)
    obtain ⟨n,e⟩:=yF.mp hq
    have hn:n<Y.length:=(xB.mp e).1
    have z:=e2 n (by have:=beq_iff_eq.mp c2;omega) hn
    rw[e] at z
    exact yq (xlle p hp) z
  rw[if_neg c2]
  have m0:0<m:=by have:m≠0:=λz=>c2 (beq_iff_eq.mpr z);omega
  have ex:((x4 st).extract (P.length+k) (P.length+X.length)).toList=X.drop k:=by
    rw[zo,yT,ha,gv,BJ (by omega)]
    rw[List.take_left' (by rw[An];omega)]
  have ey:((x4 st).extract (P.length+X.length) (P.length+X.length+m)).toList=Y.take m:=by
    have e:=gv (P++X) (Y++S) 0
    rw[xM,Nat.add_zero,Es,yr] at e
    rw[zo,yT,ha,e,AG,BK hm]
  have sX:((x4 st).extract (P.length+k) (P.length+X.length)).size=X.length-k:=by rw[<- xK,ex,An]
  have sY:((x4 st).extract (P.length+X.length) (P.length+X.length+m)).size=m:=by rw[<- xK,ey,yw];omega
  generalize (x4 st).extract (P.length+k) (P.length+X.length)=xa at ex sX ⊢
  generalize (x4 st).extract (P.length+X.length) (P.length+X.length+m)=ya at ey sY ⊢
  have xa0:∀q∈xa.toList,Le key y0 q:=λq hq=>by
    rw[ex] at hq
    obtain ⟨n,hn,e⟩:=aL hq
    have hn2:n<X.length:=(xB.mp e).1
    have z:=g2 n hn hn2
    rw[e] at z
    exact zi z
  have yaL:∀p∈ya.toList,Le key p xl:=λp hp=>by
    rw[ey] at hp
    obtain ⟨n,hn,e⟩:=aQ hp
    have z:=e1 n hn
    rw[e] at z
    exact zi z
  have first:∀p q,ya[0]? = some p->q∈xa.toList->Le key p q:=λp q hp hq=>by
    rw[<- xU,ey,zX,if_pos m0,ey0] at hp
    cases hp
    exact xa0 q hq
  have lst:∀p q,p∈ya.toList->xa[xa.size-1]? = some q->Le key p q:=λp q hp hq=>by
    rw[<- xU,ex,Bm,sX,show k+(X.length-k-1)=X.length-1 by omega,exl] at hq
    cases hq
    exact yaL p hp
  have sxa:xa.toList.Pairwise (Le key):=by rw[ex];exact sx.sublist (yW _ _)
  have sya:ya.toList.Pairwise (Le key):=by rw[ey];exact sy.sublist (zg _ _)
  have uxa:∀p∈xa.toList,U p:=λp hp=>by rw[ex] at hp;exact uX p (A6 hp)
  have uya:∀p∈ya.toList,U p:=λp hp=>by rw[ey] at hp;exact uY p (A7 hp)
  have post:∀r st',Sm st1 st'->dv key xa ya r->wpS (x9 prog w) A E s (do modify λs=>setArr s (r.toList.zipIdx.foldl (λa (p,j)=>a.setIfInBounds (P.length+k+j) p) (x4 s));return (failedOf (← get)).isNone) Q st':=by
    rintro r st' sm ⟨fp,fs⟩
    refine xQ (Ae (xQ (BN (x3 ?_))))
    have rl:r.toList.length=X.length-k+m:=by rw[fp.length_eq,xM,xK,xK,sX,sY]
    have wr:=written r.toList (P.length+k) 0 (x4 st') (by rw[sm.a,a1,sz,rl];omega)
    have e:(failedOf (setArr st' (r.toList.zipIdx.foldl (λa (p,j)=>a.setIfInBounds (P.length+k+j) p) (x4 st')))).isNone=true:=by
      show (failedOf st').isNone=true
      rw[sm.f,f1];rfl
    rw[e]
    have t1:(P++(X++(Y++S))).take (P.length+k+0)=P++X.take k:=by
      rw[Nat.add_zero,List.take_append,xW (by omega),AG,BK (by omega)]
    have t2:(P++(X++(Y++S))).drop (P.length+k+0+r.toList.length)=Y.drop m++S:=by
      rw[rl,show P.length+k+0+(X.length-k+m)=P.length+(X.length+m) by omega,gv,gv,BJ hm]
    have perm:(X.take k++(r.toList++Y.drop m)).Perm (X++Y):=by
      rw[ex,ey] at fp
      have q:(X.take k++(r.toList++Y.drop m)).Perm (X.take k++((X.drop k++Y.take m)++Y.drop m)):=zT _ (Ak _ fp)
      have e3:X.take k++((X.drop k++Y.take m)++Y.drop m)=X++Y:=by
        rw[yr (X.drop k),zU, <- yr,zU]
      rw[e3] at q
      exact q
    have inr:∀z∈r.toList,z∈X.drop k\/z∈Y.take m:=λz hz=>by
      have q:=fp.mem_iff.mp hz
      rw[ex,ey] at q
      exact xS.mp q
    refine h _ (X.take k++(r.toList++Y.drop m)) perm ?_ ?_ ?_ (sm.k.trans k1) (sm.f.trans f1)
    · refine yH.mpr ⟨sx.sublist (zg _ _),yH.mpr ⟨fs,sy.sublist (yW _ _),λp hp q hq =>?_⟩,λp hp q hq =>?_⟩
      · obtain ⟨n,hn,en⟩:=aL hq
        have hn2:n<Y.length:=(xB.mp en).1
        rcases inr p hp with z | z
        · have g:=e2 n hn hn2
          rw[en] at g
          exact yq (xlle p (A6 z)) g
        · obtain ⟨j,hj,ej⟩:=aQ z
          exact aA sy ej en (by omega)
      · obtain ⟨n,hn,en⟩:=aQ hp
        have g:=g1 n hn
        rw[en] at g
        rcases xS.mp hq with z | z
        · rcases inr q z with z | z
          · obtain ⟨j,hj,ej⟩:=aL z
            exact aA sx en ej (by omega)
          · exact yq g (y0le q (A7 z))
        · exact yq g (y0le q (A6 z))
    · show (r.toList.zipIdx.foldl (λa (p,j)=>a.setIfInBounds (P.length+k+j) p) (x4 st')).toList=_
      rw[wr,sm.a,a1,ha,t1,t2]
      simp only[yr]
    · show yi st'=_
      rw[sm.p,p1]
  by_cases c3:X.length-k<=m
  · rw[if_pos c3]
    exact xQ (vE C k1 uxa uya sxa sya (by omega) (by omega) (λp q hp hq=>first p q hp (bq hq)) lst λr st' sm fr=>post r st' sm fr)
  · rw[if_neg c3]
    exact xQ (vG C k1 uxa uya sxa sya (by omega) (by omega) first lst λr st' sm fr=>post r st' sm fr)
end
open PySem PyProof.Rows
theorem tQ (lo m:Nat):vy lo m=(do
    let mut n:=1
    for _ in [1:m] do
      let some sm ← ltAt' (lo+n) (lo+n-1)
        | return none
      if sm then break
      n:=n+1
    if n == m then return some n
    if n>1 then
      let some ro ← ltAt' lo (lo+n-1)
        | return none
      if ro then return some n
      reverseSlice' lo (lo+n)
    rule "list.sort.descending-run"
    n:=n+1
    let mut q:=0
    for _ in [n:m] do
      let some sm ← ltAt' (lo+n) (lo+n-1)
        | return none
      if sm then
        if q>0 then reverseSlice' (lo+n-(q+1)) (lo+n)
        q:=0
      else
        let some lg ← ltAt' (lo+n-1) (lo+n)
          | return none
        if lg then break
        q:=q+1
      n:=n+1
    if q>0 then reverseSlice' (lo+n-(q+1)) (lo+n)
    reverseSlice' lo (lo+n)
    for _ in [n:m] do
      let some sm ← ltAt' (lo+n) (lo+n-1)
        | return none
      if sm then break
      n:=n+1
    return some n):=rfl
theorem qR (lo n ok:Nat):qJ lo n ok=(do
    for k in [max ok 1:n] do
      let mut l:=0;let mut r:=k
      for _ in [0:k] do
        if l≥r then break
        let m:=(l+r)/2
        let some le ← ltAt' (lo+k) (lo+m)
          | return false
        if le then r:=m else l:=m+1
      moveDown' (lo+k) (lo+l)
    return true):=rfl
section
variable  {O:BI}(key:xY->O.α)
def kk (xs:Array xY)(i:Nat):O.α:=key ((xs[i]?).getD (zA,zA))
def Up (xs:Array xY)(lo n:Nat):Prop:=∀i j,lo<=i->i<=j->j<lo+n->O.kle (kk key xs i) (kk key xs j)
def Down (xs:Array xY)(lo n:Nat):Prop:=∀i j,lo<=i->i<=j->j<lo+n->O.kle (kk key xs j) (kk key xs i)
variable  {key}
theorem gw {xs ys:Array xY}{i j:Nat}(h:xs[i]? = ys[j]?):kk key xs i=kk key ys j:=by unfold kk;rw[h]
theorem kE {xs:Array xY}{i j:Nat}(hj:j<=xs.size)(k:Nat):kk key (mirror xs i j ((j-i)/2)) k=if i<=k/\k<j then kk key xs (i+j-1-k) else kk key xs k:=by
 have e:=Dn (i:=i) hj k
 by_cases h:i<=k/\k<j
 ·rw[if_pos h] at e ⊢;exact gw e
 ·rw[if_neg h] at e ⊢;exact gw e
theorem dU {xs:Array xY}{i j:Nat}(hj:j<=xs.size)(he:∀k,i<=k->k<j->kk key xs k=kk key xs (j-1))(k:Nat):kk key (mirror xs i j ((j-i)/2)) k=kk key xs k:=by
 rw[kE hj]
 split
 ·rw[he _ (by omega) (by omega),he k (by omega) (by omega)]
 ·rfl
end
structure SA (lo:Nat)(st st':yl):Prop where
 perm:(x4 st').Perm (x4 st)
 pre:∀k,k<lo->(x4 st')[k]? = (x4 st)[k]?
 k:kindOf st'=kindOf st
 p:yi st'=yi st
 f:failedOf st'=failedOf st
theorem SA.refl (lo:Nat)(st:yl):SA lo st st:=⟨Array.Perm.refl _,λ_ _=>rfl,rfl,rfl,rfl⟩
theorem SA.size {lo:Nat}{st st':yl}(h:SA lo st st'):(x4 st').size=(x4 st).size:=h.perm.size_eq
theorem SA.mirror {lo:Nat}{st st':yl}(h:SA lo st st'){i j:Nat}(hi:lo<=i)(hj:j<=(x4 st').size):SA lo st (setArr st' (mirror (x4 st') i j ((j-i)/2))) :=
 ⟨(mirror_perm _ _ _ _).trans h.perm,λk hk=>by
  show (PyProof.Rows.mirror (x4 st') i j ((j-i)/2))[k]? = _
  rw[Dn hj,if_neg (by omega)]
  exact h.pre k hk,h.k,h.p,h.f⟩
theorem SA.mem {lo:Nat}{st st':yl}(h:SA lo st st'){p:xY}(hp:p∈(x4 st').toList):p∈(x4 st).toList:=(Ca.mp h.perm).mem_iff.mp hp
section
variable  {prog:xX}{w:yv}{A:yy}{E:xw->xy->Prop}{s:xy}{O:BI}{key:xY->O.α}{U:xY->Prop}{κ:SortKind}
theorem fF (C:Cmp prog w A s O key U κ){st:yl}{i j:Nat}{Q:Option Bool->yl->Prop}(hκ:kindOf st=κ)(hu:∀p∈(x4 st).toList,U p)(hi:i<(x4 st).size)(hj:j<(x4 st).size)
  (h:Q (some (O.blt (kk key (x4 st) i) (kk key (x4 st) j))) st):wpS (x9 prog w) A E s (ltAt' i j) Q st:=by
 rw[ltAt'_eq]
 refine xQ (BN ?_)
 obtain ⟨x,ex⟩:=aP hi
 obtain ⟨y,ey⟩:=aP hj
 dsimp only
 refine xQ (aN ex (xQ (aN ey (C.lt _ st x y _ hκ (hu _ (bq ex)) (hu _ (bq ey)) ?_))))
 unfold kk at h
 rw[ex,ey] at h
 exact h
theorem tR (C:Cmp prog w A s O key U κ){st:yl}{lo m:Nat}{Q:Option Nat->yl->Prop}(hκ:kindOf st=κ)(hu:∀p∈(x4 st).toList,U p)(hm:1<=m)(hz:lo+m=(x4 st).size)
  (h:∀n st',1<=n->n<=m->SA lo st st'->Up key (x4 st') lo n->Q (some n) st'):wpS (x9 prog w) A E s (vy lo m) Q st:=by
 rw[tQ]
 dsimp only
 refine xQ (zQ (y7 (I:=λx c st'=>st=st'/\c=(none,x)/\Up key (x4 st) lo x)
  (Q:=λc st'=>st=st'/\∃n,c=(none,n)/\1<=n/\n<=m/\Up key (x4 st) lo n/\(n<m->O.klt (kk key (x4 st) (lo+n)) (kk key (x4 st) (lo+n-1)))) ?step ?fin ⟨rfl,rfl,λi j h1 h2 h3=>by rw[show i=j by omega];exact zE _⟩) ?post)
 case fin =>
  rintro c st' ⟨rfl,rfl,up⟩
  exact ⟨rfl,_,rfl,by omega,by omega,by rw[show max 1 m=m by omega] at up ⊢;exact up,by omega⟩
 case step =>
  rintro x c st' h1 h2 ⟨rfl,rfl,up⟩
  dsimp only
  refine xQ (fF C hκ hu (by omega) (by omega) ?_)
  dsimp only
  cases hb:O.blt (kk key (x4 st) (lo+x)) (kk key (x4 st) (lo+x-1)) with
  | true =>
   rw[if_pos rfl]
   exact x3 ⟨rfl,x,rfl,h1,by omega,up,λ_=>hb⟩
  | false =>
   rw[if_neg (by simp)]
   refine x3 ⟨rfl,rfl,λi j k1 k2 k3 =>?_⟩
   by_cases hj:j=lo+x
   ·by_cases hi:i=j
    ·rw[hi];exact zE _
    ·rw[hj]
     exact yq (up i (lo+x-1) k1 (by omega) (by omega)) hb
   ·exact up i j k1 k2 (by omega)
 case post =>
  rintro c st' ⟨rfl,n,rfl,n1,n2,up,br⟩
  dsimp only
  by_cases c1:(n == m)=true
  ·rw[if_pos c1]
   exact x3 (h n st n1 n2 (SA.refl _ _) up)
  rw[if_neg c1]
  have nm:n<m:=by have:n≠m:=λz=>c1 (beq_iff_eq.mpr z);omega
  have br:=br nm
  by_cases c2:n>1
  case' pos =>
   rw[if_pos c2]
   refine xQ (fF C hκ hu (by omega) (by omega) ?_)
   dsimp only
   cases hro:O.blt (kk key (x4 st) lo) (kk key (x4 st) (lo+n-1))
   case' true =>
    rw[if_pos rfl]
    exact x3 (h n st n1 n2 (SA.refl _ _) up)
   rw[if_neg (by simp)]
   have eqs:∀k,lo<=k->k<lo+n->kk key (x4 st) k=kk key (x4 st) (lo+n-1):=λk k1 k2 =>
    Dk (up k (lo+n-1) k1 (by omega) (by omega)) (yq (show O.kle (kk key (x4 st) (lo+n-1)) (kk key (x4 st) lo) from hro) (up lo k (xC _) k1 k2))
   rw[BO]
   refine xQ (Ae ?_)
   have sa:=(SA.refl lo st).mirror (i:=lo) (j:=lo+n) (xC _) (by omega)
   have ke:=dU (key:=key) (xs:=x4 st) (i:=lo) (j:=lo+n) (by omega) eqs
   have ka:∀k,kk key (x4 (setArr st (mirror (x4 st) lo (lo+n) ((lo+n-lo)/2)))) k=kk key (x4 st) k:=ke
   generalize setArr st (mirror (x4 st) lo (lo+n) ((lo+n-lo)/2))=st1 at sa ka ⊢
   clear ke
  case' neg =>
   rw[if_neg c2]
   have eqs:∀k,lo<=k->k<lo+n->kk key (x4 st) k=kk key (x4 st) (lo+n-1):=λk k1 k2=>by rw[show k=lo+n-1 by omega]
   obtain ⟨st1,e1⟩:∃st1,st1=st:=⟨_,rfl⟩
   have sa:SA lo st st1:=by rw[e1];exact SA.refl _ _
   have ka:∀k,kk key (x4 st1) k=kk key (x4 st) k:=λk=>by rw[e1]
   rw[<- e1]
   clear e1
  all_goals
   refine xQ (BW (AN ⟨rfl,?_⟩))
   have dn:Down key (x4 st1) lo (n+1):=λi j k1 k2 k3=>by
    rw[ka,ka]
    by_cases hj:j=lo+n
    ·by_cases hi:i=j
     ·rw[hi];exact zE _
     ·rw[hj,eqs i k1 (by omega)]
      exact zi br
    ·rw[eqs i k1 (by omega),eqs j (by omega) (by omega)]
     exact zE _
   clear eqs up br ka
   refine xQ (zQ (y7 (I:=λx c st'=>∃q,c=(none,x,q)/\x<=m/\SA lo st st'/\Down key (x4 st') lo x/\q+1<=x/\∀k,lo+x-(q+1)<=k->k<lo+x->kk key (x4 st') k=kk key (x4 st') (lo+x-1))
    (Q:=λc st'=>∃x q,c=(none,x,q)/\1<=x/\x<=m/\SA lo st st'/\Down key (x4 st') lo x/\q+1<=x/\∀k,lo+x-(q+1)<=k->k<lo+x->kk key (x4 st') k=kk key (x4 st') (lo+x-1)) ?step ?fin
    ⟨0,rfl,by omega,sa,dn,by omega,λk k1 k2=>by rw[show k=lo+(n+1)-1 by omega]⟩) ?post)
   case fin =>
    rintro c st' ⟨q,rfl,xm,sa,dn,hq,he⟩
    exact ⟨_,q,rfl,by omega,xm,sa,dn,hq,he⟩
   case step =>
    rintro x c st2 h1 h2 ⟨q,rfl,xm,sa2,dn2,hq,he⟩
    dsimp only
    have sz:=sa2.size
    have u2:∀p∈(x4 st2).toList,U p:=λp hp=>hu p (sa2.mem hp)
    refine xQ (fF C (sa2.k.trans hκ) u2 (by omega) (by omega) ?_)
    dsimp only
    cases hb:O.blt (kk key (x4 st2) (lo+x)) (kk key (x4 st2) (lo+x-1)) with
    | true =>
     rw[if_pos rfl]
     have dn3:Down key (x4 st2) lo (x+1):=λi j k1 k2 k3=>by
      by_cases hj:j=lo+x
      ·by_cases hi:i=j
       ·rw[hi];exact zE _
       ·rw[hj];exact yq (zi hb) (dn2 i (lo+x-1) k1 (by omega) (by omega))
      ·exact dn2 i j k1 k2 (by omega)
     by_cases q0:q>0
     ·rw[if_pos q0,BO]
      refine xQ (Ae (x3 ?_))
      have ke:=dU (key:=key) (xs:=x4 st2) (i:=lo+x-(q+1)) (j:=lo+x) (by omega) he
      refine ⟨0,rfl,by omega,sa2.mirror (by omega) (by omega),λi j k1 k2 k3 =>?_,by omega,λk k1 k2=>by rw[show k=lo+(x+1)-1 by omega]⟩
      show O.kle (kk key (mirror (x4 st2) (lo+x-(q+1)) (lo+x) ((lo+x-(lo+x-(q+1)))/2)) j) (kk key (mirror (x4 st2) (lo+x-(q+1)) (lo+x) ((lo+x-(lo+x-(q+1)))/2)) i)
      rw[ke,ke]
      exact dn3 i j k1 k2 k3
     ·rw[if_neg q0]
      exact x3 ⟨0,rfl,by omega,sa2,dn3,by omega,λk k1 k2=>by rw[show k=lo+(x+1)-1 by omega]⟩
    | false =>
     rw[if_neg (by simp)]
     refine xQ (fF C (sa2.k.trans hκ) u2 (by omega) (by omega) ?_)
     dsimp only
     cases hb2:O.blt (kk key (x4 st2) (lo+x-1)) (kk key (x4 st2) (lo+x)) with
     | true =>
      rw[if_pos rfl]
      exact x3 ⟨x,q,rfl,by omega,xm,sa2,dn2,hq,he⟩
     | false =>
      rw[if_neg (by simp)]
      have eq:=Dk (show O.kle (kk key (x4 st2) (lo+x)) (kk key (x4 st2) (lo+x-1)) from hb2) hb
      refine x3 ⟨q+1,rfl,by omega,sa2,λi j k1 k2 k3 =>?_,by omega,λk k1 k2 =>?_⟩
      ·by_cases hj:j=lo+x
       ·by_cases hi:i=j
        ·rw[hi];exact zE _
        ·rw[hj,eq];exact dn2 i (lo+x-1) k1 (by omega) (by omega)
       ·exact dn2 i j k1 k2 (by omega)
      ·rw[show lo+(x+1)-1=lo+x by omega,eq]
       by_cases hk:k=lo+x
       ·rw[hk,eq]
       ·exact he k (by omega) (by omega)
   case post =>
    rintro c st2 ⟨x,q,rfl,x1,xm,sa2,dn2,hq,he⟩
    dsimp only
    have sz:=sa2.size
    by_cases q0:q>0
    case' pos =>
     rw[if_pos q0,BO]
     refine xQ (Ae ?_)
     have ke:=dU (key:=key) (xs:=x4 st2) (i:=lo+x-(q+1)) (j:=lo+x) (by omega) he
     have sa3:=sa2.mirror (i:=lo+x-(q+1)) (j:=lo+x) (by omega) (by omega)
     have dn3:Down key (x4 (setArr st2 (mirror (x4 st2) (lo+x-(q+1)) (lo+x) ((lo+x-(lo+x-(q+1)))/2)))) lo x:=λi j k1 k2 k3=>by
      show O.kle (kk key (mirror (x4 st2) (lo+x-(q+1)) (lo+x) ((lo+x-(lo+x-(q+1)))/2)) j) (kk key (mirror (x4 st2) (lo+x-(q+1)) (lo+x) ((lo+x-(lo+x-(q+1)))/2)) i)
      rw[ke,ke]
      exact dn2 i j k1 k2 k3
     generalize setArr st2 (mirror (x4 st2) (lo+x-(q+1)) (lo+x) ((lo+x-(lo+x-(q+1)))/2))=st3 at sa3 dn3 ⊢
     clear ke
    case' neg =>
     rw[if_neg q0]
     obtain ⟨st3,e3⟩:∃st3,st3=st2:=⟨_,rfl⟩
     have sa3:SA lo st st3:=by rw[e3];exact sa2
     have dn3:Down key (x4 st3) lo x:=by rw[e3];exact dn2
     rw[<- e3]
     clear e3
    all_goals
     rw[BO]
     refine xQ (Ae ?_)
     have sz3:=sa3.size
     have sa4:=sa3.mirror (i:=lo) (j:=lo+x) (xC _) (by omega)
     have km:=kE (key:=key) (xs:=x4 st3) (i:=lo) (j:=lo+x) (by omega)
     have up4:Up key (x4 (setArr st3 (mirror (x4 st3) lo (lo+x) ((lo+x-lo)/2)))) lo x:=λi j k1 k2 k3=>by
      show O.kle (kk key (mirror (x4 st3) lo (lo+x) ((lo+x-lo)/2)) i) (kk key (mirror (x4 st3) lo (lo+x) ((lo+x-lo)/2)) j)
      rw[km,km,if_pos ⟨by omega,by omega⟩,if_pos ⟨by omega,by omega⟩]
      exact dn3 _ _ (by omega) (by omega) (by omega)
     generalize setArr st3 (mirror (x4 st3) lo (lo+x) ((lo+x-lo)/2))=st4 at sa4 up4 ⊢
     clear km
     have u4:∀p∈(x4 st4).toList,U p:=λp hp=>hu p (sa4.mem hp)
     have sz4:=sa4.size
     refine xQ (zQ (y7 (I:=λz c st'=>st4=st'/\c=(none,z)/\z<=m/\Up key (x4 st4) lo z)
      (Q:=λc st'=>st4=st'/\∃z,c=(none,z)/\1<=z/\z<=m/\Up key (x4 st4) lo z) ?step ?fin ⟨rfl,rfl,xm,up4⟩) ?post)
     case fin =>
      rintro c st' ⟨rfl,rfl,zm,up⟩
      exact ⟨rfl,_,rfl,by omega,zm,up⟩
     case post =>
      rintro c st' ⟨rfl,z,rfl,z1,zm,up⟩
      exact x3 (h z st4 z1 zm sa4 up)
     case step =>
      rintro z c st' h1 h2 ⟨rfl,rfl,zm,up⟩
      dsimp only
      refine xQ (fF C (sa4.k.trans hκ) u4 (by omega) (by omega) ?_)
      dsimp only
      cases hb:O.blt (kk key (x4 st4) (lo+z)) (kk key (x4 st4) (lo+z-1)) with
      | true =>
       rw[if_pos rfl]
       exact x3 ⟨rfl,z,rfl,by omega,zm,up⟩
      | false =>
       rw[if_neg (by simp)]
       refine x3 ⟨rfl,rfl,by omega,λi j k1 k2 k3 =>?_⟩
       by_cases hj:j=lo+z
       ·by_cases hi:i=j
        ·rw[hi];exact zE _
        ·rw[hj];exact yq (up i (lo+z-1) k1 (by omega) (by omega)) hb
       ·exact up i j k1 k2 (by omega)
theorem kF {xs:Array xY}{src d:Nat}(hs:src<xs.size)(hd:d<=src)(k:Nat) :
  kk key (bubble xs src d) k=if k=src-d then kk key xs src else if src-d<k/\k<=src then kk key xs (k-1) else kk key xs k:=by
 have e:=getElem?_bubble hs d hd k
 by_cases h1:k=src-d
 ·rw[if_pos h1] at e ⊢;exact gw e
 ·rw[if_neg h1] at e ⊢
  by_cases h2:src-d<k/\k<=src
  ·rw[if_pos h2] at e ⊢;exact gw e
  ·rw[if_neg h2] at e ⊢;exact gw e
theorem SA.bubble {lo:Nat}{st st':yl}(h:SA lo st st'){src d:Nat}(hs:src<(x4 st').size)(hd:lo+d<=src):SA lo st (setArr st' (bubble (x4 st') src d)) :=
 ⟨(bubble_perm _ _ _).trans h.perm,λk hk=>by
  show (PyProof.Rows.bubble (x4 st') src d)[k]? = _
  rw[getElem?_bubble hs d (by omega),if_neg (by omega),if_neg (by omega)]
  exact h.pre k hk,h.k,h.p,h.f⟩
theorem qS (C:Cmp prog w A s O key U κ){st:yl}{lo n ok:Nat}{Q:Bool->yl->Prop}(hκ:kindOf st=κ)(hu:∀p∈(x4 st).toList,U p)(hn:lo+n<=(x4 st).size)(hok:ok<=n)(up:Up key (x4 st) lo ok)
  (h:∀st',SA lo st st'->Up key (x4 st') lo n->Q true st'):wpS (x9 prog w) A E s (qJ lo n ok) Q st:=by
 rw[qR]
 dsimp only
 refine xQ (zQ (y7 (I:=λx c st'=>c=(none,())/\SA lo st st'/\Up key (x4 st') lo (min x n)) (Q:=λc st'=>c=(none,())/\SA lo st st'/\Up key (x4 st') lo n) ?step ?fin ⟨rfl,SA.refl _ _,λi j k1 k2 k3 =>?_⟩) ?post)
 case post =>
  rintro c st' ⟨rfl,sa,up⟩
  exact x3 (h st' sa up)
 case fin =>
  rintro c st' ⟨rfl,sa,up⟩
  refine ⟨rfl,sa,?_⟩
  rw[show min (max (max ok 1) n) n=n by omega] at up
  exact up
 case step =>
  rintro k c st1 h1 h2 ⟨rfl,sa1,up1⟩
  rw[show min k n=k by omega] at up1
  have sz:=sa1.size
  have u1:∀p∈(x4 st1).toList,U p:=λp hp=>hu p (sa1.mem hp)
  refine xQ (zQ (y7 (I:=λx c st'=>st1=st'/\∃l r,c=(none,l,r)/\l<=r/\r<=k/\r-l<=k-x/\(∀i,i<l->O.kle (kk key (x4 st1) (lo+i)) (kk key (x4 st1) (lo+k)))/\(∀i,r<=i->i<k->O.klt (kk key (x4 st1) (lo+k)) (kk key (x4 st1) (lo+i))))
   (Q:=λc st'=>st1=st'/\∃l r,c=(none,l,r)/\l<=k/\(∀i,i<l->O.kle (kk key (x4 st1) (lo+i)) (kk key (x4 st1) (lo+k)))/\(∀i,l<=i->i<k->O.klt (kk key (x4 st1) (lo+k)) (kk key (x4 st1) (lo+i)))) ?istep ?ifin ⟨rfl,0,k,rfl,by omega,by omega,by omega,λi hi=>by omega,λi a1 a2=>by omega⟩) ?ipost)
  case ifin =>
   rintro c st' ⟨rfl,l,r,rfl,b1,b2,b3,b4,b5⟩
   have e:l=r:=by omega
   subst e
   exact ⟨rfl,l,l,rfl,b2,b4,b5⟩
  case istep =>
   rintro x c st' _ hx ⟨rfl,l,r,rfl,b1,b2,b3,b4,b5⟩
   dsimp only
   by_cases hge:l≥r
   ·rw[if_pos hge]
    have e:l=r:=by omega
    subst e
    exact x3 ⟨rfl,l,l,rfl,b2,b4,b5⟩
   ·rw[if_neg hge]
    refine xQ (fF C (sa1.k.trans hκ) u1 (by omega) (by omega) ?_)
    dsimp only
    cases hb:O.blt (kk key (x4 st1) (lo+k)) (kk key (x4 st1) (lo+(l+r)/2)) with
    | true =>
     rw[if_pos rfl]
     exact x3 ⟨rfl,l,(l+r)/2,rfl,by omega,by omega,by omega,b4,λi a1 a2=>KeyOrd.klt_of_klt_of_kle hb (up1 _ _ (by omega) (by omega) (by omega))⟩
    | false =>
     rw[if_neg (by simp)]
     exact x3 ⟨rfl,(l+r)/2+1,r,rfl,by omega,by omega,by omega,λi a1=>yq (up1 (lo+i) (lo+(l+r)/2) (by omega) (by omega) (by omega)) hb,b5⟩
  case ipost =>
   rintro c st' ⟨rfl,l,r,rfl,b2,b4,b5⟩
   dsimp only
   rw[moveDown'_eq]
   have e:lo+k-(lo+l)=k-l:=by omega
   refine xQ (Ae (x3 ⟨rfl,?_,?_⟩))
   ·rw[e]
    exact sa1.bubble (by omega) (by omega)
   ·rw[show min (k+1) n=k+1 by omega]
    intro i j k1 k2 k3
    show O.kle (kk key (bubble (x4 st1) (lo+k) (lo+k-(lo+l))) i) (kk key (bubble (x4 st1) (lo+k) (lo+k-(lo+l))) j)
    have lt:lo+k<(x4 st1).size:=by omega
    rw[e,kF lt (by omega),kF lt (by omega),show lo+k-(k-l)=lo+l by omega]
    have b4':∀z,lo<=z->z<lo+l->O.kle (kk key (x4 st1) z) (kk key (x4 st1) (lo+k)):=λz z1 z2=>by
     have:=b4 (z-lo) (by omega)
     rw[show lo+(z-lo)=z by omega] at this
     exact this
    have b5':∀z,lo+l<=z->z<lo+k->O.kle (kk key (x4 st1) (lo+k)) (kk key (x4 st1) z):=λz z1 z2=>by
     have:=b5 (z-lo) (by omega) (by omega)
     rw[show lo+(z-lo)=z by omega] at this
     exact zi this
    repeat' split
    all_goals first
     | (exfalso;omega)
     | exact zE _
     | exact b4' _ (by omega) (by omega)
     | exact b5' _ (by omega) (by omega)
     | exact up1 _ _ (by omega) (by omega) (by omega)
 ·by_cases h1:ok=0
  ·rw[show i=j by omega];exact zE _
  ·exact up i j k1 k2 (by omega)
end
open PySem PyProof.Rows
def pwr:Nat->Nat->Nat->Nat->Nat:=sortPriv% PySem.Builtin.power
def mrn:Nat->Nat->Nat->Nat:=sortPriv% PySem.Builtin.minRun
theorem qT:uD=(do
    let sz:=(x4 (← get)).size
    let mr:=mrn sz sz 0
    let mut lo:=0
    for _ in [0:sz] do
      if lo≥sz then break
      let some fd ← vy lo (sz-lo)
        | return
      let mut n:=fd
      if n<mr then
        rule "list.sort.binary-insertion"
        let fo:=min (sz-lo) mr
        if !(← qJ lo fo n) then return
        n:=fo
      if let some (s1,n1,_):=(yi (← get)).back? then
        let pw:=pwr sz (2*s1+n1) (2*s1+n1+n1+n) sz
        for _ in [0:sz] do
          let p:=yi (← get)
          let some (_,_,old):=(if p.size>1 then p[p.size-2]? else none)
            | break
          if old<=pw then break
          if !(← mAt (p.size-2)) then return
        modify λs=>SortSt.mk' (kindOf s) (x4 s) ((yi s).modify ((yi s).size-1) λ(st,len,_)=>(st,len,pw)) (gallopOf s) (failedOf s)
      modify λs=>SortSt.mk' (kindOf s) (x4 s) ((yi s).push (lo,n,0)) (gallopOf s) (failedOf s)
      lo:=lo+n
    for _ in [0:sz] do
      let p:=yi (← get)
      if p.size<=1 then break
      let i:=p.size-2
      let bf:=if i>0 then p[i-1]?.map (·.2.1) else none
      let i:=if bf.any (· < (p[i+1]?.elim 0 (·.2.1))) then i-1 else i
      if !(← mAt i) then return):=rfl
def Mt:Nat->List (List xY)->List (Nat×Nat×Nat)->Prop
 | _,[],[]=>True
 | off,r :: rs,p :: ps=>p.1=off/\p.2.1=r.length/\Mt (off+r.length) rs ps
 | _,_,_=>False
theorem Mt.length:∀{off:Nat} {rs:List (List xY)} {ps:List (Nat×Nat×Nat)},Mt off rs ps->ps.length=rs.length
 | _,[],[],_=>rfl
 | _,_ :: _,_ :: _,h=>by rw[yo,yo,Mt.length h.2.2]
theorem Mt.append:∀{off:Nat} {rs ts:List (List xY)} {ps us:List (Nat×Nat×Nat)},Mt off rs ps->Mt (off+rs.flatten.length) ts us->Mt off (rs++ts) (ps++us)
 | _,[],_,[],_,_,h=>by simpa using h
 | off,r :: rs,ts,p :: ps,us,h,h'=>by
  refine ⟨h.1,h.2.1,Mt.append h.2.2 ?_⟩
  rw[zN,xM, <- EF] at h'
  exact h'
theorem Mt.split:∀{off:Nat} {rs:List (List xY)} {ps:List (Nat×Nat×Nat)} (i:Nat),Mt off rs ps->i+1<ps.length →
  ∃R1 X Y R2 L1 w1 w2 L2,rs=R1++X :: Y :: R2/\ps=L1++(off+R1.flatten.length,X.length,w1) :: (off+R1.flatten.length+X.length,Y.length,w2) :: L2/\L1.length=i/\Mt off R1 L1/\Mt (off+R1.flatten.length+X.length+Y.length) R2 L2
 | off,r :: r2 :: rs,p :: p2 :: ps,0,h,_=>by
  obtain ⟨a,b,w1⟩:=p
  obtain ⟨c,d,w2⟩:=p2
  obtain ⟨h1,h2,h3,h4,h5⟩:=h
  dsimp only at h1 h2 h3 h4
  subst h1 h2 h3 h4
  exact ⟨[],r,r2,rs,[],w1,w2,ps,rfl,rfl,rfl,trivial,h5⟩
 | off,r :: rs,p :: ps,i+1,h,hl=>by
  rw[yo] at hl
  obtain ⟨R1,X,Y,R2,L1,w1,w2,L2,e1,e2,e3,m1,m2⟩:=Mt.split i h.2.2 (by omega)
  have ea:off+(r :: R1).flatten.length=off+r.length+R1.flatten.length:=by rw[zN,xM];omega
  refine ⟨r :: R1,X,Y,R2,p :: L1,w1,w2,L2,by rw[e1];rfl,?_,by rw[yo,e3],⟨h.1,h.2.1,m1⟩,?_⟩
  ·rw[ea,e2];rfl
  ·rw[ea];exact m2
 | off,[],[],i,_,hl=>by simp at hl
 | off,[_],[_],0,_,hl=>by simp at hl
theorem Mt.modify (f:Nat×Nat×Nat->Nat×Nat×Nat)(hf:∀p,(f p).1=p.1/\(f p).2.1=p.2.1):∀{off:Nat} {rs:List (List xY)} {ps:List (Nat×Nat×Nat)} (i:Nat),Mt off rs ps->Mt off rs (ps.modify i f)
 | _,[],[],i,_=>by cases i <;> exact trivial
 | off,r :: rs,p :: ps,0,h=>⟨(hf p).1.trans h.1,(hf p).2.trans h.2.1,h.2.2⟩
 | off,r :: rs,p :: ps,i+1,h=>⟨h.1,h.2.1,Mt.modify f hf i h.2.2⟩
theorem pK {α:Type}(l:List α)(a b c:α)(r:List α):((l++a :: b :: r).set l.length c).eraseIdx (l.length+1)=l++c :: r:=by
 induction l with
 | nil=>rfl
 | cons x l ih=>simp only[CL,yo,List.set_cons_succ,List.eraseIdx_cons_succ,ih]
section
variable  {O:BI}(key:xY->O.α)(U:xY->Prop)(κ:SortKind)
structure Rn (a0:List xY)(lo:Nat)(st:yl):Prop where
 ex:∃runs rest,(x4 st).toList=runs.flatten++rest/\runs.flatten.length=lo/\(∀r∈runs,r.Pairwise (Le key)/\0<r.length)/\Mt 0 runs (yi st).toList
 perm:(x4 st).toList.Perm a0
 k:kindOf st=κ
 f:failedOf st=none
end
section
variable  {prog:xX}{w:yv}{A:yy}{E:xw->xy->Prop}{s:xy}{O:BI}{key:xY->O.α}{U:xY->Prop}{κ:SortKind}
theorem mq (C:Cmp prog w A s O key U κ){a0:List xY}{lo i:Nat}{st:yl}{Q:Bool->yl->Prop}(hu:∀p∈a0,U p)(R:Rn key κ a0 lo st)(hi:i+1<(yi st).size)
  (h:∀st',Rn key κ a0 lo st'->(yi st').size+1=(yi st).size->(x4 st').toList.drop lo=(x4 st).toList.drop lo->Q true st'):wpS (x9 prog w) A E s (mAt i) Q st:=by
 obtain ⟨runs,rest,ea,el,er,em⟩:=R.ex
 obtain ⟨R1,X,Y,R2,L1,w1,w2,L2,e1,e2,e3,m1,m2⟩:=Mt.split i em (by rw[xK];exact hi)
 subst e1
 rw[Bg] at e2 m2
 have hx:=er X (by simp)
 have hy:=er Y (by simp)
 have ga:(yi st)[i]? = some (R1.flatten.length,X.length,w1):=by
  rw[<- xU,e2, <- e3,show L1.length=L1.length+0 by omega,nJ];rfl
 have gb:(yi st)[i+1]? = some (R1.flatten.length+X.length,Y.length,w2):=by
  rw[<- xU,e2, <- e3,nJ];rfl
 refine vI C (P:=R1.flatten) (X:=X) (Y:=Y) (S:=R2.flatten++rest) R.k R.f (by rw[ea];simp) (λp hp=>hu p (R.perm.mem_iff.mp hp)) ga gb hx.2 hy.2 hx.1 hy.1 λst' M pm sm ar pd kd fl =>?_
 have lm:M.length=X.length+Y.length:=by rw[pm.length_eq,xM]
 have ep:(yi st').toList=L1++(R1.flatten.length,X.length+Y.length,w1) :: L2:=by
  rw[pd,Array.toList_eraseIdxIfInBounds,B9,e2, <- e3]
  exact pK _ _ _ _ _
 refine h st' ⟨⟨R1++M :: R2,rest,?_,?_,λr hr =>?_,?_⟩,?_,kd,fl⟩ ?_ ?_
 ·rw[ar];simp
 ·rw[<- el];simp[lm];omega
 ·rcases xS.mp hr with q | q
  ·exact er r (by simp[q])
  ·rcases yj.mp q with q | q
   ·rw[q];exact ⟨sm,by have:=hx.2;omega⟩
   ·exact er r (by simp[q])
 ·rw[ep]
  refine Mt.append m1 ⟨by rw[Bg],lm.symm,?_⟩
  rw[Bg,lm, <- EF]
  exact m2
 ·rw[ar]
  refine List.Perm.trans ?_ R.perm
  rw[ea,show (R1++X :: Y :: R2).flatten++rest=R1.flatten++((X++Y)++(R2.flatten++rest)) by simp]
  exact zT _ (Ak _ pm)
 ·rw[<- xK, <- xK,ep,e2]
  simp only[xM,yo]
  omega
 ·have l1:(R1++M :: R2).flatten.length=lo:=by rw[<- el];simp[lm];omega
  have q1:(x4 st').toList=(R1++M :: R2).flatten++rest:=by rw[ar];simp
  rw[q1,ea, <- l1,Cm,l1, <- el,Cm]
theorem Rn.sa {a0:List xY}{lo:Nat}{st st':yl}(R:Rn key κ a0 lo st)(sa:SA lo st st'):Rn key κ a0 lo st':=by
 obtain ⟨runs,rest,ea,el,er,em⟩:=R.ex
 have et:(x4 st').toList.take lo=runs.flatten:=by
  have e1:(x4 st').toList.take lo=(x4 st).toList.take lo:=by
   refine Cu λi =>?_
   rw[zX,zX]
   split
   ·rw[xU,xU];exact sa.pre i (by assumption)
   ·rfl
  rw[e1,ea, <- el,List.take_left]
 refine ⟨⟨runs,(x4 st').toList.drop lo,by rw[<- et,zU],el,er,by rw[sa.p];exact em⟩,(Ca.mp sa.perm).trans R.perm,sa.k.trans R.k,sa.f.trans R.f⟩
theorem pL {xs:Array xY}{lo n:Nat}(h:Up key xs lo n):((xs.toList.drop lo).take n).Pairwise (Le key):=by
 refine Aw.mpr λi j hi hj hij =>?_
 have get:∀k (hk:k<((xs.toList.drop lo).take n).length),key ((xs.toList.drop lo).take n)[k]=kk key xs (lo+k)/\k<n:=λk hk=>by
  have hk':=hk
  rw[yw] at hk'
  refine ⟨?_,by omega⟩
  have e:((xs.toList.drop lo).take n)[k]? = xs[lo+k]? := by
   rw[zX,if_pos (by omega),Bm,xU]
  rw[xP hk] at e
  unfold kk
  rw[<- e];rfl
 obtain ⟨e1,l1⟩:=get i hi
 obtain ⟨e2,l2⟩:=get j hj
 show O.kle (key _) (key _)
 rw[e1,e2]
 exact h _ _ (by omega) (by omega) (by omega)
theorem Rn.push {a0:List xY}{lo n:Nat}{st:yl}(R:Rn key κ a0 lo st)(hn:0<n)(hz:lo+n<=(x4 st).size)(hs:(((x4 st).toList.drop lo).take n).Pairwise (Le key)) :
  Rn key κ a0 (lo+n) (SortSt.mk' (kindOf st) (x4 st) ((yi st).push (lo,n,0)) (gallopOf st) (failedOf st)):=by
 obtain ⟨runs,rest,ea,el,er,em⟩:=R.ex
 have ed:(x4 st).toList.drop lo=rest:=by rw[ea, <- el,Cm]
 rw[ed] at hs
 have lr:n<=rest.length:=by
  have:=congrArg List.length ea
  rw[xK,xM,el] at this
  omega
 have lt:(rest.take n).length=n:=by rw[yw];omega
 refine ⟨⟨runs++[rest.take n],rest.drop n,?_,?_,λr hr =>?_,?_⟩,R.perm,R.k,R.f⟩
 ·show (x4 st).toList=_
  rw[ea];simp
 ·simp[lt,el]
 ·rcases xS.mp hr with q | q
  ·exact er r q
  ·have e:r=rest.take n:=by simpa using q
   rw[e];exact ⟨hs,by omega⟩
 ·show Mt 0 _ ((yi st).push (lo,n,0)).toList
  rw[Ac]
  exact Mt.append em ⟨by show lo=_;omega,lt.symm,trivial⟩
theorem Rn.mod {a0:List xY}{lo:Nat}{st:yl}(R:Rn key κ a0 lo st)(i:Nat)(f:Nat×Nat×Nat->Nat×Nat×Nat)(hf:∀p,(f p).1=p.1/\(f p).2.1=p.2.1):Rn key κ a0 lo (SortSt.mk' (kindOf st) (x4 st) ((yi st).modify i f) (gallopOf st) (failedOf st)):=by
 obtain ⟨runs,rest,ea,el,er,em⟩:=R.ex
 refine ⟨⟨runs,rest,ea,el,er,?_⟩,R.perm,R.k,R.f⟩
 show Mt 0 runs ((yi st).modify i f).toList
 rw[Array.toList_modify]
 exact Mt.modify f hf i em
theorem vJ {c:Prop}[Decidable c]{n:Nat}(h:1<n):(if c then n-2-1 else n-2)+1<n:=by split <;> omega
theorem kG:∀{runs:List (List xY)},(∀r∈runs,0<r.length)->runs.length<=runs.flatten.length
 | [],_=>xC _
 | r :: rs,h=>by
  have h1:=h r xT
  have h2:=kG λq hq=>h q (xO _ hq)
  rw[zN,xM,yo]
  omega
theorem mw (C:Cmp prog w A s O key U κ){a0:List xY}{st:yl}{Q:Unit->yl->Prop}(hu:∀p∈a0,U p)(ha:(x4 st).toList=a0)(hp:yi st = #[])(hk:kindOf st=κ)(hf:failedOf st=none)(h1:1<=a0.length)
  (h:∀st',(x4 st').toList.Perm a0->(x4 st').toList.Pairwise (Le key)->failedOf st'=none->Q () st'):wpS (x9 prog w) A E s uD Q st:=by
 rw[qT]
 refine xQ (BN ?_)
 dsimp only
 have sz0:(x4 st).size=a0.length:=by rw[<- xK,ha]
 have szR:∀{lo:Nat} {st':yl},Rn key κ a0 lo st'->(x4 st').size=(x4 st).size:=λR=>by rw[<- xK,R.perm.length_eq,sz0]
 have uR:∀{lo:Nat} {st':yl},Rn key κ a0 lo st'->∀p∈(x4 st').toList,U p:=λR p hp=>hu p (R.perm.mem_iff.mp hp)
 have R0:Rn key κ a0 0 st:=⟨⟨[],a0,by rw[ha];rfl,rfl,λr hr=>(by cases hr),by rw[hp];exact trivial⟩,by rw[ha],hk,hf⟩
 refine xQ (zQ (y7 (I:=λx c st'=>∃lo,c=(none,lo)/\x<=lo/\lo<=(x4 st).size/\Rn key κ a0 lo st') (Q:=λc st'=>c=(none,(x4 st).size)/\Rn key κ a0 (x4 st).size st') ?step ?fin ⟨0,rfl,xC _,yE _,R0⟩) ?post)
 case fin =>
  rintro c st' ⟨lo,rfl,l1,l2,R⟩
  obtain rfl:lo=(x4 st).size:=by omega
  exact ⟨rfl,R⟩
 case post =>
  rintro c st1 ⟨rfl,R⟩
  dsimp only
  have p0:(yi st1).size<=(x4 st).size:=by
   obtain ⟨runs,rest,ea,el,er,em⟩:=R.ex
   have q:=em.length
   rw[xK] at q
   have:=kG λr hr=>(er r hr).2
   omega
  refine xQ (zQ (y7 (I:=λx c st'=>c=(none,())/\Rn key κ a0 (x4 st).size st'/\((yi st').size<=1\/(yi st').size+x<=(x4 st).size)) (Q:=λc st'=>c=(none,())/\Rn key κ a0 (x4 st).size st'/\(yi st').size<=1) ?stepB ?finB ⟨rfl,R,.inr (by omega)⟩) ?postB)
  case finB =>
   rintro c st' ⟨rfl,R,q⟩
   exact ⟨rfl,R,by omega⟩
  case stepB =>
   rintro x c st' _ hx ⟨rfl,R,q⟩
   refine xQ (BN ?_)
   by_cases c1:(yi st').size<=1
   ·rw[if_pos c1]
    exact x3 ⟨rfl,R,c1⟩
   rw[if_neg c1]
   refine xQ (mq C hu R (vJ (by omega)) λst2 R2 s2 _ =>?_)
   simp only[BU,zp,if_false]
   exact x3 ⟨rfl,R2,by omega⟩
  case postB =>
   rintro c st' ⟨rfl,R,q⟩
   obtain ⟨runs,rest,ea,el,er,em⟩:=R.ex
   have lm:=em.length
   rw[xK] at lm
   have lr:=congrArg List.length ea
   rw[xK,szR R,xM,el] at lr
   have er0:rest=[]:=AH.mp (by omega)
   subst er0
   rw[yC] at ea
   match runs,er,lm,el,ea with
   | [],_,_,el,_=>simp at el;omega
   | [r],er,_,_,ea =>
    have e:(x4 st').toList=r:=by rw[ea];simp
    exact x3 (h st' R.perm (by rw[e];exact (er r (by simp)).1) R.f)
   | _ :: _ :: _,_,lm,_,_=>simp at lm;omega
 case step =>
  rintro x c st1 _ hx ⟨lo,rfl,l1,l2,R⟩
  dsimp only
  by_cases cl:lo≥(x4 st).size
  ·rw[if_pos cl]
   obtain rfl:lo=(x4 st).size:=by omega
   exact x3 ⟨rfl,R⟩
  rw[if_neg cl]
  have s1:=szR R
  refine xQ (tR C R.k (uR R) (by omega) (by omega) λn st2 n1 n2 sa2 up2 =>?_)
  dsimp only
  have R2:=R.sa sa2
  have s2:=szR R2
  by_cases cm:n<mrn (x4 st).size (x4 st).size 0
  case' pos =>
   rw[if_pos cm]
   refine xQ (BW (AN ⟨rfl,?_⟩))
   obtain ⟨fo,e⟩:∃fo,fo=min ((x4 st).size-lo) (mrn (x4 st).size (x4 st).size 0):=⟨_,rfl⟩
   rw[<- e]
   refine xQ (qS C R2.k (uR R2) (by omega) (by omega) up2 λst3 sa3 up3 =>?_)
   simp only[BU,zp,if_false]
   have R3:=R2.sa sa3
   have f0:0<fo:=by omega
   have f1:lo+fo<=(x4 st).size:=by omega
  case' neg =>
   rw[if_neg cm]
   obtain ⟨fo,e⟩:∃fo,fo=n:=⟨_,rfl⟩
   subst e
   obtain ⟨st3,e3⟩:∃st3,st3=st2:=⟨_,rfl⟩
   subst e3
   have R3:=R2
   have up3:=up2
   have f0:0<fo:=n1
   have f1:lo+fo<=(x4 st).size:=by omega
  all_goals
   have srt:=pL up3
   have s3:=szR R3
   refine xQ (BN ?_)
   cases hbk:(yi st3).back? with
   | none =>
    dsimp only
    exact xQ (Ae (x3 ⟨lo+fo,rfl,by omega,f1,R3.push f0 (by omega) srt⟩))
   | some t =>
    obtain ⟨t1,t2,t3⟩:=t
    dsimp only
    refine xQ (zQ (y7 (I:=λ_ c st'=>c=(none,())/\Rn key κ a0 lo st'/\(x4 st').toList.drop lo=(x4 st3).toList.drop lo) (Q:=λc st'=>c=(none,())/\Rn key κ a0 lo st'/\(x4 st').toList.drop lo=(x4 st3).toList.drop lo) ?stepC ?finC ⟨rfl,R3,rfl⟩) ?postC)
    case finC=>exact λc st' q=>q
    case stepC =>
     rintro z c st4 _ _ ⟨rfl,R4,d4⟩
     refine xQ (BN ?_)
     by_cases p1:(yi st4).size>1
     ·rw[if_pos p1]
      have lt:(yi st4).size-2<(yi st4).size:=by omega
      have e:(yi st4)[(yi st4).size-2]? = some (yi st4)[(yi st4).size-2]:=by simp[lt]
      rw[e]
      dsimp only
      split
      ·exact x3 ⟨rfl,R4,d4⟩
      ·refine xQ (mq C hu R4 (by omega) λst5 R5 _ d5 =>?_)
       simp only[BU,zp,if_false]
       exact x3 ⟨rfl,R5,d5.trans d4⟩
     ·rw[if_neg p1]
      exact x3 ⟨rfl,R4,d4⟩
    case postC =>
     rintro c st4 ⟨rfl,R4,d4⟩
     dsimp only
     have s4:=szR R4
     refine xQ (Ae (xQ (Ae (x3 ⟨lo+fo,rfl,by omega,f1,?_⟩))))
     refine Rn.push ?_ f0 ?_ ?_
     ·refine Rn.mod R4 _ _ ?_
      exact λp=>⟨rfl,rfl⟩
     ·show lo+fo<=(x4 st4).size
      omega
     ·show (((x4 st4).toList.drop lo).take fo).Pairwise (Le key)
      rw[d4]
      exact srt
end
open PySem PyProof.Rows
structure ot (prog:xX)(w:yv)(s:xy)(vs:List xw)(O:BI)(key:xw->O.α):Prop where
 ok:2<=vs.length->∀(A:yy) (h6:Heap),(∀b o,s.heap.get? b=some o->h6.get? b=some o)->∃κ,(∀(Q:SortKind->xy->Prop) (E:xw->xy->Prop),Q κ { s with heap:=h6 }->x8 (x9 prog w) A (keyKind' vs.toArray) Q E { s with heap:=h6 }) ∧
  Cmp prog w A { s with heap:=h6 } O (λp=>key p.1) (λp=>p.1=p.2/\p.1∈vs) κ
section
variable  {prog:xX}{w:yv}{A:yy}{E:xw->xy->Prop}{s:xy}{O:BI}{key:xw->O.α}
theorem zs:∀vs:List xw,(vs.zip vs).map (·.2)=vs
 | []=>rfl
 | v :: vs=>by rw[Bi,xR,zs vs]
theorem my {l:List xY}{vs:List xw}(h:l.Perm (vs.zip vs)):(l.map (·.2)).Perm vs/\∀p∈l,p.1=p.2/\p.1∈vs:=by
 have e:=zs vs
 refine ⟨by have:=h.map (·.2);rw[e] at this;exact this,λp hp =>?_⟩
 have m:=h.mem_iff.mp hp
 obtain ⟨i,hi⟩:=yF.mp m
 rw[zh] at hi
 have e1:=hi.1.symm.trans hi.2
 exact ⟨ym e1,xD hi.1⟩
theorem fW {a:Addr}{vs:List xw}{n:Nat}{P:Fin->xy->Prop}(ho:s.heap.get? a=some (seqObj "list" vs.toArray n))(hz:vs.length<=xG)
    (hc:2<=vs.length->∀h6,(∀b o,b≠a->s.heap.get? b=some o->h6.get? b=some o)->∃κ,(∀(Q:SortKind->xy->Prop) (E:xw->xy->Prop),Q κ { s with heap:=h6 }->x8 (x9 prog w) A (keyKind' vs.toArray) Q E { s with heap:=h6 }) ∧
      Cmp prog w A { s with heap:=h6 } O (λp=>key p.1) (λp=>p.1=p.2/\p.1∈vs) κ)
    (h:∀out:List xw,out.Perm vs->out.Pairwise (λx y=>O.kle (key x) (key y))->P (.done (.ret .none)) { s with heap:=sortedHeap s.heap a vs out.toArray }):x8 (x9 prog w) A (Builtin.«list.sort» ⟨[.ref a],[]⟩) P E s:=by
  rw[list_sort_plain]
  have ha:a<s.heap.objs.size:=xE ho
  refine xu (BG ho rfl ?_)
  refine xu (Au ho rfl ?_ (by rw[xA];exact hz) (yE _))
  obtain ⟨e1,ho1⟩:∃e1,(s.heap.update a (yk λ_ => #[])).get? a=some (seqObj "list" #[] e1):=⟨_,Bs ho (λ_ => #[])⟩
  refine xu (Dp ho1 rfl (xu (Dg ?_ (by exact hz))))
  refine xu (Bt ?_ (yE _))
  refine zG ?_
  generalize hH:((s.heap.update a (yk λ_ => #[])).push (seqObj "tuple" vs.toArray 0)).push (seqObj "list" #[] 0)=h6
  have kp:∀b o,b≠a->s.heap.get? b=some o->h6.get? b=some o:=λb o nb e=>by
    rw[<- hH]
    refine xv _ (xv _ ?_)
    rw[zw _ _ _ _ nb]
    exact e
  have ho6:h6.get? a=some (seqObj "list" #[] e1):=by
    rw[<- hH]
    exact xv _ (xv _ ho1)
  have eH:∀out:List xw,sortedHeap s.heap a vs out.toArray=h6.update a (yk λ_=>out.toArray):=λout=>by rw[<- hH];rfl
  have go:∀st':yl,(x4 st').toList.Perm (vs.zip vs)->(x4 st').toList.Pairwise (λp q=>O.kle (key p.1) (key q.1))->failedOf st'=none →
      x8 (x9 prog w) A (do
        let sorted:=(x4 st').map (·.2)
        let touched:=(← seqEpoch a) != e1
        Builtin.List.listUpdate (.ref a) λ_=>sorted
        if let some e:=failedOf st' then rule "list.sort.comparison-raised";throw e
        if touched then rule "list.sort.modified";raiseError "ValueError" "list modified during sort"
        ret .none) P E { s with heap:=h6 }:=by
    intro st' pm ps hf
    obtain ⟨z1,z2⟩:=my pm
    have em:(x4 st').map (·.2)=((x4 st').toList.map (·.2)).toArray:=by
      apply CJ.mp
      rw[Array.toList_map]
    dsimp only
    refine xu (Dp ho6 rfl ?_)
    refine xu (Au ho6 rfl ?_ (yE _) (by rw[Array.size_map, <- xK,pm.length_eq,AA,Cd];omega))
    rw[hf]
    simp only[bne_self_eq_false,zp,if_false]
    refine xJ ?_
    rw[em, <- eH]
    refine h _ z1 (yG.mpr (ps.imp_of_mem λ{p q} hp hq le =>?_))
    rw[<- (z2 p hp).1, <- (z2 q hq).1]
    exact le
  by_cases h2:vs.toArray.size<2
  · rw[if_pos h2,if_pos h2]
    refine xu (xJ ?_)
    dsimp only
    rw[Ec]
    refine xu (xJ ?_)
    refine go (SortSt.mk' general' (vs.toArray.zip vs.toArray) #[] 7 none) (by show (vs.toArray.zip vs.toArray).toList.Perm _;simp) ?_ rfl
    rw[xA] at h2
    have et:(vs.toArray.zip vs.toArray).toList=vs.zip vs:=by simp
    show (vs.toArray.zip vs.toArray).toList.Pairwise (λ(p q:xY)=>O.kle (key p.1) (key q.1))
    rw[et]
    have short:∀us:List xw,us.length<2->(us.zip us).Pairwise (λ(p q:xY)=>O.kle (key p.1) (key q.1)):=λus hu=>by
      match us,hu with
      | [],_=>exact List.Pairwise.nil
      | [v],_=>exact yR _ _
      | _ :: _ :: _,hu=>simp only[yo] at hu;omega
    exact short vs h2
  · rw[if_neg h2,if_neg h2]
    rw[xA] at h2
    obtain ⟨κ,k1,C⟩:=hc (by omega) h6 kp
    refine xu (k1 _ _ ?_)
    have et:(vs.toArray.zip vs.toArray).toList=vs.zip vs:=by simp
    refine xu (zk (mw C (E:=E) (a0:=vs.zip vs) (st:=SortSt.mk' κ (vs.toArray.zip vs.toArray) #[] 7 none)
      (Q:=λ_ st'=>(x4 st').toList.Perm (vs.zip vs)/\(x4 st').toList.Pairwise (Le λ(p:xY)=>key p.1)/\failedOf st'=none)
      (my (Cj _)).2 et rfl rfl rfl (by rw[AA,Cd];omega) λst' a1 a2 a3=>⟨a1,a2,a3⟩) ?_ λ_ _ e=>e)
    rintro ⟨⟨⟩,st'⟩ s' ⟨rfl,hp,hs,hf⟩
    exact go st' hp hs hf
def jl (prog:xX)(w:yv)(s:xy)(v:xw)(vs:List xw):Prop :=
 ∀(A:yy) (E:xw->xy->Prop) (R:List xw->xy->Prop),(∀h1,(∀b o,s.heap.get? b=some o->h1.get? b=some o)->s.heap.objs.size<=h1.objs.size->R vs { s with heap:=h1 })->x8 (x9 prog w) A (collect v) R E s
theorem nK {v:xw}{vs:List xw}{Q:xw->xy->Prop}(hv:jl prog w s v vs)(hz:vs.length<=xG)(C:ot prog w s vs O key)
  (h:∀(h':Heap) (p:Addr) (out:List xw) (n:Nat),(∀b o,s.heap.get? b=some o->h'.get? b=some o)->s.heap.objs.size<=p->h'.get? p=some (seqObj "list" out.toArray n)->out.Perm vs->out.Pairwise (λx y=>O.kle (key x) (key y))->Q (.ref p) { s with heap:=h' }) :
  x8 (x9 prog w) A (call (.builtin "sorted") [v]) Q E s:=by
 refine Cn Ej DU DV (args_sorted1 _) ?_
 unfold Builtin.«sorted»
 refine xu (m:=checkCount "sorted" 1 1 _) (xJ ?_)
 refine xu (hv _ _ _ λh1 k1 z1=>xu (Bt ?_ hz))
 have hoL:(h1.push (seqObj "list" vs.toArray 0)).get? h1.objs.size=some (seqObj "list" vs.toArray 0):=xF _ rfl
 have kL:∀b o,s.heap.get? b=some o->(h1.push (seqObj "list" vs.toArray 0)).get? b=some o:=λb o e=>xv _ (k1 b o e)
 refine xu (zG (ze slot_list_sort ⟨_,hoL,rfl⟩ entry_list_sort (fW (key:=key) (O:=O) hoL hz (λh2 h6 k6 =>?_) λout pm ps=>⟨_,rfl,?_⟩) (args_list_sort _)))
 ·exact C.ok h2 _ h6 λb o e=>k6 b o (x5 (xZ (xE e) z1)) (kL b o e)
 ·obtain ⟨n,en⟩:=sortedHeap_at (out:=out.toArray) hoL
  refine xJ ⟨_,rfl,h _ _ out n (λb o e =>?_) z1 en pm ps⟩
  have lt:=xZ (xE e) z1
  rw[sortedHeap_old (x5 lt) (by rw[DP];exact zy lt)]
  exact kL b o e
theorem dW {l:Addr}{o:Obj}{vs:List xw}{n:Nat}(ho:s.heap.get? l=some o)(hc:o.cls = .type "list" \/ o.cls = .type "tuple")(hd:o.data = .seq vs.toArray n)(hz:vs.length<=xG):jl prog w s (.ref l) vs:=by
  intro A E R h
  unfold collect
  refine xu (Cq (yI entry_proto_collect' ?_))
  show x8 _ _ (do again (.builtin "list.__iadd__" ⟨[<- newList [],.ref l],[]⟩)) _ _ s
  refine xu (Bt (xJ ⟨Dy _ (by decide +kernel),yI entry_list_iadd' ?_⟩))
  show x8 _ _ (yZ (.ref s.heap.objs.size) (.ref l) (.ref s.heap.objs.size)) _ _ { s with heap:=s.heap.push (seqObj "list" #[] 0) }
  unfold yZ
  have ho':(s.heap.push (seqObj "list" #[] 0)).get? l=some o:=xv _ ho
  have cond:∀T,o.cls = .type T->(T = "list" \/ T = "tuple")->x8 (x9 prog w) A (typeOf (.ref l)) (λt s'=>t = .type T/\s'={ s with heap:=s.heap.push (seqObj "list" #[] 0) }) E { s with heap:=s.heap.push (seqObj "list" #[] 0) }:=λT e _=>BH (T:=T) ⟨o,ho',e⟩ ⟨rfl,rfl⟩
  obtain ⟨T,eT,hT⟩:∃T,o.cls = .type T/\(T = "list" \/ T = "tuple"):=by
    rcases hc with hc | hc
    · exact ⟨_,hc,.inl rfl⟩
    · exact ⟨_,hc,.inr rfl⟩
  refine xu (BH (T:=T) ⟨o,ho',eT⟩ ?_)
  rw[if_pos (by rcases hT with rfl | rfl <;> simp)]
  refine xu (BG ho' hd ?_)
  refine xu (BG (xs := #[]) (n:=0) (xF _ rfl) rfl ?_)
  rw[if_neg (by simp)]
  refine xu (Au (xs := #[]) (n:=0) (xF _ rfl) rfl ?_ (yE _) (by show (#[]++vs.toArray).size<=xG+1;simp only[A3,xA,Az];omega))
  refine xJ ?_
  show x8 (x9 prog w) A (do
      let o ← load s.heap.objs.size
      match o.data with
      | .seq xs _=>pure xs.toList
      | _=>unsupported "internal:collect") R E { s with heap:=(s.heap.push (seqObj "list" #[] 0)).update s.heap.objs.size (yk (· ++ vs.toArray)) }
  refine xu (C8 (Bs (xF _ rfl) _) ?_)
  show x8 _ _ (pure ((#[]:Array xw)++vs.toArray).toList) R E _
  rw[show ((#[]:Array xw)++vs.toArray).toList=vs by simp]
  refine xJ (h _ (λb ob e =>?_) ?_)
  · rw[zw _ _ _ _ (x5 (xE e))]
    exact xv _ e
  · rw[D1,DP]
    exact Nat.le_succ _
end
open PySem PyProof.Rows
def jm:BI where
 α:=Int
 blt:=λa b=>decide (a<b)
 irrefl:=λa=>by simp
 trans:=λa b c h1 h2=>by simp at *;omega
 negTrans:=λa b c h=>by simp at *;omega
 total:=λa b h1 h2=>by simp at *;omega
theorem lex_irrefl:∀a,HT.lexLt a a=false
 | []=>rfl
 | x :: xs=>by rw[HT.bb,if_pos rfl];exact lex_irrefl xs
theorem lex_trans:∀a b c,HT.lexLt a b=true->HT.lexLt b c=true->HT.lexLt a c=true
 | [],[],_,h,_=>by cases h
 | [],_ :: _,[],_,h=>by cases h
 | [],_ :: _,_ :: _,_,_=>rfl
 | _ :: _,[],_,h,_=>by cases h
 | _ :: _,_ :: _,[],_,h=>by cases h
 | x :: xs,y :: ys,z :: zs,h1,h2=>by
  rw[HT.bb] at *
  by_cases e1:x=y
  ·subst e1
   rw[if_pos rfl] at h1
   by_cases e2:x=z
   ·rw[if_pos e2] at h2 ⊢
    exact lex_trans xs ys zs h1 h2
   ·rw[if_neg e2] at h2 ⊢
    exact h2
  ·rw[if_neg e1] at h1
   have l1:=of_decide_eq_true h1
   by_cases e2:y=z
   ·subst e2
    rw[if_neg e1]
    exact h1
   ·rw[if_neg e2] at h2
    have l2:=of_decide_eq_true h2
    rw[if_neg (by omega)]
    exact decide_eq_true (by omega)
theorem fG:∀a b,HT.lexLt a b=false->HT.lexLt b a=false->a=b
 | [],[],_,_=>rfl
 | [],_ :: _,h,_=>by cases h
 | _ :: _,[],_,h=>by cases h
 | x :: xs,y :: ys,h1,h2=>by
  rw[HT.bb] at *
  by_cases e:x=y
  ·subst e
   rw[if_pos rfl] at h1 h2
   rw[fG xs ys h1 h2]
  ·rw[if_neg e] at h1
   rw[if_neg (zj e)] at h2
   have a1:=of_decide_eq_false h1
   have a2:=of_decide_eq_false h2
   omega
theorem tS (a b c:List Int)(h:HT.lexLt a c=true):HT.lexLt a b=true\/HT.lexLt b c=true:=by
 cases h1:HT.lexLt a b with
 | true=>exact .inl rfl
 | false =>
  right
  cases h2:HT.lexLt b a with
  | true=>exact lex_trans b a c h2 h
  | false=>rw[<- fG a b h1 h2];exact h
def lexOrd:BI where
 α:=List Int
 blt:=HT.lexLt
 irrefl:=lex_irrefl
 trans:=lex_trans
 negTrans:=tS
 total:=fG
def intOf:xw->Int
 | .int i _=>i
 | _=>0
section
variable  {prog:xX}{w:yv}{A:yy}{E:xw->xy->Prop}{s:xy}
theorem eX:∀{vs:List xw} {ns:List Int},zJ vs ns->∀v∈vs,∃i t,v = .int i t
 | _,_,.nil,v,h=>by cases h
 | _,_,.cons n t r,v,h=>by
  rcases yj.mp h with e | e
  ·exact ⟨n,t,e⟩
  ·exact eX r v e
theorem lD {vs:List xw}{ns:List Int}(hI:zJ vs ns):ot prog w s vs jm intOf:=by
 refine ⟨λh2 A h6 _=>⟨oneType',λQ E q =>?_,⟨λE st x y Q hk hx hy q =>?_⟩⟩⟩
 ·match vs,h2,hI with
  | v1 :: v2 :: rest,_,hI =>
   rw[keyKind_ints hI]
   exact xJ q
  | [],h2,_=>simp at h2
  | [_],h2,_=>simp at h2
 ·obtain ⟨i,t,e1⟩:=eX hI _ hx.2
  obtain ⟨j,u,e2⟩:=eX hI _ hy.2
  rw[lt'_eq]
  refine xQ (BN ?_)
  rw[hk,Dh,e1,e2]
  refine xQ (BW (zR (oneLt_int ⟨rfl,?_⟩)))
  refine x3 ?_
  have q':Q (some (decide (intOf x.1<intOf y.1))) st:=q
  rw[e1,e2] at q'
  exact q'
def cG (h:Heap)(v:xw):List Int:=match v with
 | .ref p=>match h.get? p with
  | some o=>match o.data with
   | .seq xs _=>xs.toList.map intOf
   | _=>[]
  | none=>[]
 | _=>[]
def aV (h:Heap)(v:xw)(ns:List Int):Prop:=∃p o xs n,v = .ref p/\h.get? p=some o/\o.cls = .type "tuple" /\ o.data = .seq xs n/\zJ xs.toList ns
theorem ints_map:∀{vs:List xw} {ns:List Int},zJ vs ns->vs.map intOf=ns
 | _,_,.nil=>rfl
 | _,_,.cons n t r=>by rw[xR,ints_map r];rfl
theorem aV.ints {h:Heap}{v:xw}{ns:List Int}(x:aV h v ns):cG h v=ns:=by
 obtain ⟨p,o,xs,n,rfl,e,_,d,r⟩:=x
 unfold cG
 dsimp only
 rw[e]
 dsimp only
 rw[d]
 exact ints_map r
theorem aV.keeps {h h':Heap}{v:xw}{ns:List Int}(x:aV h v ns)(k:∀b o,h.get? b=some o->h'.get? b=some o):aV h' v ns:=by
 obtain ⟨p,o,xs,n,rfl,e,r⟩:=x
 exact ⟨p,o,xs,n,rfl,k _ _ e,r⟩
end
end Srt
namespace L2
open PySem PySem.Spec PyProof.Rows
theorem dX {α β:Type}{f:α -> β}:∀{l:List β} {m:List α},l.Perm (m.map f)->∃m':List α,m'.Perm m/\l=m'.map f:=by
 intro l m h
 generalize hk:m.map f=k at h
 induction h generalizing m with
 | nil =>
  have:m=[]:=Ag.mp hk
  exact ⟨[],by rw[this],rfl⟩
 | cons x _ ih =>
  match m,hk with
  | y :: m,hk =>
   rw[xR] at hk
   injection hk with h1 h2
   obtain ⟨m',p,e⟩:=ih h2
   exact ⟨y :: m',p.cons y,by rw[xR, <- e,h1]⟩
  | [],hk=>cases hk
 | swap x y l =>
  match m,hk with
  | a :: b :: m,hk =>
   rw[xR,xR] at hk
   injection hk with h1 h2
   injection h2 with h2 h3
   exact ⟨b :: a :: m,List.Perm.swap a b m,by rw[xR,xR,h1,h2,h3]⟩
  | [],hk=>cases hk
  | [_],hk=>simp at hk
 | trans _ _ ih1 ih2 =>
  obtain ⟨m',p,e⟩:=ih2 hk
  obtain ⟨m'',p',e'⟩:=ih1 e.symm
  exact ⟨m'',p'.trans p,e'⟩
theorem dY:∀{ns:List Int} {us:List xw},Vals (ns.map V.int) us->zJ us ns:=λr=>intsAre_of r
theorem lE:∀{us:List xw} {ns:List Int},zJ us ns->Vals (ns.map V.int) us:=λr=>gY r
theorem kH:∀{us:List xw},(∀u∈us,∃i t,u=Ab i t)->zJ us (us.map Srt.intOf)
 | [],_ =>.nil
 | u :: us,h=>by
  obtain ⟨i,t,e⟩:=h u xT
  subst e
  exact .cons i t (kH λv hv=>h v (xO _ hv))
theorem fH:∀{α:Type} {f:α -> Addr} {ps:List α} {us:List xw},Vals (ps.map λx=>V.ref (f x)) us->us=ps.map λx=>xV (f x)
 | _,_,[],_,r=>by cases r;rfl
 | _,f,p :: ps,_,r=>by
  cases r with
  | cons h t=>rw[xR, <- fH t,show _=xV (f p) from h]
theorem dE {α:Type}{f:α -> Addr}:∀{ps:List α},Vals (ps.map λx=>V.ref (f x)) (ps.map λx=>xV (f x))
 | [] =>.nil
 | p :: ps =>.cons rfl dE
section
variable  {X:Cx}
theorem Inv.jq {pins:List (Addr×Obj)}{σ:St}{H:Hp}{s:xy}{p:Addr}{ys:List V}(I:Inv X pins σ H s)(h:SqL X.K H p ys\/SqT X.K H p ys) :
  ∃(its:List xw) (o:Obj) (n:Nat),Vals ys its/\s.heap.get? p=some o/\(o.cls = .type "list" \/ o.cls = .type "tuple")/\o.data = .seq its.toArray n/\ys.length<=xG:=by
 rcases h with h | h
 ·obtain ⟨its,r,⟨o,n,e,c,_,d⟩,z⟩:=I.list h
  exact ⟨its,o,n,r,e,.inl c,d,z⟩
 ·obtain ⟨its,r,⟨o,e,c,n,d⟩,z⟩:=I.tuple h
  exact ⟨its,o,n,r,e,.inr c,d,z⟩
theorem Inv.newList {pins:List (Addr×Obj)}{σ:St}{H:Hp}{s:xy}{h':Heap}{p:Addr}{ys:List V}{its:List xw}{n:Nat}(I:Inv X pins σ H s)(k:∀b o,s.heap.get? b=some o->h'.get? b=some o)(hp:s.heap.objs.size<=p)
  (e:h'.get? p=some { cls :=.type "list",data :=.seq its.toArray n }) (r:Vals ys its) (hz:ys.length<=xG):Inv X pins σ (upd H p (.lst ys)) { s with heap:=h' } :=
 I.laid (t':=s.toks) k hp ⟨hz,its,n,r,e⟩
theorem lF:cc X (.builtin "sorted") (λxs H Q=>∃(p:Addr) (ns:List Int),xs=[.ref p]/\(SqL X.K H p (ns.map V.int)\/SqT X.K H p (ns.map V.int))/\∀(l:Addr) (out:List Int),H l=none->out.Perm ns->out.Pairwise (· <= ·)->Q (.ref l) (upd H l (.lst (out.map V.int)))):=by
 intro pins s σ H xs us Q I r h
 obtain ⟨p,ns,rfl,hs,q⟩:=h
 obtain ⟨u,rfl,ru⟩:=vals1 r
 cases (show u=xV p from ru)
 obtain ⟨its,o,n,rv,e,c,d,z⟩:=I.jq hs
 have hI:=dY rv
 have lz:its.length<=xG:=by rw[<- rv.length];exact z
 refine Srt.nK (Srt.dW e c d lz) lz (Srt.lD hI) λh' l out m k hl el pm ps =>?_
 have hm:∀v∈out,∃i t,v=Ab i t:=λv hv=>Srt.eX hI v (pm.mem_iff.mp hv)
 have hO:=kH hm
 have pm':(out.map Srt.intOf).Perm ns:=by
  have:=pm.map Srt.intOf
  rw[Srt.ints_map hI] at this
  exact this
 refine ⟨.ref l,_,I.newList k hl el (lE hO) (by rw[xt,pm'.length_eq, <- xt (f:=V.int)];exact z),rfl,q l _ (I.hok.fresh hl) pm' ?_⟩
 refine yG.mpr (ps.imp λ{x y} le =>?_)
 have le':decide (Srt.intOf y<Srt.intOf x)=false:=le
 have:=of_decide_eq_false le'
 omega
end
open PySem PySem.Spec PyProof.Rows
section
variable  {X:Cx}{tg:Expr}
def iSeq (K:xx)(tl:TE):TI:=λσ H R=>tl σ H λx H1=>∃a,x = .ref a/\(((∃xs,SqL K H1 a xs)/\R (Itl K a) H1)\/((∃xs,SqT K H1 a xs)/\R (Itt K a) H1))
theorem vK {l:Expr}{tl:TE}(hl:PE X l tl):PI X tg l (iSeq X.K tl):=by
 intro pins s σ H R I h;refine thn (hl pins s σ H _ I h) λv s1 ⟨x,H1,I1,r1,q1⟩ =>?_
 obtain ⟨a,e,q1⟩:=q1
 subst e
 cases r1
 have fp:∀b∈[s1.heap.objs.size],gW X pins H1 b:=λb hb=>by
  have e:b=s1.heap.objs.size:=by simpa using hb
  rw[e];exact I1.qq (xC _) (I1.hok.fresh (xC _))
 rcases q1 with ⟨⟨xs,hq⟩,q⟩ | ⟨⟨xs,hq⟩,q⟩
 ·obtain ⟨its,rv,p,hz⟩:=I1.list hq;refine BD p.isList ?_
  exact ⟨s1.heap.objs.size,_,_,_,H1,rfl,I1.kept (t':=s1.toks) (λb o e=>xv _ e),kh a _,⟨_,xF _ rfl,rfl,rfl⟩,fp,q⟩
 ·obtain ⟨its,rv,p,hz⟩:=I1.tuple hq;refine Cf (show s1.heap.IsTuple a its.toArray from p) ?_
  exact ⟨s1.heap.objs.size,_,_,_,H1,rfl,I1.kept (t':=s1.toks) (λb o e=>xv _ e),i6 a _,⟨_,xF _ rfl,rfl,rfl⟩,fp,q⟩
end
theorem pM {K:xx}{a:Addr}{xs:List V}{k:Nat}{tc:TT}{te:TE}{τ:St}{H:Hp}{Q:VK}(Pv:Nat->List V->Hp->Prop)(hp:H a=some (.lst xs)\/H a=some (.tup xs))(h0:Pv 0 [] H)(hz:xs.length<=xG)
  (hl:∀i ys H',Pv i ys H'->H' a=H a) (hs:∀i x ys H,xs[i]? = some x->ys.length<=i->Pv i ys H->n8 k tc te τ Pv i x ys H)
  (hd:∀ys H,ys.length<=xs.length->Pv xs.length ys H->∀l,H l=none->Q (.ref l) (upd H l (.lst ys))) :
  ((∃xs,SqL K H a xs)/\jh (Itl K a) (eN k) tc te τ Q H)\/((∃xs,SqT K H a xs)/\jh (Itt K a) (eN k) tc te τ Q H):=by
 rcases hp with hp | hp
 ·exact .inl ⟨⟨_,SqL.of hp⟩,dR Pv h0 hz (λi ys H' _ z=>SqL.of ((hl i ys H' z).trans hp)) hs hd⟩
 ·exact .inr ⟨⟨_,SqT.of hp⟩,cw Pv h0 hz (λi ys H' _ z=>SqT.of ((hl i ys H' z).trans hp)) hs hd⟩
theorem az.at {H H':Hp}{a:Addr}{o:HO}(s:az H H')(h:H a=some o):H' a=H a:=by rw[s _ _ h,h]
theorem mz {X:Cx}{K:xx}{x y:Str}{i j k:Nat}{p p' pos:Pos}(hN:X.N.Nodup)(hi:X.N[i]? = some x)(hj:X.N[j]? = some y)(hx:Loc X.env.scope x)(hy:Loc X.env.scope y)(hc:X.calm=true:=by rfl)(h:X.K=K:=by rfl)
  (hf:X.fn x=true\/X.env.scope.names.lookup x=some .local:=by first | exact .inl rfl | exact .inr rfl) (hg:X.fn y=true\/X.env.scope.names.lookup y=some .local:=by first | exact .inl rfl | exact .inr rfl):PG X (.Tuple [.Name x p,.Name y p'] k pos) (uC K i j):=by
 subst h
 exact i0 hc (bM (aB hN hi hx hf) (bM (aB hN hj hy hg) gh))
open PySem PySem.Spec PyProof.Rows
section
variable  {X:Cx}
theorem pN {A:yy}{s:xy}{k:Int}{t:Tok}{its:List xw}{ns:List Int}(hi:zJ its ns):∀y,y∈its.toArray->AE A s y (.int k t) (isInt k y):=λy hy =>
 (eq_isInt k t hi y (by simpa using hy)).at _ _
theorem fI:∀{ns:List Int} {xs:List xw} {prog:xX} {w:yv},zJ xs ns->ItemsAre (intKind prog w) ns xs
 | _,_,_,_,.nil =>.nil
 | _,_,_,_,.cons n t r =>.cons (intKind_is _ _ _ _) (fI r)
theorem Inv.tkA {pins:List (Addr×Obj)}{σ:St}{H:Hp}{s:xy}(I:Inv X pins σ H s){b:Addr}{ns:List Int}(h:SqT X.K H b (ns.map V.int))(prog:xX)(w:yv):IsTupleKey (intKind prog w) s.heap ns b:=by
 obtain ⟨its,r,⟨o,e,c,n,d⟩,_⟩:=I.tuple h
 exact ⟨o,_,n,e,c,d,fI (by simpa using intsAre_of r)⟩
theorem Inv.eqT {pins:List (Addr×Obj)}{σ:St}{H:Hp}{s:xy}(I:Inv X pins σ H s){A:yy}(hu:A.units<cLine){a b:Addr}{ns ms:List Int}(h1:SqT X.K H a (ns.map V.int))(h2:SqT X.K H b (ms.map V.int)):AE A s (.ref a) (.ref b) (decide (ns=ms)) :=
 λprog w E Q q=>DF hu (I.tkA h1 prog w) (I.tkA h2 prog w) q
theorem eY:∀{its:List xw} {ns:List Int},zJ its ns->∃xs:List (Int×Tok),its=xs.map (λp=>Ab p.1 p.2)/\xs.map (·.1)=ns
 | _,_,.nil=>⟨[],rfl,rfl⟩
 | _,_,.cons n t r=>by
  obtain ⟨xs,e1,e2⟩:=eY r
  exact ⟨(n,t) :: xs,by rw[xR, <- e1],by rw[xR,e2]⟩
theorem eZ (hh:X.A.handled=none):cc X (.builtin "sum") (λxs H Q=>∃(p:Addr) (ns:List Int),xs=[.ref p]/\H p=some (.lst (ns.map V.int))/\Q (.int ns.sum) H):=by
 intro pins s σ H xs us Q I r h
 obtain ⟨p,ns,rfl,hp,q⟩:=h
 obtain ⟨u,rfl,ru⟩:=vals1 r
 cases (show u=xV p from ru)
 obtain ⟨z,its,n,r,e1⟩:=(show aT X.prog X.w H s.heap p (.lst _) from I.hok p _ hp)
 obtain ⟨zs,e2,e3⟩:=eY (intsAre_of r)
 have ei:its.toArray=D8 zs.toArray:=by rw[e2];simp[D8]
 refine sum_intListG hh (xs:=zs.toArray) ⟨_,e1,rfl,n,by rw[ei]⟩ λh' tk t' k =>?_
 rw[preSum_eq,xW (by simp),e3]
 exact ⟨.int _,H,I.kept k,⟨_,rfl⟩,q⟩
end
end L2
namespace HT
open PySem PySem.Spec PyProof.Rows
section
variable  {prog:xX}{w:yv}{A:yy}{E:xw->xy->Prop}{s:xy}
end
end HT
namespace L2
open PySem PySem.Spec PyProof.Rows
section
variable  {X:Cx}
theorem cY:cc X (.type "range") (λxs H Q=>∃n:Int,xs=[.int n]/\∀a,H a=none->Q (.ref a) (upd H a (.rng 0 n))):=by
 intro pins s σ H xs us Q I r h
 obtain ⟨n,rfl,q⟩:=h
 obtain ⟨u,rfl,⟨t,rfl⟩⟩:=vals1 r
 refine call_range_1 ?_
 exact ⟨.ref s.heap.objs.size,_,I.laid (o :=.rng 0 n) (λb ob q=>xv _ q) (xC _) ⟨_,_,_,xF _ rfl⟩,rfl,q _ (I.hok.fresh (xC _))⟩
end
section
variable  {prog:xX}{w:yv}{A:yy}{E:xw->xy->Prop}{s:xy}
theorem jY {R:List xw->xy->Prop}{r:Addr}{n:Nat}{t u v:Tok}(hh:A.handled=none)(hr:IsRange s.heap r 0 n 1 t u v)(hn:n<=2 ^ 24)
    (h:∀(h1:Heap) (tk:Nat) (vs:List xw),vs.length=n->(∀(i:Nat) (x:xw),vs[i]? = some x->∃t,x = .int i t)->(∀b o,s.heap.get? b=some o->h1.get? b=some o)->R vs { s with heap:=h1,toks:=tk }) :
    x8 (x9 prog w) A (collect (.ref r)) R E s:=by
  have hlt:r<s.heap.objs.size:=xE (show s.heap.get? r=some _ from hr)
  unfold collect
  refine xu (Cq (yI AV ?_))
  rw[yB AW _]
  show x8 _ A.in1 (newList [] >>= λl=>again (.builtin "list.__iadd__" ⟨[l,.ref r],[]⟩)) _ _ s
  refine xu (Ad ?_)
  refine xJ ⟨zH zF _,yI Bn ?_⟩
  rw[yB zF _]
  show x8 _ A.in1 (yZ (.ref s.heap.objs.size) (.ref r) (.ref s.heap.objs.size)) _ _ { s with heap:=s.heap.push { cls :=.type "list",data :=.seq ([]:List xw).toArray } }
  have hr1:IsRange (s.heap.push { cls :=.type "list",data :=.seq ([]:List xw).toArray }) r 0 n 1 t u v:=xv _ hr
  have rs:Builtin.Range.rangeSize 0 (n:Int) 1=(n:Int):=by
    rw[rangeSize_one]
    split <;> omega
  have hlen24:n<=16777216:=hn
  have hS0:(s.heap.push { cls :=.type "list",data :=.seq ([]:List xw).toArray }).get? s.heap.objs.size=some { cls :=.type "list",data :=.seq #[] 0 }:=xF _ rfl
  refine wpAny_extend_range (A:=A) (R:=λres s'=>match res with
      | .ok (.ret v)=>x8 (x9 prog w) A (match v with | .ref a=>(do match (← load a).data with | .seq xs _=>pure xs.toList | _=>unsupported "internal:collect") | _=>unsupported "internal:collect") R E s'
      | .ok _=>False
      | .error e=>E e s') (s:={ s with heap:=s.heap.push { cls :=.type "list",data :=.seq ([]:List xw).toArray } }) hh hr1 (small_one (by omega) (by omega) (by omega) (by omega)) rs hn s.heap.objs.size (.ref s.heap.objs.size) 0 hS0 λh' tk acc' c' kk hS' hacc =>?_
  show x8 _ A (load s.heap.objs.size >>= _) _ _ { s with heap:=h',toks:=tk }
  refine xu (C8 hS' ?_)
  refine xJ (h h' tk acc'.toList (by rw[xK];exact hacc.1) (λi x hx =>?_) λb o e=>kk b o (x5 (xE e)) (xv _ e))
  rw[xU] at hx
  obtain ⟨t',e⟩:=hacc.2 i x hx
  exact ⟨t',by rw[e];simp⟩
theorem eG (r:Addr)(n:Nat)(t u v:Tok)(hn:n<=1000) :
  Meets (Builtin.«tuple.__new__» ⟨[.type "tuple",.ref r],[]⟩)
   (λA R s=>A.handled=none/\IsRange s.heap r 0 n 1 t u v/\∀(h':Heap) (tk:Nat) (vs:List xw),vs.length=n->(∀(i:Nat) (x:xw),vs[i]? = some x->∃t,x = .int i t)->(∀b o',s.heap.get? b=some o'->h'.get? b=some o')->R (.ok (.ret (.ref h'.objs.size))) { s with heap:=h'.push { cls :=.type "tuple",data :=.seq vs.toArray },toks:=tk }) :=
 .of_wp λprog w A R s h=>by
  obtain ⟨hp,g,d,tk,os⟩:=s;obtain ⟨hh,ht,h⟩:=h
  have hsub:=sub_tuple_self
  have hinit:=init_tuple_lookup
  have hmh:=madeHere_tuple
  have hT:Shared.TypeIs ⟨hp,g,d,tk,os⟩ (.ref r) "range" :=⟨_,ht,rfl⟩
  wp_walk using BH hT,jY (by simpa using hh) ht (by omega)
  intro h' tk' vs lv hv hk
  show x8 _ _ (Builtin.Tuple.tupleExact vs.toArray >>= λv=>ret v) _ _ _
  unfold Builtin.Tuple.tupleExact
  refine xu (Ad ?_ (by show vs.toArray.size<=xG;rw[xA,lv];exact small hn))
  exact xJ ⟨_,rfl,h h' tk' vs lv hv hk⟩
end
section
variable  {X:Cx}
theorem nM:∀{vs:List xw},(∀(i:Nat) (x:xw),vs[i]? = some x->∃t,x=Ab i t)->Vals ((yP vs.length).map λi=>V.int (i:Nat)) vs:=by
 suffices h:∀(vs:List xw) (k:Nat),(∀(i:Nat) (x:xw),vs[i]? = some x->∃t,x=Ab ((i+k:Nat):Int) t)->Vals ((List.range' k vs.length).map λi=>V.int (i:Nat)) vs by
  intro vs hv
  have:=h vs 0 hv
  rw[List.range_eq_range']
  exact this
 intro vs
 induction vs with
 | nil=>intro k _;exact .nil
 | cons x vs ih =>
  intro k hv
  rw[yo,List.range'_succ,xR]
  refine .cons ?_ (ih (k+1) λi y hy =>?_)
  ·obtain ⟨t,e⟩:=hv 0 x rfl
   exact ⟨t,by rw[e,Bg]⟩
  ·obtain ⟨t,e⟩:=hv (i+1) y (by rw[List.getElem?_cons_succ];exact hy)
   exact ⟨t,by rw[e,show i+1+k=i+(k+1) by omega]⟩
theorem cZ (hh:X.A.handled=none):cc X (.type "tuple") (λxs H Q=>∃(a:Addr) (n:Nat),xs=[.ref a]/\H a=some (.rng 0 n)/\n<=1000/\∀l,H l=none->Q (.ref l) (upd H l (.tup ((yP n).map λi=>V.int (i:Nat))))):=by
 intro pins s σ H xs us Q I r h
 obtain ⟨a,n,rfl,ha,hn,q⟩:=h
 obtain ⟨u,rfl,ru⟩:=vals1 r
 cases (show u=xV a from ru)
 obtain ⟨t,u,v,e⟩:=(show aT X.prog X.w H s.heap a (.rng 0 n) from I.hok a _ ha)
 refine callType_new PySem.F.called_tuple (by decide) (PySem.F.typeCall_tuple_1 _) (PySem.F.newCall_tuple_1 _) (λobj=>PySem.F.args_object_init_2 obj _) PySem.F.entry_tuple_new
  (eG a n t u v hn) ⟨by simpa using hh,e,λh' tk vs lv hv k=>⟨⟨_,xF _ rfl,rfl⟩,?_⟩⟩
 have I1:Inv X pins σ H { s with heap:=h',toks:=tk }:=I.kept k
 have rv:=nM hv
 rw[lv] at rv
 exact ⟨.ref h'.objs.size,_,I1.laid (o :=.tup ((yP n).map λi=>V.int (i:Nat))) (λb ob q=>xv _ q) (xC _) ⟨by rw[xt,List.length_range];exact small hn,vs,rv,dI.new _ _⟩,rfl,q _ (I1.hok.fresh (xC _))⟩
end
open PySem PySem.Spec PyProof.Rows
section
variable  {κ:Type}[DecidableEq κ]
def fc (kvs:List (κ×V))(k:κ):Option V:=(kvs.find? λkv=>decide (kv.1=k)).map (·.2)
def putK (kvs:List (κ×V))(k:κ)(v:V):List (κ×V) :=
 if (kvs.any λkv=>decide (kv.1=k))=true then kvs.map (λkv=>if kv.1=k then (kv.1,v) else kv) else kvs++[(k,v)]
theorem fe {p:κ×V}{r:List (κ×V)}{k:κ}(e:p.1=k):fc (p :: r) k=some p.2:=by simp[fc,AX,e]
theorem fg {p:κ×V}{r:List (κ×V)}{k:κ}(e:¬ p.1=k):fc (p :: r) k=fc r k:=by simp[fc,AX,e]
theorem gx (k:κ):∀kvs:List (κ×V),(kvs.any λkv=>decide (kv.1=k))=(fc kvs k).isSome
 | []=>rfl
 | p :: r=>by
  rw[Bl]
  by_cases e:p.1=k
  ·simp only[fe e,decide_eq_true e,Bool.true_or,Option.isSome_some]
  ·rw[fg e,decide_eq_false e,EG];exact gx k r
theorem iA (kvs:List (κ×V))(k:κ)(v:V):(putK kvs k v).length<=kvs.length+1:=by
 unfold putK
 split
 ·rw[xt];omega
 ·rw[xM,yo,Az];omega
theorem mB {kvs:List (κ×V)}{k:κ}(v:V)(h:fc kvs k=none):putK kvs k v=kvs++[(k,v)]:=by
 unfold putK
 rw[gx,h]
 exact if_neg (by decide)
theorem iU.pO {o:Option V}{u:Option xw}(r:iU o u):o.isSome=u.isSome:=by
 cases o with
 | none=>cases u with
  | none=>rfl
  | some _=>exact (show False from r).elim
 | some _=>cases u with
  | none=>exact (show False from r).elim
  | some _=>rfl
theorem KV.val {kvs:List (κ×V)}{vs:List (κ×xw)}(r:KV kvs vs)(k:κ):iU (fc kvs k) (valueAt vs k):=by
 unfold KV at r
 induction r with
 | nil=>exact True.intro
 | @cons p q ps qs h t ih =>
  obtain ⟨h1,h2⟩:=h
  by_cases e:p.1=k
  ·have e':q.1=k:=h1.symm.trans e
   have b:valueAt (q :: qs) k=some q.2:=by simp[valueAt,AX,e']
   rw[fe e,b];exact h2
  ·have e':¬ q.1=k:=λz=>e (h1.trans z)
   have b:valueAt (q :: qs) k=valueAt qs k:=by simp[valueAt,AX,e']
   rw[fg e,b];exact ih
theorem KV.any {kvs:List (κ×V)}{vs:List (κ×xw)}(r:KV kvs vs)(k:κ):(kvs.any λkv=>decide (kv.1=k))=vs.any λkv=>decide (kv.1=k):=by
 unfold KV at r
 induction r with
 | nil=>rfl
 | cons h t ih=>rw[Bl,Bl,ih,h.1]
theorem KV.vL {kvs:List (κ×V)}{vs:List (κ×xw)}(r:KV kvs vs)(k:κ){y:V}{u:xw}(ry:RelV y u) :
  KV (kvs.map λkv=>if kv.1=k then (kv.1,y) else kv) (vs.map λkv=>if kv.1=k then (kv.1,u) else kv):=by
 unfold KV at r ⊢
 induction r with
 | nil=>exact .nil
 | @cons p q ps qs h t ih =>
  rw[xR,xR]
  refine .cons ?_ ih
  obtain ⟨h1,h2⟩:=h
  by_cases e:p.1=k
  ·rw[if_pos e,if_pos (h1.symm.trans e)];exact ⟨h1,ry⟩
  ·rw[if_neg e,if_neg (λz=>e (h1.trans z))];exact ⟨h1,h2⟩
theorem KV.put {kvs:List (κ×V)}{vs:List (κ×xw)}(r:KV kvs vs)(k:κ){y:V}{u:xw}(ry:RelV y u):KV (putK kvs k y) (stored vs k u):=by
 unfold putK stored
 rw[r.any k]
 by_cases e:(vs.any λkv=>decide (kv.1=k))=true
 ·rw[if_pos e,if_pos e];exact r.vL k ry
 ·rw[if_neg e,if_neg e];exact EM r ⟨rfl,ry⟩
theorem KV.length {kvs:List (κ×V)}{vs:List (κ×xw)}(r:KV kvs vs):kvs.length=vs.length:=AF r
end
theorem qU {P:xX}{w:yv}{k:Key}{u:xw}(r:RelV (kV k) u):(bD P w).is k u=true:=by
 cases k with
 | inl i=>obtain ⟨t,e⟩:=(show ∃t,u=Ab i t from r);subst e;exact ma P w i t
 | inr x=>obtain ⟨t,e⟩:=(show ∃t,u=Value.str x t from r);subst e;exact me P w x t
theorem kI {P:xX}{w:yv}:∀{ks:List Key} {us:List xw},Vals (ks.map kV) us->ItemsAre (bD P w) ks us
 | [],_,r=>by rw[DS] at r;cases r;exact .nil
 | k :: ks,_,r=>by
  rw[xR] at r
  cases r with
  | cons h t=>exact .cons (qU h) (kI t)
abbrev KT (H:Hp):List (List Key×V)->List (List Key×Addr×xw)->Prop:=Paired λp q=>p.1=q.1/\H q.2.1=some (.tup (p.1.map kV))/\RelV p.2 q.2.2
theorem KT.val {H:Hp}{kvs:List (List Key×V)}{xs:List (List Key×Addr×xw)}(r:KT H kvs xs)(k:List Key):iU (fc kvs k) ((atKey xs k).map (·.2)):=by
 induction r with
 | nil=>exact True.intro
 | @cons p q ps qs h t ih =>
  obtain ⟨h1,_,h2⟩:=h
  by_cases e:p.1=k
  ·have e':q.1=k:=h1.symm.trans e
   have b:atKey (q :: qs) k=some q.2:=by simp[atKey,AX,e']
   rw[fe e,b];exact h2
  ·have e':¬ q.1=k:=λz=>e (h1.trans z)
   have b:atKey (q :: qs) k=atKey qs k:=by simp[atKey,AX,e']
   rw[fg e,b];exact ih
theorem KT.vL {H:Hp}{kvs:List (List Key×V)}{xs:List (List Key×Addr×xw)}(r:KT H kvs xs)(k:List Key){y:V}{u:xw}(ry:RelV y u) :
  KT H (kvs.map λkv=>if kv.1=k then (kv.1,y) else kv) (xs.map (putAt k u)):=by
 induction r with
 | nil=>exact .nil
 | @cons p q ps qs h t ih =>
  rw[xR,xR]
  refine .cons ?_ ih
  obtain ⟨h1,h2,h3⟩:=h
  unfold putAt
  by_cases e:p.1=k
  ·rw[if_pos e,if_pos (h1.symm.trans e)];exact ⟨h1,h2,ry⟩
  ·rw[if_neg e,if_neg (λz=>e (h1.trans z))];exact ⟨h1,h2,h3⟩
theorem KT.put {H:Hp}{kvs:List (List Key×V)}{xs:List (List Key×Addr×xw)}(r:KT H kvs xs)(k:List Key){b:Addr}{y:V}{u:xw}(hb:H b=some (.tup (k.map kV)))(ry:RelV y u) :
  KT H (putK kvs k y) (storedH xs k b u):=by
 have e:(kvs.any λkv=>decide (kv.1=k))=(atKey xs k).isSome:=by
  rw[gx,(r.val k).pO,Option.isSome_map]
 unfold putK storedH
 rw[e]
 by_cases q:(atKey xs k).isSome=true
 ·rw[if_pos q,if_pos q];exact r.vL k ry
 ·rw[if_neg q,if_neg q];exact EM r ⟨rfl,hb,ry⟩
theorem KT.keeps {H H':Hp}{kvs:List (List Key×V)}{xs:List (List Key×Addr×xw)}(r:KT H kvs xs)(ht:∀b ys,H b=some (.tup ys)->H' b=some (.tup ys)):KT H' kvs xs :=
 Paired.u0 r λ_ _ z=>⟨z.1,ht _ _ z.2.1,z.2.2⟩
section
variable  {P:xX}{w:yv}{H:Hp}{h:Heap}{a:Addr}
theorem uF {u:HO}(ok:HOk P w H h)(e:Rd H a u):aT P w H h a u:=e.ok ok
theorem qV {kvs:List (Key×V)}(ok:HOk P w H h)(e:Rd H a (.dK kvs)):kvs.length<=xG/\(a == sysModules)=false/\∃vs,KV kvs vs/\h.DictOf (bD P w) a vs :=
 show aT P w H h a (.dK kvs) from uF ok e
theorem wW {kvs:List (Key×V)}(ok:HOk P w H h)(e:H a=some (.dK kvs)):kvs.length<=xG/\(a == sysModules)=false/\∃vs,KV kvs vs/\h.DictOf (bD P w) a vs:=qV ok (.inl e)
theorem nN {ks:List Key}(ok:HOk P w H h)(e:H a=some (.tup (ks.map kV))):(tupleKind (bD P w)).is h ks a:=by
 obtain ⟨_,its,r,o,h1,h2,n,h3⟩:=(show aT P w H h a (.tup (ks.map kV)) from ok a _ e)
 exact ⟨o,its.toArray,n,h1,h2.1,h3,by simpa using kI r⟩
theorem qW {kvs:List (List Key×V)}(ok:HOk P w H h)(e:Rd H a (.dT kvs)):kvs.length<=xG/\(a == sysModules)=false ∧
  ∃xs,KT H kvs xs/\h.DictOfH (tupleKind (bD P w)) a xs:=by
 obtain ⟨z,y,xs,r,o,es,ep,h1,h2,h3,h4,h5⟩:=(show aT P w H h a (.dT kvs) from uF ok e)
 refine ⟨z,y,xs,r,o,es,ep,h1,h2,h3,h4,λx hx =>?_,h5⟩
 have all:∀{l:List (List Key×V)} {m:List (List Key×Addr×xw)},KT H l m->∀x∈m,(tupleKind (bD P w)).is h x.1 x.2.1:=by
  intro l m q
  induction q with
  | nil=>intro x hx;exact nomatch hx
  | @cons p q ps qs hq t ih =>
   intro x hx
   rcases yj.mp hx with e | hx
   ·subst e
    exact nN ok (by rw[<- hq.1];exact hq.2.1)
   ·exact ih x hx
 exact all r x hx
theorem ou {kvs:List (List Key×V)}(ok:HOk P w H h)(e:H a=some (.dT kvs)):kvs.length<=xG/\(a == sysModules)=false ∧
  ∃xs,KT H kvs xs/\h.DictOfH (tupleKind (bD P w)) a xs:=qW ok (.inl e)
end
def fR (H:Hp)(a:Addr)(y:V)(r:Option V):Prop :=
 (∃kvs k,Rd H a (.dK kvs)/\y=kV k/\r=fc kvs k)\/∃kvs k b,Rd H a (.dT kvs)/\y = .ref b/\H b=some (.tup (k.map kV))/\r=fc kvs k
def gZ (H:Hp)(a:Addr)(y v:V)(H':Hp):Prop :=
 (∃kvs k,H a=some (.dK kvs)/\y=kV k/\kvs.length<xG/\H'=upd H a (.dK (putK kvs k v))) ∨
 ∃kvs k b,H a=some (.dT kvs)/\y = .ref b/\H b=some (.tup (k.map kV))/\kvs.length<xG/\H'=upd H a (.dT (putK kvs k v))
theorem fR.t {H:Hp}{a b:Addr}{kvs:List (List Key×V)}{k:List Key}(e:H a=some (.dT kvs))(eb:H b=some (.tup (k.map kV))):fR H a (.ref b) (fc kvs k) :=.inr ⟨kvs,k,b,.inl e,rfl,eb,rfl⟩
theorem gZ.t {H:Hp}{a b:Addr}{kvs:List (List Key×V)}{k:List Key}{v:V}(e:H a=some (.dT kvs))(eb:H b=some (.tup (k.map kV)))(hl:kvs.length<xG) :
  gZ H a (.ref b) v (upd H a (.dT (putK kvs k v))) :=.inr ⟨kvs,k,b,e,rfl,eb,hl,rfl⟩
section
variable  {X:Cx}{pins:List (Addr×Obj)}{σ:St}{H:Hp}{s:xy}{a:Addr}{y v:V}{u r:xw}{o:Option V}{A:yy}{E:xw->xy->Prop}
theorem Inv.big (I:Inv X pins σ H s):sysModules<s.heap.objs.size:=by
 have h:yh<s.heap.objs.size:=(I.mod.glob.keeps I.bk).lt
 exact Nat.lt_trans (by decide) h
theorem pP {Q:xw->xy->Prop}(hu:A.units+1<cLine)(I:Inv X pins σ H s)(g:fR H a y (some v))(ry:RelV y u)(h:∀w' s',Inv X pins σ H s'->RelV v w'->Q w' s') :
  x8 (x9 X.prog X.w) A (getItem (.ref a) u) Q E s:=by
 rcases g with ⟨kvs,k,e,ey,l⟩ | ⟨kvs,k,b,e,ey,eb,l⟩
 ·subst ey
  obtain ⟨z,hd,vs,rel,dd⟩:=qV I.hok e
  obtain ⟨w',hw,rw'⟩:=iU.some_of (v:=v) (o:=valueAt vs k) (by rw[l];exact rel.val k)
  exact wpAny_getItem_of (qU ry) dd.mapOf hw (h w' _ (I.tok _) rw')
 ·subst ey
  cases (show u=xV b from ry)
  obtain ⟨z,hd,xs,rel,dd⟩:=qW I.hok e
  obtain ⟨w',hw,rw'⟩:=iU.some_of (v:=v) (o:=(atKey xs k).map (·.2)) (by rw[l];exact rel.val k)
  obtain ⟨p,hp,hp2⟩:=Option.map_eq_some_iff.mp hw
  refine wpAny_getItem_heap (DG hu) (nN I.hok eb) dd hp ?_
  rw[hp2]
  exact h w' _ (I.tok _) rw'
theorem ow {h':Heap}{t':Nat}{ob:HO}(I:Inv X pins σ H s)(mu:Mut (H a))(hs:Heap.SameBut a s.heap h')(he:∃q,h'.get? a=some q)(new:aT X.prog X.w (upd H a ob) h' a ob) :
  Inv X pins σ (upd H a ob) { s with heap:=h',toks:=t' } :=
 I.write (x:=a) (e:=a) mu (.inl rfl) (λb q hb z=>(hs.2 b hb).trans z) he new
theorem vM {P:xX}{w:yv}{H':Hp}{h':Heap}{kvs:List (Key×V)}{vs:List (Key×xw)}(z:kvs.length<=xG)(hd:(a == sysModules)=false)(rel:KV kvs vs)(dd:h'.DictOf (bD P w) a vs) :
  aT P w H' h' a (.dK kvs):=⟨z,hd,vs,rel,dd⟩
theorem kJ {H':Hp}{Q:Unit->xy->Prop}(hu:A.units+1<cLine)(I:Inv X pins σ H s)(g:gZ H a y v H')(ry:RelV y u)(rv:RelV v r)(h:∀s',Inv X pins σ H' s'->Q () s') :
  x8 (x9 X.prog X.w) A (setItem (.ref a) u r) Q E s:=by
 rcases g with ⟨kvs,k,e,ey,l,eH⟩ | ⟨kvs,k,b,e,ey,eb,l,eH⟩
 ·subst ey eH
  obtain ⟨z,hd,vs,rel,dd⟩:=wW I.hok e
  have hz:vs.length<=xG:=by rw[<- rel.length];exact z
  have hl:(putK kvs k v).length<=xG:=by have:=iA kvs k v;omega
  refine wpAny_setItem_pairs (hsz:=hz) (qU ry) dd λh' dd' hs=>h _ ?_
  have he:∃q,h'.get? a=some q:=let ⟨q,_,_,hq,_⟩:=dd';⟨q,hq⟩
  exact ow I (by rw[e];exact True.intro) hs he (vM hl hd (rel.put k rv) dd')
 ·subst ey eH
  cases (show u=xV b from ry)
  obtain ⟨z,hd,xs,rel,dd⟩:=ou I.hok e
  have hz:xs.length<=xG:=by rw[<- AF rel];exact z
  have hl:(putK kvs k v).length<=xG:=by have:=iA kvs k v;omega
  refine wpAny_setItem_heap (hsz:=hz) (DG hu) (nN I.hok eb) dd λh' dd' hs=>h _ ?_
  obtain ⟨q,es,ep,hq,h2,h3,h4,_,h5⟩:=dd'
  refine ow I (by rw[e];exact True.intro) hs ⟨q,hq⟩ ⟨hl,hd,_,(rel.put k eb rv).keeps λc ys ec =>?_,q,es,ep,hq,h2,h3,h4,h5⟩
  rw[ak (dA ec e (λz=>nomatch z))]
  exact ec
end
section
variable  {X:Cx}{pins:List (Addr×Obj)}{σ:St}{H:Hp}{s:xy}{a:Addr}{kvs:List (Key×V)}{k:Key}{u:xw}{A:yy}{E:xw->xy->Prop}
end
def wX (i:Expr):Prop:=∀ov iv,subscripted i false ov iv=operate [ov,iv] (getItem ov iv)
theorem tT {prog:xX}{w:yv}{A:yy}{E:xw->xy->Prop}{s:xy}{env:Env}{value slice:Expr}{pos:Pos}{T id:String}{Q:xw->xy->Prop}
  (hl:typeLookup (.type T) "__getitem__" = pure (some (.builtin id))) (hs:wX slice)
  (h:x8 (x9 prog w) A (eval value env) (λo s₁=>x8 (x9 prog w) A (eval slice env) (λi s₂=>s₂.TypeIs o T/\x8 (x9 prog w) A (getItem o i) Q E s₂) E s₁) E s) :
  x8 (x9 prog w) A (eval (.Subscript value slice pos) env) Q E s:=by
 refine Subscript_ (zk h (λo s₁ h₁=>zk h₁ (λi s₂ h₂ =>?_) λ_ _ x=>x) λ_ _ x=>x)
 obtain ⟨hT,h₂⟩:=h₂
 unfold subscriptTail
 refine xu ?_
 rw[getitemInPython_of_ne hT.not_modules]
 refine xu (wpAny_specialOf hT hl ?_)
 have fin:x8 (x9 prog w) A (subscripted slice false o i) (λr s₃=>x8 (x9 prog w) A (letTemporaryGo value o r >>= λ_=>pure r) Q E s₃) E s₂:=by
  rw[hs o i]
  exact wpAny_operating (zk h₂ (λr s₃ h₃=>xu (wpAny_letTemporaryGo (xJ h₃))) λ_ _ x=>x)
 first
  | exact xJ (xu fin)
  | exact xu (xJ (xu fin))
  | exact xu fin
theorem mC {X:Cx}{pins:List (Addr×Obj)}{σ:St}{H:Hp}{s:xy}{a:Addr}{y:V}{o:Option V}(I:Inv X pins σ H s)(g:fR H a y o):s.TypeIs (.ref a) "dict" := by
 rcases g with ⟨kvs,k,e,_,_⟩ | ⟨kvs,k,b,e,_,_,_⟩
 ·obtain ⟨_,_,vs,_,dd⟩:=qV I.hok e
  exact dd.typeIs
 ·obtain ⟨_,_,xs,_,dd⟩:=qW I.hok e
  exact dd.typeIs
def wY (td ty:TE):TE:=λσ H Q=>td σ H λx H1=>ty σ H1 λy H2=>∃a v,x = .ref a/\fR H2 a y (some v)/\Q v H2
def wZ (td ty tv:TE):TS:=λD σ H=>tv σ H λv H1=>td σ H1 λx H2=>ty σ H2 λy H3=>∃a H4,x = .ref a/\gZ H3 a y v H4/\D.nx σ H4
section
variable  {X:Cx}{o i e value:Expr}{pos pos' tpos:Pos}{td ty tv:TE}
theorem cg (hu:X.A.units+1<cLine)(ho:PE X o td)(hi:PE X i ty)(hs:wX i):PE X (.Subscript o i pos) (wY td ty):=by
 intro pins s σ H Q I h
 refine tT PySem.F.slot_dict_getitem.lookup hs (thn (ho pins s σ H _ I h) λu s1 ⟨x,H1,I1,rx,q1⟩=>thn (hi pins s1 σ H1 _ I1 q1) λiv s2 ⟨y,H2,I2,ry,a,v,ex,g,q2⟩ =>?_)
 subst ex
 obtain rfl:u=xV a:=rx
 exact ⟨mC I2 g,pP hu I2 g ry λw' s3 I3 rw'=>⟨v,H2,I3,rw',q2⟩⟩
theorem fJ (hu:X.A.units+1<cLine)(ho:PE X o td)(hi:PE X i ty)(hv:PE X value tv)(hs:swapsWith value (some (.Subscript o i pos')) pos.line X.env=pure false) :
  PS X (.Assign [.Subscript o i pos'] value pos) (wZ td ty tv):=by
 intro pins s σ H D I h
 refine wpAny_Assign_Subscript (thn (hv pins s σ H _ I h) λr s1 ⟨v,H1,I1,rv,q1⟩=>thn (ho pins s1 σ H1 _ I1 q1) λu s2 ⟨x,H2,I2,rx,q2⟩=>thn (hi pins s2 σ H2 _ I2 q2) λiv s3 ⟨y,H3,I3,ry,a,H4,ex,g,q3⟩ =>?_) hs
 subst ex
 obtain rfl:u=xV a:=rx
 exact kJ hu I3 g ry rv λs4 I4=>⟨σ,H4,I4,q3⟩
end
theorem qX {P:xX}{w:yv}{H:Hp}(h:Heap)(hb:sysModules<h.objs.size):aT P w H (h.push { cls :=.type "dict",data :=.dict #[] }) h.objs.size (.dT []) :=
 ⟨yE _,beq_eq_false_iff_ne.mpr (zj (x5 hb)),[],.nil,_, #[],0,xF _ rfl,⟨rfl,rfl,rfl⟩,rfl,rfl,BE⟩
def vN:TE:=λ_ H Q=>∀p,H p=none->Q (.ref p) (upd H p (.dT []))
section
variable  {X:Cx}{pos:Pos}
theorem gy:PE X (.Dict [] [] pos) vN:=λpins s σ H Q I h =>
 wpAny_Dict_empty ⟨.ref s.heap.objs.size,_,I.laid (a:=s.heap.objs.size) (o :=.dT []) (t':=s.toks) (λ_ _ q=>xv _ q) (xC _) (qX s.heap I.big),rfl,h _ (I.hok.fresh (xC _))⟩
end
section
variable  {X:Cx}{pins:List (Addr×Obj)}{σ:St}{H:Hp}{s:xy}{a:Addr}{y d:V}{u r:xw}{o:Option V}{A:yy}{E:xw->xy->Prop}
end
section
variable  {X:Cx}{o e f:Expr}{apos cpos:Pos}{td ty tx:TE}
end
section
variable  {X:Cx}{pins:List (Addr×Obj)}{σ:St}{H:Hp}{s:xy}{a:Addr}{kvs:List (Key×V)}{A:yy}{E:xw->xy->Prop}
end
section
variable  {X:Cx}{pins:List (Addr×Obj)}{σ:St}{H:Hp}{s:xy}{a:Addr}{y:V}{u:xw}{A:yy}{E:xw->xy->Prop}
end
open PySem PySem.Spec PyProof.Rows
section
variable  {X:Cx}
end
section
variable  {κ:Type}[DecidableEq κ]
theorem qY {kvs:List (κ×V)}{k:κ}(h:fc kvs k=none):¬ k∈kvs.map (·.1):=by
 intro m
 obtain ⟨p,hp,e⟩:=yS.mp m
 have q:(kvs.any λkv=>decide (kv.1=k))=true:=List.any_eq_true.mpr ⟨p,hp,decide_eq_true e⟩
 rw[gx,h] at q
 exact absurd q (by simp)
end
open PySem PyProof.Rows
section
variable  {X:Cx}
def vO (ns ms:List Int)(j:Nat):Bool:=ns.getD j 0 == ms.getD j 0
theorem qZ {ns ms:List Int}(h:ns.length=ms.length):((yP ns.length).all λj=>vO ns ms j)=decide (ns=ms):=by
 rw[zC,decide_eq_true_iff,AJ]
 constructor
 ·intro hh
  refine BL h λj h1 h2 =>?_
  have:=hh j (AL.mpr h1)
  unfold vO at this
  rw[yc,yc,xP h1,xP h2] at this
  exact of_decide_eq_true (by simpa using this)
 ·rintro rfl j _
  exact beq_self_eq_true _
theorem intAt {ns:List Int}{us:List xw}(r:Vals (ns.map V.int) us){j:Nat}(h:j<us.toArray.size):∃t,us.toArray[j] = .int (ns.getD j 0) t:=by
 have l:=r.length
 rw[xt] at l
 rw[xA] at h
 have e1:(ns.map V.int)[j]? = some (.int (ns.getD j 0)):=by
  rw[xI,yc,xP (by omega)]
  rfl
 obtain ⟨u,g1,q1⟩:=r.get e1
 have f1:us.toArray[j]=u:=by simp[xB] at g1;obtain ⟨_,g⟩:=g1;simpa using g
 rw[f1]
 exact q1
theorem ox {k:Nat}(hr:bY k X.A):OpR X (Aa .NotEq) (λx y H Q=>∃(a b:Addr) (ns ms:List Int),x = .ref a/\y = .ref b/\SqL X.K H a (ns.map V.int)/\SqL X.K H b (ms.map V.int)/\Q (.bl (!decide (ns=ms))) H):=by
 intro pins s σ H x y v u Q I rx ry h
 obtain ⟨a,b,ns,ms,rfl,rfl,h1,h2,q⟩:=h
 cases (show v=xV a from rx)
 cases (show u=xV b from ry)
 obtain ⟨its,r1,⟨⟨c1,d1,da1,sl1⟩,n1,e1,k1,_,k3⟩,_⟩:=I.list h1
 obtain ⟨its2,r2,⟨⟨c2,d2,da2,sl2⟩,n2,e2,g1,_,g3⟩,_⟩:=I.list h2
 simp only at k1 k3 g1 g3
 subst k1 k3 g1 g3
 have l1:=r1.length
 have l2:=r2.length
 rw[xt] at l1 l2
 have hu:=hr.un
 have hu1:X.A.units<cLine:=by omega
 by_cases hl:ns.length=ms.length
 ·refine Al (op :=.NotEq) ⟨_,e1,rfl⟩ ⟨_,e2,rfl⟩ F.slot_list_ne Ed (D2 _ _) (SeqAt.list_neAt a b its.toArray its2.toArray n1 n2 d1 d2 sl1 sl2 (by rw[xA,xA];omega) (vO ns ms)) ⟨e1,e2,?_,?_⟩ hu1
  ·intro j h1 h2
   obtain ⟨t1,g1⟩:=intAt r1 h1
   obtain ⟨t2,g2⟩:=intAt r2 h2
   rw[g1,g2]
   exact Ap _ t1 _ t2
  ·have ez:its.toArray.size=ns.length:=by rw[xA];omega
   rw[ez,qZ hl]
   exact ⟨(λz=>nomatch z),⟨.bl _,H,I,rfl,q⟩⟩
 ·have ne:ns≠ms:=λz=>hl (by rw[z])
  rw[decide_eq_false ne] at q
  refine Al (op :=.NotEq) ⟨_,e1,rfl⟩ ⟨_,e2,rfl⟩ F.slot_list_ne Ed (D2 _ _) (SeqAt.list_ne_lengthsAt a b its.toArray its2.toArray n1 n2 d1 d2 sl1 sl2 (by simp;omega)) ⟨e1,e2,?_⟩ hu1
  exact ⟨(λz=>nomatch z),⟨.bl true,H,I,rfl,q⟩⟩
end
end L2
namespace HT
open PySem PySem.Spec PyProof.Rows
section
variable  {prog:xX}{w:yv}{A:yy}{R:Result->xy->Prop}{I:Addr}{fp wr:List Addr}{n:Nat}{P:Nat->xw->Prop}{St:Nat->Heap->Prop}{kw:List (Str×xw)}
end
section
variable  {prog:xX}{w:yv}{A:yy}{E:xw->xy->Prop}{s:xy}{l:Addr}{xs:Array (Int×Tok)}
end
end HT
namespace L2
open PySem PyProof.Rows
section
variable  {X:Cx}{x:Str}{id:String}{e:Expr}{es:List Expr}{kws:List Keyword}{p pos:Pos}{t tk:TA}{ks:List Str}{r:List V->List V->Hp->VK->Prop}
end
open PySem PyProof.Rows
section
variable  {X:Cx}
theorem vP {ns:List Int}{j:Nat}(h:j<ns.length):ns.getD j 0∈ns:=by
 rw[yc,xP h]
 exact D3 h
theorem vQ {ns:List Int}{a:Int}(h:a∈ns):∃j,j<ns.length/\ns.getD j 0=a:=by
 obtain ⟨j,hj,e⟩:=Dl h
 exact ⟨j,hj,by rw[yc,xP hj];exact e⟩
end
open PySem PyProof.Rows
section
variable  {X:Cx}
def oy (ns ms:List Int)(j:Nat):Bool:=ns.getD j 0 == ms.getD j 0
theorem pQ {ns ms:List Int}(h:ns.length=ms.length):((yP ns.length).all λj=>oy ns ms j)=decide (ns=ms):=by
 rw[zC,decide_eq_true_iff,AJ]
 constructor
 ·intro hh
  refine BL h λj h1 h2 =>?_
  have:=hh j (AL.mpr h1)
  unfold oy at this
  rw[yc,yc,xP h1,xP h2] at this
  exact of_decide_eq_true (by simpa using this)
 ·rintro rfl j _
  exact beq_self_eq_true _
theorem pR {ns ms:List Int}:((yP (min ns.length ms.length)).all (oy ns ms) && ns.length == ms.length)=decide (ns=ms):=by
 by_cases h:ns.length=ms.length
 ·rw[<- h,Cd,show (ns.length == ns.length)=true from beq_self_eq_true _,Bool.and_true]
  exact pQ h
 ·have ne:ns≠ms:=λz=>h (by rw[z])
  rw[decide_eq_false ne,show (ns.length == ms.length)=false from by simpa using h,Bool.and_false]
theorem q8 {ns:List Int}{us:List xw}(r:Vals (ns.map V.int) us){j:Nat}(h:j<us.toArray.size):∃t,us.toArray[j] = .int (ns.getD j 0) t:=by
 have l:=r.length
 rw[xt] at l
 rw[xA] at h
 have e1:(ns.map V.int)[j]? = some (.int (ns.getD j 0)):=by
  rw[xI,yc,xP (by omega)]
  rfl
 obtain ⟨u,g1,q1⟩:=r.get e1
 have f1:us.toArray[j]=u:=by simp[xB] at g1;obtain ⟨_,g⟩:=g1;simpa using g
 rw[f1]
 exact q1
theorem tU {k:Nat}(hr:bY k X.A):OpR X (Aa .Eq) (λx y H Q=>∃(a b:Addr) (ns ms:List Int),x = .ref a/\y = .ref b/\SqT X.K H a (ns.map V.int)/\SqT X.K H b (ms.map V.int)/\Q (.bl (decide (ns=ms))) H):=by
 intro pins s σ H x y v u Q I rx ry h
 obtain ⟨a,b,ns,ms,rfl,rfl,h1,h2,q⟩:=h
 cases (show v=xV a from rx)
 cases (show u=xV b from ry)
 obtain ⟨its,r1,p1,_⟩:=I.tuple h1
 obtain ⟨its2,r2,p2,_⟩:=I.tuple h2
 have l1:=r1.length
 have l2:=r2.length
 rw[xt] at l1 l2
 have hu:=hr.un
 have hu1:X.A.units<cLine:=by omega
 have R:=Cv (A:=X.A) (e:=oy ns ms) (show s.heap.IsTuple a its.toArray from p1) (show s.heap.IsTuple b its2.toArray from p2) hu1 (by
  intro j h1 h2
  obtain ⟨t1,g1⟩:=q8 r1 h1
  obtain ⟨t2,g2⟩:=q8 r2 h2
  rw[g1,g2]
  exact Ap _ t1 _ t2)
 rw[xA,xA, <- l1, <- l2,pR] at R
 exact R _ _ _ _ ⟨.bl _,H,I,rfl,q⟩
def Wd (i:Int):Prop:=i.natAbs<2 ^ 4000
theorem Wd.bits {i:Int}(h:Wd i):Builtin.Int.intBits i<=2 ^ 20:=by
 unfold Builtin.Int.intBits
 split
 ·exact yE _
 ·have:i.natAbs.log2<4000:=by
   rcases Nat.eq_zero_or_pos i.natAbs with h0 | hp
   ·rw[h0];decide
   ·exact (Nat.log2_lt (by omega)).mpr h
  omega
def w4 (i j:Int):Prop:=Wd i/\Wd j
theorem lG:OpR X (binaryOp .Mult) (rI w4 λi j =>.int (i*j)):=opI λ_ _ _ _ _ _ _ hc q=>mul_int q (IntMulOk.of_bits hc.1.bits hc.2.bits)
def w5 (_ j:Int):Prop:=0<j/\Wd j
theorem q9:OpR X (binaryOp .FloorDiv) (rI w5 λi j =>.int (i/j)):=opI λi j _ _ _ _ _ hc q=>by
 have h1:(0:Int)<j:=hc.1
 have h2:j.natAbs.log2<9000:=by
  have:j.natAbs.log2<4000:=(Nat.log2_lt (by omega)).mpr hc.2
  omega
 refine floordiv_int (by omega) ?_ (.inl (PyProof.noPylong_of_log2 h2))
 rw[B8 i (by omega)]
 exact q
end
section
variable  {P:xX}{w:yv}{K:xx}{mg:Str->Option xw}{base:Heap}
end
open PySem PySem.Spec PyProof.Rows
theorem Inv.pT {X:Cx}{pins:List (Addr×Obj)}{σ:St}{H:Hp}{s:xy}{h':Heap}{t':Nat}{ch:List Addr}(I:Inv X pins σ H s)(f:∀b∈ch,gW X pins H b)
  (k:∀b ob,b∉ch->s.heap.get? b=some ob->h'.get? b=some ob):Inv X pins σ H { s with heap:=h',toks:=t' }:=by
 have nit:∀b u,H b=some u->b∉ch:=λb u e z=>by have:=(f b z).1;rw[this] at e;cases e
 refine I.step (g':=s.gens) (d':=s.drawn) (ch:=ch) (λb hb =>?_) (λb o _ _ hc e _=>k b o hc e) (λb o _ _ hc e _=>⟨o.slots,k b o hc e⟩) (λ_ _ _ _ n=>n)
  (λb o hc e=>⟨o,k b o hc e⟩) (λ_ _ e=>e) (λ_ _ _ e=>e) (λb ps e=>⟨#[],by rw[e];simp⟩) (λm hm =>?_) (λb u e =>?_) I.bare
 ·obtain ⟨g0,g1,g2,g3,g4,g5⟩:=f b hb
  exact ⟨g3,g1,g4,g5⟩
 ·obtain ⟨o,es,ep,ho,r⟩:=hm
  exact ⟨o,es,ep,k _ o (λz=>(f _ z).2.1 rfl) ho,r⟩
 ·refine (I.hok b u e).stay (λc v hc q=>k c v ?_ q) (λ_ q=>q) λ_ _ q=>q
  rcases hc with z | z
  ·rw[z];exact nit b u e
  ·exact nit c _ z
theorem vR (n a b:Nat)(h1:a<n)(h2:b<n):ZipApart (n+4) (n+2) (n+3) n (n+1) a b :=
  ⟨λz=>absurd (show n+2=n+4 from z) (by omega),λz=>absurd (show n+3=n+4 from z) (by omega),λz=>absurd (show n=n+4 from z) (by omega),λz=>absurd (show n+1=n+4 from z) (by omega),λz=>absurd (show n+2=n+3 from z) (by omega),λz=>absurd (show n+2=n from z) (by omega),λz=>absurd (show n+2=n+1 from z) (by omega),λz=>absurd (show n+3=n from z) (by omega),λz=>absurd (show n+3=n+1 from z) (by omega),λz=>absurd (show n=n+1 from z) (by omega),
   λz=>absurd (show a=n+4 from z) (by omega),λz=>absurd (show a=n+3 from z) (by omega),λz=>absurd (show a=n from z) (by omega),λz=>absurd (show a=n+1 from z) (by omega),λz=>absurd (show b=n+4 from z) (by omega),λz=>absurd (show b=n+3 from z) (by omega),λz=>absurd (show b=n from z) (by omega),λz=>absurd (show b=n+1 from z) (by omega)⟩
theorem boot_zip:yN "zip" = some (.type "zip"):=by decide +kernel
section
variable  {X:Cx}
end
open PySem PySem.Spec PyProof.Rows
theorem fi {α:Type}{g:α -> Addr}{ts:List α}{i:Nat}{x:V}(e:(ts.map λt=>V.ref (g t))[i]? = some x):∃u,ts[i]? = some u/\x = .ref (g u):=by
 rw[xI] at e
 cases z:ts[i]? with
 | none=>rw[z] at e;cases e
 | some tt=>rw[z] at e;exact ⟨tt,rfl,(ym e).symm⟩
theorem eD {ns:List Int}{i:Nat}{x:V}(e:(ns.map V.int)[i]? = some x):∃u,ns[i]? = some u/\x = .int u:=by
 rw[xI] at e
 cases z:ns[i]? with
 | none=>rw[z] at e;cases e
 | some tt=>rw[z] at e;exact ⟨tt,rfl,(ym e).symm⟩
theorem uG {α β:Type}{f:α -> β}{l:List α}{i:Nat}{x:α}(e:l[i]? = some x):(l.take (i+1)).map f=(l.take i).map f++[f x]:=by
 rw[ye,e,xH];rfl
theorem gu {α:Type}(l:List α):l.take l.length=l:=xW (xC _)
theorem rb {xs:List Int}{d:Int}(h0:0<=d)(h1:d<xs.length):∃v,v∈xs/\atI (xs.map V.int) d=some (.int v):=by
 obtain ⟨n,rfl⟩:∃n:Nat,d=n:=⟨d.toNat,by omega⟩
 have hn:n<xs.length:=by omega
 refine ⟨xs[n],D3 hn,cX ?_⟩
 rw[xI,xP hn]
 rfl
theorem tV (k:Int):∀ps:List Int,inV (.int k) (ps.map V.int)=decide (k∈ps)
 | []=>by simp[inV]
 | p :: ps=>by
  have ih:=tV k ps
  unfold inV at ih ⊢
  rw[xR,Bl,ih]
  have e:eqV (.int p) (.int k)=(p == k):=rfl
  rw[e]
  by_cases h:p=k
  ·subst h;simp
  ·rw[beq_eq_false_iff_ne.mpr h,EG]
   apply decide_eq_decide.mpr
   rw[yj]
   exact ⟨.inr,λx=>x.elim (λy=>absurd y.symm h) id⟩
def Pt (n:Nat)(H:Hp)(p:Addr):Prop:=∃xs:List Int,xs.length=n/\H p=some (.lst (xs.map V.int))
structure Bu (n:Nat)(p:Addr)(H H':Hp):Prop where
 pot:Pt n H' p
 st:∀q o,q≠p->H q=some o->H' q=some o
theorem Pt.same {n:Nat}{p:Addr}{H H1:Hp}(a:Pt n H p)(s:az H H1):Pt n H1 p:=by obtain ⟨xs,l,e⟩:=a;exact ⟨xs,l,s _ _ e⟩
theorem Pt.ne {n:Nat}{p b:Addr}{H:Hp}(a:Pt n H p)(h:H b=none):b≠p:=by
 obtain ⟨xs,_,e⟩:=a
 exact zj (aj e h)
theorem Pt.neT {n:Nat}{p b:Addr}{H:Hp}{ys:List V}(a:Pt n H p)(h:H b=some (.tup ys)):b≠p:=by
 obtain ⟨xs,_,e⟩:=a
 exact dA h e (by intro z;cases z)
theorem Bu.refl {n:Nat}{p:Addr}{H:Hp}(h:Pt n H p):Bu n p H H:=⟨h,λ_ _ _ z=>z⟩
theorem Bu.trans {n:Nat}{p:Addr}{H H1 H2:Hp}(a:Bu n p H H1)(b:Bu n p H1 H2):Bu n p H H2:=⟨b.pot,λq o m z=>b.st q o m (a.st q o m z)⟩
theorem Bu.same {n:Nat}{p:Addr}{H H1 H2:Hp}(a:Bu n p H H1)(b:az H1 H2):Bu n p H H2:=⟨a.pot.same b,λq o m z=>b _ _ (a.st q o m z)⟩
theorem Bu.put {n:Nat}{p:Addr}{H H1:Hp}(a:Bu n p H H1){ys:List Int}(l:ys.length=n):Bu n p H (upd H1 p (.lst (ys.map V.int))):=⟨⟨ys,l,af⟩,λq o m z=>by rw[ak m];exact a.st q o m z⟩
theorem Bu.cR {n:Nat}{p l:Addr}{H H1:Hp}(a:Bu n p H H1)(hl:H l=none)(np:l≠p)(o:HO):Bu n p H (upd H1 l o):=⟨by obtain ⟨xs,z,e⟩:=a.pot;exact ⟨xs,z,by rw[ak np.symm];exact e⟩,λq u m z=>by rw[ak (aj z hl)];exact a.st q u m z⟩
theorem Bu.tup {n:Nat}{p q:Addr}{H H1:Hp}(a:Bu n p H H1)(h:Pt n H p){xs:List V}(t:H q=some (.tup xs)):H1 q=some (.tup xs):=a.st q _ (h.neT t) t
def Tus (H:Hp)(ts:List (Addr×List Int)):Prop:=∀u∈ts,H u.1=some (.tup (u.2.map V.int))
theorem Tus.same {H H':Hp}{ts:List (Addr×List Int)}(h:Tus H ts)(s:az H H'):Tus H' ts:=λu hu=>s _ _ (h u hu)
theorem Tus.bu {n:Nat}{p:Addr}{H H':Hp}{ts:List (Addr×List Int)}(h:Tus H ts)(b:Bu n p H H')(hp:Pt n H p):Tus H' ts:=λu hu=>b.tup hp (h u hu)
theorem Tus.snoc {H:Hp}{ts:List (Addr×List Int)}(h:Tus H ts){u:Addr×List Int}(e:H u.1=some (.tup (u.2.map V.int))):Tus H (ts++[u]):=λv hv=>by
 rcases xS.mp hv with z | z
 ·exact h v z
 ·rw[yd] at z;subst z;exact e
structure Mkg (n:Nat)(p la:Addr)(H H':Hp)(us:List (Addr×List Int)):Prop where
 bu:Bu n p H H'
 at':H' la=some (.lst (us.map λu =>.ref u.1))
 tu:Tus H' us
 two:∀u∈us,∃x y,u.2=[x,y]
theorem Mkg.bu' {n:Nat}{p la:Addr}{H H1 H2:Hp}{us:List (Addr×List Int)}(m:Mkg n p la H H1 us)(np:la≠p)(b:Bu n p H1 H2):Mkg n p la H H2 us:=⟨m.bu.trans b,b.st _ _ np m.at',m.tu.bu b m.bu.pot,m.two⟩
theorem Mkg.add {n:Nat}{p la t:Addr}{H H1:Hp}{us:List (Addr×List Int)}(m:Mkg n p la H H1 us)(hla:H la=none)(np:la≠p)(ht:H1 t=none)(x y:Int):Mkg n p la H (upd (upd H1 t (.tup [.int x,.int y])) la (.lst ((us.map λu=>V.ref u.1)++[.ref t]))) (us++[(t,[x,y])]):=by
 have ntl:t≠la:=zj (aj m.at' ht)
 refine ⟨(m.bu.same (ae ht _)).cR hla np _,?_,?_,?_⟩
 ·rw[af,xH]
  rfl
 ·refine Tus.snoc (λu hu =>?_) ?_
  ·rw[ak (dA (m.tu u hu) m.at' (by intro z;cases z)),ak (aj (m.tu u hu) ht)]
   exact m.tu u hu
  ·show upd (upd H1 t _) la _ t=_
   rw[ak ntl]
   exact af
 ·intro u hu
  rcases xS.mp hu with z | z
  ·exact m.two u z
  ·rw[yd] at z;subst z;exact ⟨x,y,rfl⟩
variable  {X:Cx}
open PySem PySem.Spec PyProof.Rows
section
variable  {X:Cx}
theorem rd {k:Int}:∀{ns:List Int} {m:Nat} (h:m<ns.length),m<ns.idxOf k->ns[m]≠k
 | [],m,h,_=>absurd h (Ee _)
 | n :: ns,0,_,l=>by
  intro z
  have e:(n :: ns)[0]=n:=rfl
  rw[e] at z
  subst z
  simp at l
 | n :: ns,m+1,h,l=>by
  have h':m<ns.length:=Nat.lt_of_succ_lt_succ h
  show ns[m]≠k
  refine rd h' ?_
  by_cases e:n=k
  ·subst e;simp at l
  ·rw[List.idxOf_cons,show (n == k)=false by simpa using e] at l
   simp at l
   exact l
theorem kK:MtR X "list.index" (λx vs H Q=>∃(p:Addr) (ns:List Int) (k:Int),x = .ref p/\vs=[.int k]/\H p=some (.lst (ns.map V.int))/\k∈ns/\ns.length<=100000/\Q (.int (ns.idxOf k:Nat)) H):=by
 intro pins s σ H x vs v us Q I rx rv h
 obtain ⟨p,ns,k,rfl,rfl,hp,hk,hz,q⟩:=h
 cases rx
 obtain ⟨u,rfl,⟨t,rfl⟩⟩:=vals1 rv
 obtain ⟨z,its,n,r,e1⟩:=(show aT X.prog X.w H s.heap p (.lst _) from I.hok p _ hp)
 have hi:zJ its ns:=intsAre_of r
 have hlen:=hi.length
 have hj:ns.idxOf k<ns.length:=List.idxOf_lt_length_iff.mpr hk
 refine BX Bo ⟨_,e1,rfl⟩ PySem.F.entry_list_index (PySem.F.args_list_index_2 _ _) (SeqAt.list_indexAt p its.toArray n none #[] (.int k t) (isInt k) (ns.idxOf k) (by simpa [hlen] using hj) (by omega) ?_ ?_) ⟨e1,λy hy=>pN hi y hy,⟨.int _,H,I.tok _,⟨_,rfl⟩,q⟩⟩
 ·show isInt k its[ns.idxOf k]=true
  rw[isInt_at k hi _ (by omega) hj];simpa using List.getElem_idxOf hj
 ·intro j hjs hlt
  show isInt k its[j]=false
  rw[isInt_at k hi j (by simpa using hjs) (by omega)]
  simpa using rd (by omega) hlt
def js (K:xx):R2:=λx y H Q=>∃a b xs ys,x = .ref a/\y = .ref b/\SqT K H a xs/\SqT K H b ys/\xs.length+ys.length<=xG/\(xs=[]->Q (.ref b) H)/\(ys=[]->Q (.ref a) H)/\(xs≠[]->ys≠[]->∀p,H p=none->Q (.ref p) (upd H p (.tup (xs++ys))))
theorem mD:OpR X (binaryOp .Add) (js X.K):=by
 intro pins s σ H x y v u Q I rx ry h
 obtain ⟨a,b,xs,ys,rfl,rfl,ha,hb,hz,q1,q2,q3⟩:=h
 by_cases hx:xs=[]
 ·cases rx
  cases ry
  obtain ⟨its,r1,p1,_⟩:=I.tuple ha
  obtain ⟨its2,r2,p2,_⟩:=I.tuple hb
  obtain ⟨⟨c1,d1,da1,s1⟩,o1,k1,n1,g1⟩:=id p1
  obtain ⟨⟨c2,d2,da2,s2⟩,o2,k2,n2,g2⟩:=id p2
  simp only at k1 g1 k2 g2
  subst k1 g1 k2 g2
  have e0:its=[]:=r1.iJ.mpr hx
  exact C6 ⟨_,o1,rfl⟩ ⟨_,o2,rfl⟩ CP DD Bx Bk (Bf _ _)
   (tuple_addW0 a b its.toArray its2.toArray n1 n2 d1 d2 s1 s2 (by simp[e0])) ⟨o1,o2,⟨.ref b,H,I,rfl,q1 hx⟩⟩
 ·exact sW pins s σ H _ _ v u Q I rx ry ⟨a,b,xs,ys,rfl,rfl,ha,hb,hx,hz,q2,λhy=>q3 hx hy⟩
theorem js.one {K:xx}{H:Hp}{Q:VK}{a b:Addr}{xs ys:List V}(ha:H a=some (.tup xs))(hb:H b=some (.tup ys))(hz:xs.length+ys.length<=xG)(q:∀p H',az H H'->H' p=some (.tup (xs++ys))->Q (.ref p) H'):js K (.ref a) (.ref b) H Q:=by
 refine ⟨a,b,xs,ys,rfl,rfl,SqT.of ha,SqT.of hb,hz,λz =>?_,λz =>?_,λ_ _ p hp=>q p _ (ae hp _) af⟩
 ·subst z;exact q b H (az.refl _) hb
 ·subst z;exact q a H (az.refl _) (by rw[yC];exact ha)
end
open PySem PySem.Spec PyProof.Rows
def ItB:Bool->Heap->Addr->Addr->Nat->Prop
 | true,h,it,l,i=>h.IsListIter it l i
 | false,h,it,l,i=>h.IsTupleIter it l i
def SB':Bool->Heap->Addr->Array xw->Prop
 | true,h,l,xs=>h.IsList l xs
 | false,h,l,xs=>h.IsTuple l xs
theorem ItB.to {b:Bool}{h h':Heap}{it l:Addr}{i:Nat}(x:ItB b h it l i)(k:∀o,h.get? it=some o->h'.get? it=some o):ItB b h' it l i:=by
 cases b
 ·exact Heap.IsTupleIter.at (show h.IsTupleIter it l i from x) k
 ·exact Heap.IsListIter.at (show h.IsListIter it l i from x) k
theorem SB'.to {b:Bool}{h h':Heap}{l:Addr}{xs:Array xw}(x:SB' b h l xs)(k:∀o,h.get? l=some o->h'.get? l=some o):SB' b h' l xs:=by
 cases b
 ·obtain ⟨o,e,r⟩:=(show h.IsTuple l xs from x);exact ⟨o,k o e,r⟩
 ·obtain ⟨o,e,r⟩:=(show h.IsList l xs from x);exact ⟨o,k o e,r⟩
theorem ItB.lt {b:Bool}{h:Heap}{it l:Addr}{i:Nat}(x:ItB b h it l i):it<h.objs.size:=by
 cases b
 ·obtain ⟨o,e,_⟩:=(show h.IsTupleIter it l i from x);exact xE e
 ·obtain ⟨o,e,_⟩:=(show h.IsListIter it l i from x);exact xE e
theorem ItB.obj {b:Bool}{h:Heap}{it l:Addr}{i:Nat}(x:ItB b h it l i):∃o,h.get? it=some o/\∀v,o.data ≠ .cell v:=by
 cases b
 ·obtain ⟨o,e,_,d⟩:=(show h.IsTupleIter it l i from x);exact ⟨o,e,λv z=>by rw[d] at z;cases z⟩
 ·obtain ⟨o,e,_,d⟩:=(show h.IsListIter it l i from x);exact ⟨o,e,λv z=>by rw[d] at z;cases z⟩
section
variable  {prog:xX}{w:yv}{A:yy}{E:xw->xy->Prop}{s:xy}
theorem rf {b:Bool}{it l:Addr}{i:Nat}{xs:Array xw}{x:xw}{Q:xw->xy->Prop}(hi:ItB b s.heap it l i)(hl:SB' b s.heap l xs)(hx:xs[i]? = some x)
  (q:∀h',ItB b h' it l (i+1)->Heap.SameBut it s.heap h'->Q x { s with heap:=h' }):x8 (x9 prog w) A (Builtin.SmallTypes.nextOf (.ref it)) Q E s:=by
 cases b
 ·exact nF hi hl hx q
 ·exact wpAny_nextOf_list_item hi hl hx q
theorem kM {b:Bool}{it l:Addr}{i:Nat}{xs:Array xw}{Q:xw->xy->Prop}(hh:A.handled=none)(hi:ItB b s.heap it l i)(hl:SB' b s.heap l xs)(hx:xs[i]? = none)
  (q:∀h' e,Heap.ExtBut it s.heap h'->(∃o,h'.get? e=some o/\o.cls = .type "StopIteration")->E (.ref e) { s with heap:=h' }):x8 (x9 prog w) A (Builtin.SmallTypes.nextOf (.ref it)) Q E s:=by
 cases b
 ·exact jj hh hi hl hx q
 ·exact wpAny_nextOf_list_end hh hi hl hx q
theorem pU {c d:Bool}{z TI TO i1 i2 l1 l2:Addr}{k1 k2:Nat}{xs ys:Array xw}{x y a b:xw}{Q:xw->xy->Prop}(D:ZipApart z TI TO i1 i2 l1 l2)
  (hz:IsZip s.heap z TI TO .none) (hTI:IsPair s.heap TI (.ref i1) (.ref i2)) (hTO:IsPair s.heap TO a b)
  (j1:ItB c s.heap i1 l1 k1) (j2:ItB d s.heap i2 l2 k2) (m1:SB' c s.heap l1 xs) (m2:SB' d s.heap l2 ys) (hx:xs[k1]? = some x) (hy:ys[k2]? = some y)
  (hQ:∀h',IsZip h' z TI TO (EJ s.heap.objs.size)->IsPair h' TO x y->ItB c h' i1 l1 (k1+1)->ItB d h' i2 l2 (k2+1)->IsPair h' s.heap.objs.size x y->h'.objs.size=s.heap.objs.size+1 →
   (∀c o,c≠z->c≠TO->c≠i1->c≠i2->s.heap.get? c=some o->h'.get? c=some o)->Q (.ref s.heap.objs.size) { s with heap:=h' }) :
  x8 (x9 prog w) A (Builtin.«zip.__next__» ⟨[.ref z],[]⟩) (λfin s'=>∃v,fin = .done (.ret v)/\Q v s') E s:=by
 show x8 _ _ (field (.ref z) 2 >>= _) _ _ _;refine xu (Aj hz rfl (x :=.bool false) rfl ?_)
 show x8 _ _ (field (.ref z) 3 >>= _) _ _ _;refine xu (Aj hz rfl (x :=.ref TI) rfl ?_)
 refine xu (zB hTI rfl ?_);show x8 _ _ (Builtin.SmallTypes.ownedTupleIsFree (.ref z) >>= _) _ _ _
 refine xu ?_;unfold Builtin.SmallTypes.ownedTupleIsFree
 refine xu (Aj hz rfl (x :=.none) rfl (xJ ?_));simp only[if_true]
 refine xu (AN ?_);refine xu (Aj hz rfl (x :=.ref TO) rfl ?_)
 refine xu (Av hz (by simp) λg1 hz1 s1 =>?_);replace hz1:IsZip g1 z TI TO .ellipsis:=hz1
 refine xu ?_;simp only[CK,Ef,CZ,Et]
 refine xu (xu (CD ?_));show x8 _ _ (Builtin.SmallTypes.nextOf (.ref i1) >>= _) _ _ _
 refine xu (rf (j1.to λo e=>s1.extBut _ _ D.i1z e) (m1.to λo e=>s1.extBut _ _ D.l1z e) hx λg2 j1' s2=>xJ ?_)
 have t2:IsPair g2 TO a b:=s2.extBut _ _ D.TOi1 (s1.extBut _ _ D.TOz hTO)
 refine xu (zB t2 rfl ?_);refine xu (BR t2 λg3 t3 s3 =>?_)
 replace t3:IsPair g3 TO x b:=t3;refine xu (A1 (xJ ?_))
 refine xu (xu (CD ?_));show x8 _ _ (Builtin.SmallTypes.nextOf (.ref i2) >>= _) _ _ _
 refine xu (rf (((j2.to λo e=>s1.extBut _ _ D.i2z e).to λo e=>s2.extBut _ _ D.i12.symm e).to λo e=>s3.extBut _ _ D.TOi2.symm e) (((m2.to λo e=>s1.extBut _ _ D.l2z e).to λo e=>s2.extBut _ _ D.l2i1 e).to λo e=>s3.extBut _ _ D.l2TO e) hy λg4 j2' s4=>xJ ?_)
 have t4:IsPair g4 TO x b:=s4.extBut _ _ D.TOi2 t3
 refine xu (zB t4 rfl ?_);refine xu (BR t4 λg5 t5 s5 =>?_)
 replace t5:IsPair g5 TO x y:=t5;refine xu (A1 (xJ (xJ ?_)))
 refine xu (zB t5 rfl ?_);refine xu (Dg ?_)
 have sz:g5.objs.size=s.heap.objs.size:=by rw[s5.1,s4.1,s3.1,s2.1,s1.1]
 have z5:IsZip g5 z TI TO .ellipsis:=s5.extBut _ _ D.TOz.symm (s4.extBut _ _ D.i2z.symm (s3.extBut _ _ D.TOz.symm (s2.extBut _ _ D.i1z.symm hz1)))
 have k5:∀c o,c≠z->c≠TO->c≠i1->c≠i2->s.heap.get? c=some o->g5.get? c=some o:=λc o c1 c2 c3 c4 e=>s5.extBut _ _ c2 (s4.extBut _ _ c4 (s3.extBut _ _ c2 (s2.extBut _ _ c3 (s1.extBut _ _ c1 e))))
 have n1:ItB c g5 i1 l1 (k1+1):=((j1'.to λo e=>s3.extBut _ _ D.TOi1.symm e).to λo e=>s4.extBut _ _ D.i12 e).to λo e=>s5.extBut _ _ D.TOi1.symm e
 have n2:ItB d g5 i2 l2 (k2+1):=j2'.to λo e=>s5.extBut _ _ D.TOi2.symm e
 have zl:z<g5.objs.size:=xE z5
 show x8 _ _ (Builtin.SmallTypes.ownedTupleHandOut (.ref z) (.ref g5.objs.size) >>= _) _ _ _;refine xu ?_
 unfold Builtin.SmallTypes.ownedTupleHandOut
 have z6:IsZip (g5.push { cls :=.type "tuple",data :=.seq #[x,y] }) z TI TO .ellipsis:=xv _ z5
 refine xu (Av z6 (by simp) λg7 z7 s7 =>?_);replace z7:IsZip g7 z TI TO (EJ g5.objs.size):=z7
 refine Av z7 (by simp) λg8 z8 s8 =>?_;replace z8:IsZip g8 z TI TO (EJ g5.objs.size):=z8
 have up:∀c o,c≠z->g5.get? c=some o->g8.get? c=some o:=λc o c1 e=>s8.extBut _ _ c1 (s7.extBut _ _ c1 (xv _ e))
 have p8:IsPair g8 g5.objs.size x y:=s8.extBut _ _ (zS zl) (s7.extBut _ _ (zS zl) (xF _ rfl))
 have e8:g8.objs.size=g5.objs.size+1:=by rw[s8.1,s7.1,AM]
 rw[sz] at z8 p8 e8
 refine xJ ⟨_,rfl,?_⟩;show Q (.ref g5.objs.size) _;rw[sz]
 exact hQ g8 z8 (up _ _ D.TOz t5) (n1.to λo e=>up _ o D.i1z e) (n2.to λo e=>up _ o D.i2z e) p8 e8 λc o c1 c2 c3 c4 e=>up c o c1 (k5 c o c1 c2 c3 c4 e)
theorem rh {c d:Bool}{z TI TO i1 i2 l1 l2:Addr}{k1 k2:Nat}{xs ys:Array xw}{a b:xw}{Q:Fin->xy->Prop}(hh:A.handled=none)(D:ZipApart z TI TO i1 i2 l1 l2)
  (hz:IsZip s.heap z TI TO .none) (hTI:IsPair s.heap TI (.ref i1) (.ref i2)) (hTO:IsPair s.heap TO a b)
  (j1:ItB c s.heap i1 l1 k1) (j2:ItB d s.heap i2 l2 k2) (m1:SB' c s.heap l1 xs) (m2:SB' d s.heap l2 ys) (hend:xs[k1]? = none\/ys[k2]? = none)
  (hE:∀h' e,(∀c o,c≠z->c≠TO->c≠i1->c≠i2->s.heap.get? c=some o->h'.get? c=some o)->(∃o,h'.get? e=some o/\o.cls = .type "StopIteration")->E (.ref e) { s with heap:=h' }) :
  x8 (x9 prog w) A (Builtin.«zip.__next__» ⟨[.ref z],[]⟩) Q E s:=by
 show x8 _ _ (field (.ref z) 2 >>= _) _ _ _;refine xu (Aj hz rfl (x :=.bool false) rfl ?_)
 show x8 _ _ (field (.ref z) 3 >>= _) _ _ _;refine xu (Aj hz rfl (x :=.ref TI) rfl ?_)
 refine xu (zB hTI rfl ?_);show x8 _ _ (Builtin.SmallTypes.ownedTupleIsFree (.ref z) >>= _) _ _ _
 refine xu ?_;unfold Builtin.SmallTypes.ownedTupleIsFree
 refine xu (Aj hz rfl (x :=.none) rfl (xJ ?_));simp only[if_true]
 refine xu (AN ?_);refine xu (Aj hz rfl (x :=.ref TO) rfl ?_)
 refine xu (Av hz (by simp) λg1 hz1 s1 =>?_);replace hz1:IsZip g1 z TI TO .ellipsis:=hz1
 refine xu ?_;simp only[CK,Ef,CZ,Et]
 refine xu (xu (CD ?_));show x8 _ _ (Builtin.SmallTypes.nextOf (.ref i1) >>= _) _ _ _
 cases hx:xs[k1]? with
 | none =>
  refine xu (kM hh (j1.to λo e=>s1.extBut _ _ D.i1z e) (m1.to λo e=>s1.extBut _ _ D.l1z e) hx λg2 e s2 he =>?_)
  obtain ⟨oe,hoe,hce⟩:=he
  have z2:IsZip g2 z TI TO .ellipsis:=s2 _ _ D.i1z.symm hz1
  have hez:e≠z:=λx=>by subst x;rw[z2] at hoe;cases hoe;simp at hce
  refine Av z2 (by simp) λg3 _ s3=>hE g3 e (λc o c1 _ c3 _ x=>s3.extBut _ _ c1 (s2 _ _ c3 (s1.extBut _ _ c1 x))) ⟨oe,s3.extBut _ _ hez hoe,hce⟩
 | some x =>
  have hy:ys[k2]? = none:=by rcases hend with h | h;rw[hx] at h;cases h;exact h
  refine xu (rf (j1.to λo e=>s1.extBut _ _ D.i1z e) (m1.to λo e=>s1.extBut _ _ D.l1z e) hx λg2 j1' s2=>xJ ?_)
  have t2:IsPair g2 TO a b:=s2.extBut _ _ D.TOi1 (s1.extBut _ _ D.TOz hTO)
  refine xu (zB t2 rfl ?_);refine xu (BR t2 λg3 t3 s3 =>?_)
  refine xu (A1 (xJ ?_));refine xu (xu (CD ?_))
  show x8 _ _ (Builtin.SmallTypes.nextOf (.ref i2) >>= _) _ _ _;refine xu (kM hh (((j2.to λo e=>s1.extBut _ _ D.i2z e).to λo e=>s2.extBut _ _ D.i12.symm e).to λo e=>s3.extBut _ _ D.TOi2.symm e) (((m2.to λo e=>s1.extBut _ _ D.l2z e).to λo e=>s2.extBut _ _ D.l2i1 e).to λo e=>s3.extBut _ _ D.l2TO e) hy λg4 e s4 he =>?_)
  obtain ⟨oe,hoe,hce⟩:=he
  have z4:IsZip g4 z TI TO .ellipsis:=s4 _ _ D.i2z.symm (s3.extBut _ _ D.TOz.symm (s2.extBut _ _ D.i1z.symm hz1))
  have hez:e≠z:=λx=>by subst x;rw[z4] at hoe;cases hoe;simp at hce
  refine Av z4 (by simp) λg5 _ s5=>hE g5 e (λc o c1 c2 c3 c4 x=>s5.extBut _ _ c1 (s4 _ _ c4 (s3.extBut _ _ c2 (s2.extBut _ _ c3 (s1.extBut _ _ c1 x))))) ⟨oe,s5.extBut _ _ hez hoe,hce⟩
theorem mE {c d:Bool}{z TI TO i1 i2 l1 l2:Addr}{k1 k2:Nat}{xs ys:Array xw}{x y a b:xw}{Q:Option xw->xy->Prop}(D:ZipApart z TI TO i1 i2 l1 l2)
  (hz:IsZip s.heap z TI TO .none) (hTI:IsPair s.heap TI (.ref i1) (.ref i2)) (hTO:IsPair s.heap TO a b)
  (j1:ItB c s.heap i1 l1 k1) (j2:ItB d s.heap i2 l2 k2) (m1:SB' c s.heap l1 xs) (m2:SB' d s.heap l2 ys) (hx:xs[k1]? = some x) (hy:ys[k2]? = some y)
  (hQ:∀h',IsZip h' z TI TO (EJ s.heap.objs.size)->IsPair h' TO x y->ItB c h' i1 l1 (k1+1)->ItB d h' i2 l2 (k2+1)->IsPair h' s.heap.objs.size x y->h'.objs.size=s.heap.objs.size+1 →
   (∀c o,c≠z->c≠TO->c≠i1->c≠i2->s.heap.get? c=some o->h'.get? c=some o)->Q (some (.ref s.heap.objs.size)) { s with heap:=h' }):x8 (x9 prog w) A (pyNext (.ref z)) Q E s:=by
 have hT:s.TypeIs (.ref z) "zip" :=⟨_,hz,rfl⟩
 unfold pyNext;exact xu (zR (zd (name:=Str.ofString "__next__") hT B4 (ze B4 hT D4 (pU D hz hTI hTO j1 j2 m1 m2 hx hy λh' a1 a2 a3 a4 a5 a6 a7=>xJ (hQ h' a1 a2 a3 a4 a5 a6 a7)) (DL _))))
theorem iF {c d:Bool}{z TI TO i1 i2 l1 l2:Addr}{k1 k2:Nat}{xs ys:Array xw}{a b:xw}{Q:Option xw->xy->Prop}(hh:A.handled=none)(D:ZipApart z TI TO i1 i2 l1 l2)
  (hz:IsZip s.heap z TI TO .none) (hTI:IsPair s.heap TI (.ref i1) (.ref i2)) (hTO:IsPair s.heap TO a b)
  (j1:ItB c s.heap i1 l1 k1) (j2:ItB d s.heap i2 l2 k2) (m1:SB' c s.heap l1 xs) (m2:SB' d s.heap l2 ys) (hend:xs[k1]? = none\/ys[k2]? = none)
  (hQ:∀h',(∀c o,c≠z->c≠TO->c≠i1->c≠i2->s.heap.get? c=some o->h'.get? c=some o)->Q none { s with heap:=h' }):x8 (x9 prog w) A (pyNext (.ref z)) Q E s:=by
 have hT:s.TypeIs (.ref z) "zip" :=⟨_,hz,rfl⟩
 unfold pyNext;refine xu (zR (zd (name:=Str.ofString "__next__") hT B4 (ze B4 hT D4 (rh hh D hz hTI hTO j1 j2 m1 m2 hend λh' e hk he =>?_) (DL _))))
 obtain ⟨o,ho,hc⟩:=he
 refine xu (BP (T := "StopIteration") (b:=true) ⟨o,ho,hc⟩ Di ?_);exact xJ (hQ _ hk)
def oz:Bool->String
 | true => "list_iterator"
 | false => "tuple_iterator"
def zB1 (c:Bool)(h:Heap)(l1:Addr):Heap:=h.push { cls :=.type (oz c),data :=.fields #[.ref l1,.int 0 0] }
def zB2 (c d:Bool)(h:Heap)(l1 l2:Addr):Heap:=(zB1 c h l1).push { cls :=.type (oz d),data :=.fields #[.ref l2,.int 0 0] }
def zB3 (c d:Bool)(h:Heap)(l1 l2:Addr):Heap:=(zB2 c d h l1 l2).push { cls :=.type "tuple",data :=.seq #[.ref h.objs.size,.ref (zB1 c h l1).objs.size] }
def zB4 (c d:Bool)(h:Heap)(l1 l2:Addr):Heap:=(zB3 c d h l1 l2).push { cls :=.type "tuple",data :=.seq #[.none,.none] }
def zB5 (c d:Bool)(h:Heap)(l1 l2:Addr):Heap:=(zB4 c d h l1 l2).push { cls :=.type "zip",data :=.fields #[.none,.bool false,.bool false,.ref (zB2 c d h l1 l2).objs.size,.ref (zB3 c d h l1 l2).objs.size] }
theorem uH {c:Bool}{l:Addr}{xs:Array xw}{Q:xw->xy->Prop}(hl:SB' c s.heap l xs)(q:Q (.ref s.heap.objs.size) { s with heap:=zB1 c s.heap l }):x8 (x9 prog w) A (pyIter (.ref l)) Q E s:=by
 cases c
 ·exact Cf hl q
 ·exact BD hl q
theorem rj (c d:Bool)(l1 l2:Addr)(xs ys:Array xw):Meets (Builtin.«zip.__new__» ⟨[.type "zip",.ref l1,.ref l2],[]⟩) (λ_ R s=>SB' c s.heap l1 xs/\SB' d s.heap l2 ys ∧
   R (.ok (.ret (.ref (zB4 c d s.heap l1 l2).objs.size))) { s with heap:=zB5 c d s.heap l1 l2 }) :=
 .of_wp λprog w A R s h=>by
  obtain ⟨hp,g,dr,tk,os⟩:=s;obtain ⟨hl1,hl2,h⟩:=h
  have hsub:=sub_zip
  have m1:SB' c (Shared.heap ⟨hp,g,dr,tk,os⟩) l1 xs:=hl1
  have m2:SB' d (Shared.heap ⟨zB1 c hp l1,g,dr,tk,os⟩) l2 ys:=hl2.to λo e=>xv _ e
  wp_walk using uH m1,uH m2
  exact ⟨_,rfl,h⟩
theorem pV {c d:Bool}{l1 l2:Addr}{xs ys:Array xw}{Q:xw->xy->Prop}(m1:SB' c s.heap l1 xs)(m2:SB' d s.heap l2 ys)
  (h:∀h',IsZip h' (s.heap.objs.size+4) (s.heap.objs.size+2) (s.heap.objs.size+3) .none->IsPair h' (s.heap.objs.size+2) (.ref s.heap.objs.size) (.ref (s.heap.objs.size+1)) →
   IsPair h' (s.heap.objs.size+3) .none .none->ItB c h' s.heap.objs.size l1 0->ItB d h' (s.heap.objs.size+1) l2 0 →
   (∀c o,s.heap.get? c=some o->h'.get? c=some o)->Q (.ref (s.heap.objs.size+4)) { s with heap:=h' }):x8 (x9 prog w) A (call (.type "zip") [.ref l1,.ref l2]) Q E s:=by
 refine callType_new F.called_zip (by decide) (F.typeCall_zip_2 _ _) (F.newCall_zip_2 _ _) (λobj=>F.args_object_init_3 obj _ _) F.entry_zip_new (rj c d l1 l2 xs ys) ⟨m1,m2,?_⟩
 have z1:(zB1 c s.heap l1).objs.size=s.heap.objs.size+1:=AM ..
 have z2:(zB2 c d s.heap l1 l2).objs.size=s.heap.objs.size+2:=(AM ..).trans (by rw[z1])
 have z3:(zB3 c d s.heap l1 l2).objs.size=s.heap.objs.size+3:=(AM ..).trans (by rw[z2])
 have z4:(zB4 c d s.heap l1 l2).objs.size=s.heap.objs.size+4:=(AM ..).trans (by rw[z3])
 have g5:(zB5 c d s.heap l1 l2).get? (zB4 c d s.heap l1 l2).objs.size=some { cls :=.type "zip",data :=.fields #[.none,.bool false,.bool false,.ref (zB2 c d s.heap l1 l2).objs.size,.ref (zB3 c d s.heap l1 l2).objs.size] }:=xF _ rfl
 have g4:(zB5 c d s.heap l1 l2).get? (zB3 c d s.heap l1 l2).objs.size=some { cls :=.type "tuple",data :=.seq #[.none,.none] }:=xv _ (xF _ rfl)
 have g3:(zB5 c d s.heap l1 l2).get? (zB2 c d s.heap l1 l2).objs.size=some { cls :=.type "tuple",data :=.seq #[.ref s.heap.objs.size,.ref (zB1 c s.heap l1).objs.size] }:=xv _ (xv _ (xF _ rfl))
 have g2:(zB5 c d s.heap l1 l2).get? (zB1 c s.heap l1).objs.size=some { cls :=.type (oz d),data :=.fields #[.ref l2,.int 0 0] }:=xv _ (xv _ (xv _ (xF _ rfl)))
 have g1:(zB5 c d s.heap l1 l2).get? s.heap.objs.size=some { cls :=.type (oz c),data :=.fields #[.ref l1,.int 0 0] }:=xv _ (xv _ (xv _ (xv _ (xF _ rfl))))
 show _/\_
 rw[z2,z3,z4] at g5
 rw[z1,z2] at g3
 rw[z3] at g4
 rw[z1] at g2
 rw[z4]
 refine ⟨⟨_,g5,rfl⟩,h _ g5 g3 g4 ?_ ?_ λc' o x=>xv _ (xv _ (xv _ (xv _ (xv _ x))))⟩
 ·cases c
  ·exact ⟨_,g1,rfl,rfl⟩
  ·exact ⟨_,g1,rfl,rfl⟩
 ·cases d
  ·exact ⟨_,g2,rfl,rfl⟩
  ·exact ⟨_,g2,rfl,rfl⟩
end
def SqB (K:xx):Bool->Hp->Addr->List V->Prop
 | true,H,a,xs=>SqL K H a xs
 | false,H,a,xs=>SqT K H a xs
theorem SqB.row {X:Cx}{c:Bool}{pins:List (Addr×Obj)}{σ:St}{H:Hp}{s:xy}(I:Inv X pins σ H s){a:Addr}{xs:List V}(h:SqB X.K c H a xs):∃its:List xw,Vals xs its/\SB' c s.heap a its.toArray:=by
 cases c
 ·obtain ⟨its,r,p,_⟩:=I.tuple (show SqT X.K H a xs from h);exact ⟨its,r,p⟩
 ·obtain ⟨its,r,p,_⟩:=I.list (show SqL X.K H a xs from h);exact ⟨its,r,p.isList⟩
theorem SB'.lt {c:Bool}{h:Heap}{l:Addr}{xs:Array xw}(x:SB' c h l xs):l<h.objs.size:=by
 cases c
 ·obtain ⟨o,e,_⟩:=(show h.IsTuple l xs from x);exact xE e
 ·obtain ⟨o,e,_⟩:=(show h.IsList l xs from x);exact xE e
theorem SqB.inj {X:Cx}{c:Bool}{pins:List (Addr×Obj)}{σ:St}{H:Hp}{s:xy}(I:Inv X pins σ H s){a:Addr}{xs ys:List V}(h:SqB X.K c H a xs)(g:SqB X.K c H a ys):xs=ys:=by
 cases c
 ·exact I.kg h g
 ·exact I.mf h g
def ItZ (K:xx)(c d:Bool)(a b:Addr):It :=
 ⟨λi H=>∃xs ys u v,SqB K c H a xs/\SqB K d H b ys/\xs[i]? = some u/\ys[i]? = some v,λi H x H'=>∃T u v,H T=none/\x = .ref T/\H'=upd H T (.tup [u,v])/\(∀xs,SqB K c H a xs->xs[i]? = some u)/\∀ys,SqB K d H b ys->ys[i]? = some v,λi H=>∃xs ys,SqB K c H a xs/\SqB K d H b ys/\(xs.length<=i\/ys.length<=i)⟩
theorem pW {P:xX}{w:yv}{K:xx}{elts:List Expr}{k:Nat}{pos:Pos}(c d:Bool)(a b z TI TO i1 i2:Addr)(D:ZipApart z TI TO i1 i2 a b):Turn P w K (.Tuple elts k pos) (ItZ K c d a b) [z,TI,TO,i1,i2] z (λi h=>IsZip h z TI TO .none/\IsPair h TI (.ref i1) (.ref i2)/\(∃x y,IsPair h TO x y)/\ItB c h i1 a i/\ItB d h i2 b i) where
 mem:=by simp
 obj:=λi h ⟨hz,hI,⟨x,y,hO⟩,h1,h2⟩ e he=>by
  have he':e=z\/e=TI\/e=TO\/e=i1\/e=i2:=by simpa using he
  rcases he' with q | q | q | q | q
  ·subst q;exact ⟨_,hz,λv z=>nomatch z⟩
  ·subst q;exact ⟨_,hI,λv z=>nomatch z⟩
  ·subst q;exact ⟨_,hO,λv z=>nomatch z⟩
  ·subst q;exact h1.obj
  ·subst q;exact h2.obj
 keep:=λi h h' ⟨hz,hI,⟨x,y,hO⟩,h1,h2⟩ kp=>⟨kp z (by simp) _ hz,kp TI (by simp) _ hI,⟨x,y,kp TO (by simp) _ hO⟩,h1.to λo e=>kp i1 (by simp) o e,h2.to λo e=>kp i2 (by simp) o e⟩
 item:=λX eP eW eK hcalm i pins s σ H E I f ⟨hz,hI,⟨x,y,hO⟩,h1,h2⟩ go=>by
  subst eP eW eK
  obtain ⟨xs,ys,u,v,ha,hb,hu,hv⟩:=go
  obtain ⟨its,r,pl⟩:=SqB.row I ha
  obtain ⟨jts,r',pl'⟩:=SqB.row I hb
  obtain ⟨u',eu,ru⟩:=r.get hu
  obtain ⟨v',ev,rv⟩:=r'.get hv
  refine mE D hz hI hO h1 h2 pl pl' (x:=u') (y:=v') (by rw[Ar];exact eu) (by rw[Ar];exact ev) λh' o1 o2 o3 o4 o5 o6 kp =>?_
  refine ⟨_,rfl,?_⟩
  refine wpAny_letOwnedTupleGo_zip o1 λh2' e2 sb =>?_
  have ez:z≠s.heap.objs.size:=x5 (xE hz)
  have lt:∀e∈[z,TI,TO,i1,i2],e≠s.heap.objs.size:=λe he=>by
   have he':e=z\/e=TI\/e=TO\/e=i1\/e=i2:=by simpa using he
   rcases he' with q | q | q | q | q
   ·rw[q];exact ez
   ·rw[q];exact x5 (xE hI)
   ·rw[q];exact x5 (xE hO)
   ·rw[q];exact x5 h1.lt
   ·rw[q];exact x5 h2.lt
  have kp2:∀e ob,e∉[z,TI,TO,i1,i2]->s.heap.get? e=some ob->h2'.get? e=some ob:=λe ob he eb=>by
   have n1:e≠z:=λq=>he (by simp[q])
   have n2:e≠TO:=λq=>he (by simp[q])
   have n3:e≠i1:=λq=>he (by simp[q])
   have n4:e≠i2:=λq=>he (by simp[q])
   rw[sb.2 e n1];exact kp e ob n1 n2 n3 n4 eb
  have j1:ItB c h2' i1 a (i+1):=o3.to λob eb=>by rw[sb.2 i1 D.i1z];exact eb
  have j2:ItB d h2' i2 b (i+1):=o4.to λob eb=>by rw[sb.2 i2 D.i2z];exact eb
  have jI:IsPair h2' TI (.ref i1) (.ref i2):=by
   show h2'.get? TI=_
   rw[sb.2 TI D.TIz]
   exact kp TI _ D.TIz D.TITO D.TIi1 D.TIi2 hI
  have jO:IsPair h2' TO u' v':=by
   show h2'.get? TO=_
   rw[sb.2 TO D.TOz]
   exact o2
  have tp:h2'.get? s.heap.objs.size=some { cls :=.type "tuple",data :=.seq #[u',v'] }:=by rw[sb.2 _ (zj ez)];exact o5
  refine ⟨.ref s.heap.objs.size,upd H s.heap.objs.size (.tup [u,v]),I.nE (ch:=[z,TI,TO,i1,i2]) f kp2 (λe he =>?_) (xC _) ?_,rfl,⟨s.heap.objs.size,u,v,I.hok.fresh (xC _),rfl,rfl,λzs hy =>?_,λzs hy =>?_⟩,⟨e2,jI,⟨_,_,jO⟩,j1,j2⟩,λe he =>?_⟩
  ·have he':e=z\/e=TI\/e=TO\/e=i1\/e=i2:=by simpa using he
   rcases he' with q | q | q | q | q
   ·rw[q];exact ⟨_,e2⟩
   ·rw[q];exact ⟨_,jI⟩
   ·rw[q];exact ⟨_,jO⟩
   ·rw[q];obtain ⟨o,ho,_⟩:=j1.obj;exact ⟨o,ho⟩
   ·rw[q];obtain ⟨o,ho,_⟩:=j2.obj;exact ⟨o,ho⟩
  ·refine ⟨(by show 2<=xG;decide),[u',v'],.cons ru (.cons rv .nil),_,tp,⟨rfl,rfl⟩,_,rfl⟩
  ·rw[SqB.inj I hy ha];exact hu
  ·rw[SqB.inj I hy hb];exact hv
  ·rw[ak (lt e he)];exact (f e he).1
 done:=λX eP eW eK hcalm i pins s σ H E I f ⟨hz,hI,⟨x,y,hO⟩,h1,h2⟩ stop=>by
  subst eP eW eK
  obtain ⟨xs,ys,ha,hb,hl⟩:=stop
  obtain ⟨its,r,pl⟩:=SqB.row I ha
  obtain ⟨jts,r',pl'⟩:=SqB.row I hb
  have l:=r.length
  have l':=r'.length
  refine iF (I.ok.hd hcalm) D hz hI hO h1 h2 pl pl' (hl.imp (λ_=>by rw[Ar];exact Co.mpr (by omega)) (λ_=>by rw[Ar];exact Co.mpr (by omega))) λh' ex=>⟨rfl,?_⟩
  exact I.pT (ch:=[z,TI,TO,i1,i2]) (h':=h') (t':=s.toks) f λe o he eb=>ex e o (λq=>he (by simp[q])) (λq=>he (by simp[q])) (λq=>he (by simp[q])) (λq=>he (by simp[q])) eb
 self:=λA i s Q E ⟨hz,_⟩ q=>wpAny_pyIter_zip hz q
def w6 (K:xx)(c d:Bool)(ta:TA):TI:=λσ H R=>ta σ H λvs H1=>∃a b,vs=[.ref a,.ref b]/\(∃xs,SqB K c H1 a xs)/\(∃ys,SqB K d H1 b ys)/\R (ItZ K c d a b) H1
theorem iK {X:Cx}(c d:Bool){a b:Expr}{ta:TA}{p pos pos':Pos}{elts:List Expr}{k:Nat}(hg:Gl X "zip")(hm:X.mg "zip" = none)(ha:PA X [a,b] ta)(hs:yA [a,b] X.env=[(false,eval a X.env),(false,eval b X.env)]:=by rfl)(hs2:yA [b] X.env=[(false,eval b X.env)]:=by rfl) :
  PI X (.Tuple elts k pos') (.Call (.Name "zip" p) [a,b] [] pos) (w6 X.K c d ta):=by
 intro pins s σ H R I h
 refine Call_ (dJ I hg hm boot_zip (AR (thn (ha pos pins s σ H _ I h) λus s1 ⟨vs,H1,I1,r1,q1⟩ =>?_) (by rw[hs,hs2]) (by rw[hs2];rfl)))
 obtain ⟨l1,l2,e,⟨xs,hx⟩,⟨ys,hy⟩,q⟩:=q1
 subst e
 cases r1 with
 | cons r rr =>
  cases rr with
  | cons r' rr =>
   cases rr
   cases r
   cases r'
   have fp:∀b∈[s1.heap.objs.size+4,s1.heap.objs.size+2,s1.heap.objs.size+3,s1.heap.objs.size,s1.heap.objs.size+1],gW X pins H1 b:=λb hb=>by
    have ge:s1.heap.objs.size<=b:=by
     simp at hb
     omega
    exact I1.qq ge (I1.hok.fresh ge)
   obtain ⟨its,rv,pl⟩:=SqB.row I1 hx
   obtain ⟨jts,rv',pl'⟩:=SqB.row I1 hy
   have D:=vR _ _ _ pl.lt pl'.lt
   refine pV pl pl' λh' hz hI hO h1 h2 kp =>?_
   have T:=pW (P:=X.prog) (w:=X.w) (K:=X.K) (elts:=elts) (k:=k) (pos:=pos') c d l1 l2 _ _ _ _ _ D
   refine T.self _ 0 _ _ _ ⟨hz,hI,⟨_,_,hO⟩,h1,h2⟩ ?_
   exact ⟨_,_,_,_,H1,rfl,I1.kept (t':=s1.toks) kp,T,⟨hz,hI,⟨_,_,hO⟩,h1,h2⟩,fp,q⟩
theorem mF {K:xx}{c d:Bool}{a b:Addr}{xs ys:List V}{g:TG}{tb:TS}{D:Ends}{σ:St}{H:Hp}(n:Nat)(n1:n<=xs.length)(n2:n<=ys.length)(n3:n=xs.length\/n=ys.length)(Pv:Nat->St->Hp->Prop)(h0:Pv 0 σ H)(hl:∀i σ H,i<=n->Pv i σ H->SqB K c H a xs/\SqB K d H b ys)
  (hs:∀i x y σ H T,xs[i]? = some x->ys[i]? = some y->H T=none->Pv i σ H->g (.ref T) σ (upd H T (.tup [x,y])) λσ2 H2=>tb { D with nx:=Pv (i+1),ct:=Pv (i+1),bk:=D.nx } σ2 H2) (hd:∀σ H,Pv n σ H->D.nx σ H):ForW (ItZ K c d a b) g tb D σ H:=by
 refine ⟨λi m σ H=>m=n-i/\i<=n/\Pv i σ H,⟨n,by simp,yE _,h0⟩,?_⟩
 rintro i m σ H ⟨rfl,hi,p⟩
 obtain ⟨q1,q2⟩:=hl i σ H hi p
 by_cases hlt:i<n
 ·refine .inr ⟨⟨xs,ys,xs[i]'(by omega),ys[i]'(by omega),q1,q2,by simp[show i<xs.length by omega],by simp[show i<ys.length by omega]⟩,Pv (i+1),λσ' H' p'=>⟨n-(i+1),by omega,rfl,hlt,p'⟩,λx H' y =>?_⟩
  obtain ⟨T,u,v,hT,ex,eH,hu,hv⟩:=y
  subst ex eH
  exact hs i u v σ H T (hu xs q1) (hv ys q2) hT p
 ·have e:i=n:=by omega
  subst e
  exact .inl ⟨⟨xs,ys,q1,q2,n3.elim (λz =>.inl (by omega)) (λz =>.inr (by omega))⟩,hd σ H p⟩
theorem uI {K:xx}{c d:Bool}{a b:Addr}{xs ys:List V}{k l:Nat}{tc:TT}{te:TE}{τ:St}{H:Hp}{Q:VK}(n:Nat)(n1:n<=xs.length)(n2:n<=ys.length)(n3:n=xs.length\/n=ys.length)(Pv:Nat->List V->Hp->Prop)(hkl:k≠l)(h0:Pv 0 [] H)(hz:n<=xG)
  (hl:∀i zs H,i<=n->Pv i zs H->SqB K c H a xs/\SqB K d H b ys)
  (hs:∀i x y zs H T,xs[i]? = some x->ys[i]? = some y->zs.length<=i->H T=none->Pv i zs H->wV k l tc te τ Pv i x y zs (upd H T (.tup [x,y])))
  (hd:∀zs H,zs.length<=n->Pv n zs H->∀r,H r=none->Q (.ref r) (upd H r (.lst zs))):jh (ItZ K c d a b) (uC K k l) tc te τ Q H:=by
 refine ⟨λi m σ zs H=>m=n-i/\i<=n/\(∀a b,(σ.set k (some a)).set l (some b)=(τ.set k (some a)).set l (some b))/\zs.length<=i/\Pv i zs H,⟨n,by simp,yE _,λ_ _=>rfl,xC _,h0⟩,?_⟩
 rintro i m σ zs H ⟨rfl,hi,hτ,hy,pv⟩
 obtain ⟨q1,q2⟩:=hl i zs H hi pv
 by_cases hlt:i<n
 ·refine .inr ⟨⟨xs,ys,xs[i]'(by omega),ys[i]'(by omega),q1,q2,by simp[show i<xs.length by omega],by simp[show i<ys.length by omega]⟩,λx H' y =>?_⟩
  obtain ⟨T,u,v,hT,ex,eH,hu,hv⟩:=y
  subst ex eH
  refine ⟨T,_,rfl,SqT.of af,rfl,_,_,rfl,_,_,rfl,rfl,?_⟩
  rw[hτ]
  have hσ:∀a b,((((τ.set k (some u)).set l (some v)).set k (some a)).set l (some b))=(τ.set k (some a)).set l (some b):=λa b=>by
   rw[List.set_comm _ _ (zj hkl),Cc,Cc]
  refine hs i u v zs _ T (hu xs q1) (hv ys q2) hy hT pv _ _ (λy4 H4 p4=>⟨by omega,n-(i+1),by omega,rfl,hlt,hσ,by rw[xM,y6];omega,p4⟩) λH3 p3=>⟨n-(i+1),by omega,rfl,hlt,hσ,by omega,p3⟩
 ·have e:i=n:=by omega
  subst e
  exact .inl ⟨⟨xs,ys,q1,q2,n3.elim (λz =>.inl (by omega)) (λz =>.inr (by omega))⟩,by omega,hd zs H hy pv⟩
open PySem PySem.Spec PyProof.Rows
section
variable  {X:Cx}
theorem hJ (hc:X.calm=true):cc X (.builtin "min") (λxs H Q=>∃(a:Addr) (ns:List Int),xs=[.ref a]/\SqL X.K H a (ns.map V.int)/\ns≠[]/\∀M:Int,M∈ns->(∀b∈ns,M<=b)->Q (.int M) H):=by
 intro pins s σ H xs us Q I r h
 obtain ⟨a,ns,rfl,hS,hne,q⟩:=h
 obtain ⟨u,rfl,ru⟩:=vals1 r
 cases (show u=xV a from ru)
 obtain ⟨its,r1,p1,_⟩:=I.list hS
 obtain ⟨ps,e2,e3⟩:=eY (intsAre_of r1)
 have ei:its.toArray=D8 ps.toArray:=by rw[e2];simp[D8]
 have hl:s.heap.IsList a (D8 ps.toArray):=by rw[<- ei];exact p1.isList
 have hz:ps.toArray.size=ns.length:=by rw[xA, <- e3,xt]
 have hp:0<ns.length:=AI.mpr hne
 have ht:ps.toArray.toList.map (·.1)=ns:=e3
 refine min_intList (I.ok.hd hc) hl (by omega) λv h' tk hv k =>?_
 rw[hz] at hv
 obtain ⟨t,rfl⟩:=intItems_at hv
 obtain ⟨h1,h2⟩:=argBest_lt (numAt ps.toArray) (ns.length-1)
 refine ⟨.int _,H,I.kept k,⟨_,rfl⟩,q _ ?_ λb hb =>?_⟩
 ·rw[EH,ht];exact vP (by omega)
 ·obtain ⟨j,hj,rfl⟩:=vQ hb
  have:=h2 j (by omega)
  rw[EH,EH,ht] at this
  rw[EH,ht]
  exact this
def EqS (K:xx)(H:Hp):Nat->V->V->Prop
 | 0,x,y=>(∃i,x = .int i/\y = .int i)\/(∃i,x = .str i/\y = .str i)\/∃a,x = .ref a/\y = .ref a
 | n+1,x,y=>(∃i,x = .int i/\y = .int i)\/(∃i,x = .str i/\y = .str i)\/(∃a,x = .ref a/\y = .ref a)\/∃a b xs ys,x = .ref a/\y = .ref b/\((SqT K H a xs/\SqT K H b ys)\/(SqL K H a xs/\SqL K H b ys))/\Paired (EqS K H n) xs ys
theorem hU {K:xx}{H:Hp}{n:Nat}{s:xy}{A:yy}{xs ys:List V}{us vs:List xw}(p:Paired (EqS K H n) xs ys)(r1:Vals xs us)(r2:Vals ys vs)
  (ih:∀x y u v,EqS K H n x y->RelV x u->RelV y v->AE A s u v true):∀j (h1:j<us.toArray.size) (h2:j<vs.toArray.size),AE A s us.toArray[j] vs.toArray[j] true:=λj h1 h2=>by
 rw[xA] at h1 h2
 have l1:=r1.length
 have l2:=r2.length
 have e1:xs[j]? = some xs[j]:=xP (by omega)
 have e2:ys[j]? = some ys[j]:=xP (by omega)
 obtain ⟨u,g1,q1⟩:=r1.get e1
 obtain ⟨v,g2,q2⟩:=r2.get e2
 have f1:us.toArray[j]=u:=by simp[xB] at g1;obtain ⟨_,g⟩:=g1;simpa using g
 have f2:vs.toArray[j]=v:=by simp[xB] at g2;obtain ⟨_,g⟩:=g2;simpa using g
 rw[f1,f2]
 exact ih _ _ u v (kB p e1 e2) q1 q2
theorem gz {A:yy}{s:xy}{x y:V}{u v:xw}(h:(∃i,x = .int i/\y = .int i)\/(∃i,x = .str i/\y = .str i)\/∃a,x = .ref a/\y = .ref a)(ru:RelV x u)(rv:RelV y v):AE A s u v true:=by
 rcases h with ⟨i,rfl,rfl⟩ | ⟨i,rfl,rfl⟩ | ⟨a,rfl,rfl⟩
 ·obtain ⟨t,rfl⟩:=(show ∃t,u=Ab i t from ru)
  obtain ⟨t',rfl⟩:=(show ∃t,v=Ab i t from rv)
  have:=Ap (A:=A) (s:=s) i t i t'
  rw[beq_self_eq_true] at this
  exact this
 ·obtain ⟨t,rfl⟩:=(show ∃t,u=Value.str i t from ru)
  obtain ⟨t',rfl⟩:=(show ∃t,v=Value.str i t from rv)
  have:=Dv (A:=A) (s:=s) i t i t'
  rw[show (i == i)=true by simp] at this
  exact this
 ·cases (show u=xV a from ru)
  cases (show v=xV a from rv)
  exact B1 _
theorem rk {pins:List (Addr×Obj)}{σ:St}{H:Hp}{s:xy}(I:Inv X pins σ H s):∀(n:Nat) (A:yy) (x y:V) (u v:xw),A.units+n<cLine->EqS X.K H n x y->RelV x u->RelV y v->AE A s u v true
 | 0,A,x,y,u,v,_,h,ru,rv=>gz h ru rv
 | n+1,A,x,y,u,v,hA,h,ru,rv=>by
  rcases h with h | h | h | ⟨a,b,xs,ys,rfl,rfl,hs,p⟩
  ·exact gz (.inl h) ru rv
  ·exact gz (.inr (.inl h)) ru rv
  ·exact gz (.inr (.inr h)) ru rv
  ·cases (show u=xV a from ru)
   cases (show v=xV b from rv)
   by_cases hab:a=b
   ·subst hab;exact B1 _
   refine Dz hab ?_
   have ih:∀x y u v,EqS X.K H n x y->RelV x u->RelV y v->AE A.in1 s u v true:=λx y u v h1 h2 h3=>rk I n A.in1 x y u v (by show A.units+1+n<cLine;omega) h1 h2 h3
   have pl:=AF p
   rcases hs with ⟨h1,h2⟩ | ⟨h1,h2⟩
   ·obtain ⟨its,r1,p1,_⟩:=I.tuple h1
    obtain ⟨its2,r2,p2,_⟩:=I.tuple h2
    have q:=Cv (e:=λ_=>true) (show s.heap.IsTuple a its.toArray from p1) (show s.heap.IsTuple b its2.toArray from p2) (by omega) (hU p r1 r2 ih)
    have ez:its.toArray.size=its2.toArray.size:=by rw[xA,xA, <- r1.length, <- r2.length,pl]
    rw[all_true,ez,beq_self_eq_true] at q
    exact q
   ·obtain ⟨its,r1,p1,_⟩:=I.list h1
    obtain ⟨its2,r2,p2,_⟩:=I.list h2
    have q:=D5 (e:=λ_=>true) p1.isList p2.isList (by rw[xA,xA, <- r1.length, <- r2.length,pl]) (by omega) (hU p r1 r2 ih)
    rw[all_true] at q
    exact q
theorem tW {k:Nat}(hr:bY k X.A):OpR X (Aa .NotEq) (λx y H Q=>∃a b xs ys,x = .ref a/\y = .ref b/\SqT X.K H a xs/\SqT X.K H b ys/\Paired (EqS X.K H 20) xs ys/\Q (.bl false) H):=by
 intro pins s σ H x y v u Q I rx ry h
 obtain ⟨a,b,xs,ys,rfl,rfl,h1,h2,p,q⟩:=h
 cases (show v=xV a from rx)
 cases (show u=xV b from ry)
 obtain ⟨its,r1,p1,_⟩:=I.tuple h1
 obtain ⟨its2,r2,p2,_⟩:=I.tuple h2
 have l1:=r1.length
 have l2:=r2.length
 have pl:=AF p
 have hu:=hr.un
 have hu1:X.A.units<cLine:=by omega
 have R:=SeqAt.RcNeAt.tuples (A:=X.A) (e:=λ_=>true) (show s.heap.IsTuple a its.toArray from p1) (show s.heap.IsTuple b its2.toArray from p2) hu1 (hU p r1 r2 λx y u v h1 h2 h3=>rk I 20 _ x y u v (by show X.A.units+1+_<cLine;omega) h1 h2 h3)
 rw[xA,xA, <- l1, <- l2,pl,Cd,beq_self_eq_true,all_true] at R
 exact R _ _ _ _ ⟨.bl false,H,I,rfl,q⟩
end
end L2
namespace L2.RvT
open PySem PyProof.Rows
open Sem (wp)
section
variable  {prog:xX}{w:yv}{A:yy}{E:xw->xy->Prop}{s:xy}
end
section
variable  {prog:xX}{w:yv}{A:yy}{E:xw->xy->Prop}{s:xy}
end
end L2.RvT
namespace L2
open PySem PySem.Spec PyProof.Rows
section
variable  {X:Cx}
theorem rm:OpR X (binaryOp .Add) (λx y H Q=>∃a b xs ys,x = .ref a/\y = .ref b/\H a=some (.tup xs)/\H b=some (.tup ys)/\xs.length+ys.length<=xG/\∀p H',az H H'->H' p=some (.tup (xs++ys))->Q (.ref p) H'):=by
 intro pins s σ H x y v u Q I rx ry h
 obtain ⟨a,b,xs,ys,rfl,rfl,ha,hb,hz,q⟩:=h
 exact mD pins s σ H _ _ v u Q I rx ry (js.one ha hb hz q)
end
end L2
namespace Srt
open PySem PyProof.Rows
def vS (rv:Bool)(kz:List Int)(vs out:List xw):Prop:=∃ps:List (Int×xw),ps.Perm (kz.zip vs)/\out=ps.map Prod.snd/\ps.Pairwise (λp q=>if rv=true then q.1<=p.1 else p.1<=q.1)
def gB {α:Type}(rv:Bool)(l:List α):List α:=if rv=true then l.reverse else l
section
variable  {prog:xX}{w:yv}{A:yy}{E:xw->xy->Prop}{s:xy}
theorem rn {h6:xy}:Cmp prog w A h6 jm (λp:xY=>intOf p.1) (λp=>∃i t,p.1 = .int i t) oneType':=by
 refine ⟨λE st x y Q hk hx hy q =>?_⟩
 obtain ⟨i,t,e1⟩:=hx
 obtain ⟨j,u,e2⟩:=hy
 rw[lt'_eq]
 refine xQ (BN ?_)
 rw[hk,Dh,e1,e2]
 refine xQ (BW (zR (oneLt_int ⟨rfl,?_⟩)))
 refine x3 ?_
 have q':Q (some (decide (intOf x.1<intOf y.1))) st:=q
 rw[e1,e2] at q'
 exact q'
theorem tX {rv:Bool}{keys vs:List xw}{kz:List Int}(hk:zJ keys kz){xs:List xY}(hp:xs.Perm (keys.zip vs))(hs:xs.Pairwise λp q=>jm.kle (intOf p.1) (intOf q.1)):vS rv kz vs (gB rv (xs.map (·.2))):=by
 have e:(keys.zip vs).map (λp:xY=>(intOf p.1,p.2))=kz.zip vs:=by
  rw[<- ints_map hk,List.zip_map_left]
  exact Ah λ⟨x,y⟩ _=>rfl
 have pm:(xs.map λp:xY=>(intOf p.1,p.2)).Perm (kz.zip vs):=e ▸ hp.map _
 have em:xs.map (·.2)=(xs.map λp:xY=>(intOf p.1,p.2)).map Prod.snd:=by rw[yt];rfl
 have pw:(xs.map λp:xY=>(intOf p.1,p.2)).Pairwise λp q=>p.1<=q.1:=by
  rw[yG]
  refine hs.imp λ{p q} le =>?_
  have:=of_decide_eq_false (show decide (intOf q.1<intOf p.1)=false from le)
  show intOf p.1<=intOf q.1
  omega
 rw[em]
 generalize (xs.map λp:xY=>(intOf p.1,p.2))=ps at pm pw
 cases rv with
 | false=>exact ⟨ps,pm,rfl,pw.imp λh=>by rw[if_neg xN];exact h⟩
 | true=>exact ⟨ps.reverse,(DM ps).trans pm,by rw[List.map_reverse];rfl,List.pairwise_reverse.mpr (pw.imp λh=>by rw[if_pos rfl];exact h)⟩
theorem rp {rv:Bool}{a:Addr}{f:xw}{vs:List xw}{kz:List Int}{n:Nat}{P:PySem.Fin->xy->Prop}(ho:s.heap.get? a=some (seqObj "list" vs.toArray n))(hz:vs.length<=xG)(hlen:kz.length=vs.length)
  (turn:∀(i:Nat) (v:xw) (k:Int),vs[i]? = some v->kz[i]? = some k->∀(h:Heap) (tk:Nat),(∀b o,b≠a->s.heap.get? b=some o->h.get? b=some o)->∀(Q:xw->xy->Prop) (E:xw->xy->Prop),(∀t tk',Q (.int k t) { s with heap:=h,toks:=tk' })->x8 (x9 prog w) A (call f [v]) Q E { s with heap:=h,toks:=tk })
  (h:∀(h':Heap) (tk:Nat) (out:List xw) (c:Nat),(∀b o,b≠a->s.heap.get? b=some o->h'.get? b=some o)->h'.get? a=some (seqObj "list" out.toArray c)->vS rv kz vs out->P (.done (.ret .none)) { s with heap:=h',toks:=tk }) :
  x8 (x9 prog w) A (ksk_tree a f rv) P E s:=by
 have ha:a<s.heap.objs.size:=xE ho
 unfold ksk_tree
 refine xu (BG ho rfl (xu (Au ho rfl ?_ (by rw[xA];exact hz) (yE _))))
 obtain ⟨e1,ho1⟩:∃e1,(s.heap.update a (yk λ_=>(#[]:Array xw))).get? a=some (seqObj "list" #[] e1):=⟨_,Bs ho λ_ => #[]⟩
 refine xu (Dp ho1 rfl (xu (Dg ?_ (by exact hz))))
 refine xu (Bt ?_ (yE _))
 refine zG ?_
 obtain ⟨kS,ekS⟩:∃kS,kS=((s.heap.update a (yk λ_=>(#[]:Array xw))).push (seqObj "tuple" vs.toArray 0)).objs.size:=⟨_,rfl⟩
 have hkS:kS=s.heap.objs.size+1:=by rw[ekS,DP,D1]
 have hka:kS≠a:=by rw[hkS];exact zS (zy ha)
 show x8 _ _ (ksk_rest a f rv vs.toArray e1 (.ref ((s.heap.update a (yk λ_=>(#[]:Array xw))).push (seqObj "tuple" vs.toArray 0)).objs.size)) _ _ { s with heap:=((s.heap.update a (yk λ_=>(#[]:Array xw))).push (seqObj "tuple" vs.toArray 0)).push (seqObj "list" #[] 0) }
 rw[<- ekS]
 have g0:(((s.heap.update a (yk λ_=>(#[]:Array xw))).push (seqObj "tuple" vs.toArray 0)).push (seqObj "list" #[] 0)).get? kS=some (seqObj "list" #[] 0):=by rw[ekS];exact xF _ rfl
 have a0:(((s.heap.update a (yk λ_=>(#[]:Array xw))).push (seqObj "tuple" vs.toArray 0)).push (seqObj "list" #[] 0)).get? a=some (seqObj "list" #[] e1):=xv _ (xv _ ho1)
 have k0:∀b o,b≠a->s.heap.get? b=some o->(((s.heap.update a (yk λ_=>(#[]:Array xw))).push (seqObj "tuple" vs.toArray 0)).push (seqObj "list" #[] 0)).get? b=some o:=λb o nb e=>by
  refine xv _ (xv _ ?_)
  rw[zw _ _ _ _ nb]
  exact e
 have old:∀b o,s.heap.get? b=some o->b≠kS:=λb o e=>by rw[hkS];exact x5 (zy (xE e))
 generalize ((s.heap.update a (yk λ_=>(#[]:Array xw))).push (seqObj "tuple" vs.toArray 0)).push (seqObj "list" #[] 0)=h6 at g0 a0 k0
 unfold ksk_rest
 refine xu (AN ?_)
 rw[<- Array.forIn_toList];simp only[List.toList_toArray]
 refine xu (ksk_fold (λi s'=>∃(h':Heap) (tk:Nat) (kA:Array xw) (e:Nat),s'={ s with heap:=h',toks:=tk }/\(∀b o,b≠a->s.heap.get? b=some o->h'.get? b=some o)/\h'.get? kS=some (seqObj "list" kA e)/\h'.get? a=some (seqObj "list" #[] e1)/\zJ kA.toList (kz.take i)) vs 0 _
  ⟨h6,s.toks, #[],0,rfl,k0,g0,a0,by simpa using IntsAre.nil⟩ ?step ?done)
 case step =>
  rintro j x s' hx ⟨h',tk,kA,e,rfl,kp,gk,ga,hk⟩
  simp only[Bg] at hk ⊢
  have hj:j<vs.length:=(xB.mp hx).1
  obtain ⟨k,hkj⟩:∃k,kz[j]? = some k:=⟨_,xP (by omega)⟩
  have hzk:kA.size=j:=by
   have h1:=hk.length
   rw[xK,yw] at h1
   omega
  refine xu (zR (turn j x k hx hkj h' tk kp _ _ λt tk' =>?_))
  try dsimp only
  obtain ⟨c2,hc2⟩:∃c2,(h'.update kS (yk (·.push (.int k t)))).get? kS=some (seqObj "list" (kA.push (.int k t)) c2):=⟨_,Bs gk (·.push (.int k t))⟩
  have ek:kz.take (j+1)=kz.take j++[k]:=by rw[ye,hkj];simp
  have ea:(kA.push (Ab k t)).toList=kA.toList++[Ab k t]:=by simp
  refine xu (Au gk rfl ?_ (by omega) (yf (Nat.le_of_eq (zW ..)) (by omega)))
  refine xJ ⟨rfl,_,_,kA.push (.int k t),c2,rfl,λb o nb eb =>?_,hc2,?_,by rw[ea,ek];exact ksk_snoc hk⟩
  ·rw[zw _ _ _ _ (old b o eb)]
   exact kp b o nb eb
  ·rw[zw _ _ _ _ (zj hka)]
   exact ga
 case done =>
  rintro s' ⟨h',tk,kA,e,rfl,kp,gk,ga,hk⟩
  have hk':zJ kA.toList kz:=by
   have e3:kz.take (0+vs.length)=kz:=xW (by omega)
   rw[e3] at hk
   exact hk
  have hsz:kA.size=vs.length:=by
   have h1:=hk'.length
   rw[xK] at h1
   omega
  try dsimp only
  refine xu (BG gk rfl ?_)
  have zl:(kA.zip vs.toArray).toList=kA.toList.zip vs:=ksk_zip _ _
  have up:∀p∈(kA.toList.zip vs:List xY),∃i t,p.1 = .int i t:=λp hp=>eX hk' _ (AS hp).1
  have lz:(kA.toList.zip vs:List xY).length=vs.length:=by rw[AA,xK,hsz,Cd]
  have tl:∀st':yl,(x4 st').toList.Perm (kA.toList.zip vs)->(x4 st').toList.Pairwise (λp q=>jm.kle (intOf p.1) (intOf q.1))->failedOf st'=none->x8 (x9 prog w) A (ksk_tail a rv e1 (.ref kS) st') P E { s with heap:=h',toks:=tk }:=by
   intro st' pm ps hf
   have em:(if rv=true then ((x4 st').map (·.2)).reverse else (x4 st').map (·.2))=(gB rv ((x4 st').toList.map (·.2))).toArray:=by
    unfold gB
    apply CJ.mp
    cases rv <;> simp
   have sa:(x4 st').size=vs.length:=by rw[<- xK,pm.length_eq,lz]
   have ga1:(h'.update kS (yk λ_=>(#[]:Array xw))).get? a=some (seqObj "list" #[] e1):=by rw[zw _ _ _ _ (zj hka)];exact ga
   unfold ksk_tail
   try dsimp only
   refine xu (Au gk rfl ?_ (by rw[hsz];exact hz) (yE _));refine xu (A1 ?_)
   refine xu (Dp ga1 rfl ?_);refine xu (Au ga1 rfl ?_ (yE _) (by rw[em,xA];unfold gB;cases rv <;> simp[sa] <;> omega))
   rw[hf];simp only[bne_self_eq_false,zp,if_false]
   rw[em]
   obtain ⟨c2,hc2⟩:∃c2,((h'.update kS (yk λ_=>(#[]:Array xw))).update a (yk λ_=>(gB rv ((x4 st').toList.map (·.2))).toArray)).get? a=some (seqObj "list" (gB rv ((x4 st').toList.map (·.2))).toArray c2):=⟨_,Bs ga1 λ_=>(gB rv ((x4 st').toList.map (·.2))).toArray⟩
   refine xJ (h _ _ _ c2 (λb o nb eb =>?_) hc2 (tX hk' pm ps))
   rw[zw _ _ _ _ nb,zw _ _ _ _ (old b o eb)]
   exact kp b o nb eb
  have rz:∀l:List xY,(gB rv l).Perm l:=λl=>by
   unfold gB
   by_cases c:rv=true
   ·rw[if_pos c];exact DM l
   ·rw[if_neg c]
  have zr:(if rv=true then (kA.zip vs.toArray).reverse else kA.zip vs.toArray).toList=gB rv (kA.toList.zip vs):=by unfold gB;cases rv <;> simp[zl]
  have go:∀m:Sem PySem.Fin,x8 (x9 prog w) A m P E { s with heap:=h',toks:=tk }->x8 (x9 prog w) A (if rv=true then rule "list.sort.reverse" >>= λ_=>m else m) P E { s with heap:=h',toks:=tk }:=λm hm=>by
   cases rv with
   | false=>rw[if_neg xN];exact hm
   | true=>rw[if_pos rfl];exact xu (AN hm)
  unfold ksk_end
  try dsimp only
  refine go _ ?_
  by_cases h2:vs.toArray.size<2
  ·rw[if_pos h2,if_pos h2]
   refine xu (xJ ?_)
   rw[Ec]
   refine xu (xJ ?_)
   refine tl (SortSt.mk' general' (if rv=true then (kA.zip vs.toArray).reverse else kA.zip vs.toArray) #[] 7 none) ?_ ?_ rfl
   ·show (if rv=true then (kA.zip vs.toArray).reverse else kA.zip vs.toArray).toList.Perm _
    rw[zr];exact rz _
   ·show (if rv=true then (kA.zip vs.toArray).reverse else kA.zip vs.toArray).toList.Pairwise _
    rw[zr]
    rw[xA] at h2
    have l2:(gB rv (kA.toList.zip vs):List xY).length<2:=by rw[(rz _).length_eq];omega
    generalize (gB rv (kA.toList.zip vs):List xY)=l at l2
    match l,l2 with
    | [],_=>exact List.Pairwise.nil
    | [v],_=>exact yR _ _
    | _ :: _ :: _,hu=>simp only[yo] at hu;omega
  ·rw[if_neg h2,if_neg h2]
   rw[xA] at h2
   rw[ksk_kind hk' (by rw[hsz];omega)]
   refine xu (xJ ?_)
   refine xu (zk (mw (rn (h6:={ s with heap:=h',toks:=tk })) (E:=E) (a0:=gB rv (kA.toList.zip vs)) (st:=SortSt.mk' oneType' (if rv=true then (kA.zip vs.toArray).reverse else kA.zip vs.toArray) #[] 7 none)
    (Q:=λ_ st'=>(x4 st').toList.Perm (kA.toList.zip vs)/\(x4 st').toList.Pairwise (Le (O:=jm) λ(p:xY)=>intOf p.1)/\failedOf st'=none)
    (λp hp=>up p ((rz _).mem_iff.mp hp)) zr rfl rfl rfl (by rw[(rz _).length_eq,lz];omega) λst' a1 a2 a3=>⟨a1.trans (rz _),a2,a3⟩) ?_ λ_ _ e=>e)
   rintro ⟨⟨⟩,st'⟩ s' ⟨rfl,hp,hs,hf⟩
   exact tl st' hp hs hf
theorem fX {rv:Bool}{v f:xw}{vs:List xw}{kz:List Int}{kw:List (Str×xw)}{Q:xw->xy->Prop}(hv:jl prog w s v vs)(hz:vs.length<=xG)(hlen:kz.length=vs.length)
  (ha1:argsOk "sorted" ⟨[v],kw⟩) (ha2:∀x,argsOk "list.sort" ⟨[.ref x],kw⟩) (ht:∀x,Builtin.«list.sort» ⟨[.ref x],kw⟩=ksk_tree x f rv)
  (turn:∀(i:Nat) (u:xw) (k:Int),vs[i]? = some u->kz[i]? = some k->∀(A:yy) (h:Heap) (tk:Nat),(∀b o,s.heap.get? b=some o->h.get? b=some o)->∀(Q:xw->xy->Prop) (E:xw->xy->Prop),(∀t tk',Q (.int k t) { s with heap:=h,toks:=tk' })->x8 (x9 prog w) A (call f [u]) Q E { s with heap:=h,toks:=tk })
  (h:∀(h':Heap) (tk:Nat) (p:Addr) (out:List xw) (n:Nat),(∀b o,s.heap.get? b=some o->h'.get? b=some o)->s.heap.objs.size<=p->h'.get? p=some (seqObj "list" out.toArray n)->vS rv kz vs out->Q (.ref p) { s with heap:=h',toks:=tk }) :
  x8 (x9 prog w) A (call (.builtin "sorted") [v] kw) Q E s:=by
 refine call_function_entry_kw Ej DU DV ha1 ?_
 unfold Builtin.«sorted»
 refine xu (m:=checkCount "sorted" 1 1 _) (xJ ?_)
 refine xu (hv _ _ _ λh1 k1 z1=>xu (Bt ?_ hz))
 have hoL:(h1.push (seqObj "list" vs.toArray 0)).get? h1.objs.size=some (seqObj "list" vs.toArray 0):=xF _ rfl
 have kL:∀b o,s.heap.get? b=some o->(h1.push (seqObj "list" vs.toArray 0)).get? b=some o:=λb o e=>xv _ (k1 b o e)
 have ne:∀b o,s.heap.get? b=some o->b≠h1.objs.size:=λb o e=>x5 (xZ (xE e) z1)
 refine xu (zG (wpAny_call_entry_kw slot_list_sort ⟨_,hoL,rfl⟩ entry_list_sort ?body (ha2 _)))
 case body =>
  show x8 (x9 prog w) _ (Builtin.«list.sort» ⟨[.ref h1.objs.size],kw⟩) _ _ _
  rw[ht]
  refine rp (s:={ s with heap:=h1.push (seqObj "list" vs.toArray 0) }) hoL hz hlen (λi u k hu hk hp tk kp Q E q =>?_) λh' tk out c kp ga ko=>⟨_,rfl,?_⟩
  ·exact turn i u k hu hk _ hp tk (λb o e=>kp b o (ne b o e) (kL b o e)) Q E q
  ·exact xJ ⟨_,rfl,h h' tk _ out c (λb o e=>kp b o (ne b o e) (kL b o e)) z1 ga ko⟩
end
end Srt
namespace L2
open PySem PySem.Spec PyProof.Rows
section
variable  {X:Cx}
def rq (K:xx)(te:TE):TE:=λσ H Q=>te σ H λx H1=>∃(p:Addr) (ts:List (Addr×List Int)),[x]=[.ref p]/\(SqL K H1 p (ts.map λt =>.ref t.1)\/SqT K H1 p (ts.map λt =>.ref t.1))/\(∀t∈ts,SqT K H1 t.1 (t.2.map V.int)) ∧
  ∀(l:Addr) (out:List (Addr×List Int)),H1 l=none->out.Perm ts->out.Pairwise (λa b=>a.2.length<=b.2.length)->Q (.ref l) (upd H1 l (.lst (out.map λt =>.ref t.1)))
theorem jt {α β γ:Type}(f:α -> β)(g:α -> γ):∀l:List α,(l.map f).zip (l.map g)=l.map λx=>(f x,g x)
 | []=>rfl
 | x :: l=>by rw[xR,xR,Bi,jt f g l];rfl
theorem gC {e:Expr}{te:TE}{p p2 pos kpos:Pos}(hg:Gl X "sorted")(hm:X.mg "sorted" = none)(hg2:Gl X "len")(hm2:X.mg "len" = none)(hv:yN "sorted" = some (.builtin "sorted"))(he:PE X e te)
    (hs:yA (e :: []) X.env=(false,eval e X.env) :: yA [] X.env:=by rfl)
    (ha:Bh pos (yA (e :: []) X.env)=(false,eval e X.env) :: Bh pos (yA [] X.env):=by rfl)
    (hplain:(Bh pos (yA (e :: []) X.env)).any (·.1)=false:=by rfl) :
    PE X (.Call (.Name "sorted" p) [e] [⟨some "key",.Name "len" p2,kpos⟩] pos) (rq X.K te):=by
  intro pins s σ H Q I h
  refine As (dJ I hg hm hv ?_)
  refine Cw (thn ((aa he ag hs) pos pins s σ H (λvs H1=>∃(p:Addr) (ts:List (Addr×List Int)),vs=[.ref p]/\(SqL X.K H1 p (ts.map λt:Addr×List Int=>V.ref t.1)\/SqT X.K H1 p (ts.map λt:Addr×List Int=>V.ref t.1))/\(∀t∈ts,SqT X.K H1 t.1 (t.2.map V.int)) ∧
    ∀(l:Addr) (out:List (Addr×List Int)),H1 l=none->out.Perm ts->out.Pairwise (λa b:Addr×List Int=>a.2.length<=b.2.length)->Q (.ref l) (upd H1 l (.lst (out.map λt:Addr×List Int=>V.ref t.1)))) I h) λus s1 ⟨vs,H1,I1,r1,q1⟩ =>?_) ha hplain rfl rfl
  show x8 _ _ (evalAll ((do let v ← eval (.Name "len" p2) X.env;standAt pos;pure v) :: [])) _ _ s1
  refine Ci (xu (dJ I1 hg2 hm2 Eu (xu (Br (xJ (DQ ?_))))))
  show x8 _ _ (call (.builtin "sorted") us [("key",.builtin "len")]) _ _ s1
  obtain ⟨a,ts,rfl,hq,ht,q⟩:=q1
  obtain ⟨u,rfl,ru⟩:=vals1 r1
  cases (show u=xV a from ru)
  obtain ⟨its,o,n,rv,e1,c1,d1,z1⟩:=I1.jq hq
  have ei:=fH rv
  have lz:its.length<=xG:=by rw[<- rv.length];exact z1
  have li:its.length=ts.length:=by rw[ei,xt]
  refine Srt.fX (rv:=false) (f :=.builtin "len") (kz:=ts.map λt=>(t.2.length:Int)) (Srt.dW e1 c1 d1 lz) lz (by rw[xt,li]) (ksk_s1 _ _) (λx=>ksk_l1 _ _) (λx=>ksk_t4 _ _) ?turn λh' tk l out m k hl el ko =>?fin
  case turn =>
    intro i u k hu hk A h tk kp Q E q
    rw[ei,xI] at hu
    rw[xI] at hk
    cases et:ts[i]? with
    | none=>rw[et] at hu;cases hu
    | some t =>
      rw[et] at hu hk
      cases hu
      cases hk
      obtain ⟨jts,jr,⟨jo,je,jc,jn,jd⟩,jz⟩:=I1.tuple (ht t (xD et))
      have hl:=jr.length
      rw[xt] at hl jz
      have hz:=eR
      refine len_tuple (s:={ s1 with heap:=h,toks:=tk }) ⟨jo,kp _ _ je,jc,jn,jd⟩ (by simp only[xA];omega) ?_
      have e:((jts.toArray.size:Nat):Int)=(t.2.length:Int):=by rw[xA,hl]
      rw[e]
      exact q _ _
  case fin =>
    obtain ⟨ps,pm,eo,pw⟩:=ko
    rw[ei,jt] at pm
    obtain ⟨out',pm',rfl⟩:=dX pm
    have eo':out=out'.map λt=>xV t.1:=by rw[eo,yt];rfl
    subst eo'
    refine ⟨.ref l,_,I1.laid (t':=tk) (o :=.lst (out'.map λt:Addr×List Int=>V.ref t.1)) k hl ⟨(by rw[xt,pm'.length_eq, <- xt (f:=λt:Addr×List Int=>V.ref t.1)];exact z1),_,m,dE,el⟩,rfl,q l _ (I1.hok.fresh hl) pm' ?_⟩
    refine (yG.mp pw).imp λ{x y} le =>?_
    rw[if_neg xN] at le
    have:(x.2.length:Int)<=(y.2.length:Int):=le
    omega
end
open PySem PySem.Spec PyProof.Rows
section
variable  {X:Cx}
theorem kN {K:xx}(h:X.K=K:=by rfl):OpR X (binaryOp .Add) (js K):=by subst h;exact mD
end
end L2
namespace Srt
open PySem PyProof.Rows
section
variable  {prog:xX}{w:yv}{A:yy}{E:xw->xy->Prop}{s:xy}{O:BI}{key:xw->O.α}
end
def IsPair (h:Heap)(v:xw)(k:List Int×List Int):Prop:=∃p o xs n a b,v = .ref p/\h.get? p=some o/\o.cls = .type "tuple" /\ o.data = .seq xs n/\xs.toList=[.ref a,.ref b]/\aV h (.ref a) k.1/\aV h (.ref b) k.2
theorem aV.isTup {h:Heap}{a:Addr}{ns:List Int}(x:aV h (.ref a) ns):∃its:Array xw,IsTup h a its/\zJ its.toList ns:=by
 obtain ⟨p,o,xs,n,e,g,c,d,r⟩:=x
 cases e
 exact ⟨xs,⟨o,g,c,n,d⟩,r⟩
theorem pX {A:yy}{s:xy}{a b:Addr}{ns ms:List Int}(hu:A.units<cLine)(x:aV s.heap (.ref a) ns)(y:aV s.heap (.ref b) ms):AE A s (.ref a) (.ref b) (decide (ns=ms)):=by
 obtain ⟨p,o,xs,n,e,g,c,d,r⟩:=x
 cases e
 obtain ⟨p',o',xs',n',e',g',c',d',r'⟩:=y
 cases e'
 exact λprog w E Q q=>DF (knd:=intKind prog w) hu ⟨o,_,n,g,c,d,L2.fI r⟩ ⟨o',_,n',g',c',d',L2.fI r'⟩ q
section
variable  {prog:xX}{w:yv}{s:xy}
end
end Srt
namespace L2
open PySem PySem.Spec PyProof.Rows
section
variable  {X:Cx}
theorem iG {K:xx}(h:X.K=K:=by rfl):cc X (.type "tuple") (λxs H Q=>∃p ys,xs=[.ref p]/\((SqL K H p ys/\∀l,H l=none->Q (.ref l) (upd H l (.tup ys)))\/(SqT K H p ys/\Q (.ref p) H))):=by
 subst h;exact bh
end
end L2
namespace Itm
open PySem PyProof.Rows
section
variable  {prog:xX}{w:yv}{A:yy}{E:xw->xy->Prop}{s:xy}
def DE (h:Heap)(d:Addr)(es:Array DictEntry)(ep:Nat):Prop:=∃o,h.get? d=some o/\o.data = .dict es ep
def cv (a b f g:xw)(d:Addr)(i n ep:Nat):Obj:={ cls :=.type "dict_itemiterator",data :=.fields #[a,b,.ref d,.int i 0,.int n 0,.int ep 0,f,g] }
theorem made {v d:Addr}{es:Array DictEntry}{ep:Nat}{Q:xw->xy->Prop}(hv:s.heap.IsItemsView v d)(hd:DE s.heap d es ep)
  (hQ:Q (.ref s.heap.objs.size) { s with heap:=s.heap.push (cv .none (.bool false) .none .none d 0 es.size ep) }):x8 (x9 prog w) A (Builtin.«dict_items.__iter__» ⟨[.ref v],[]⟩) (λfin s'=>∃v,fin = .done (.ret v)/\Q v s') E s:=by
 obtain ⟨⟨vc,vd,vdt,vs⟩,hov,hcv,hdv⟩:=hv
 obtain ⟨⟨oc,odd,odt,os'⟩,hod,hdd⟩:=hd
 dsimp only at hcv hdv hdd
 subst hcv hdv hdd
 unfold Builtin.«dict_items.__iter__»
 wp_walk
 exact ⟨_,rfl,hQ⟩
def gE (h:Heap)(it d:Addr)(i n ep:Nat):Prop:=∃a b f g,h.get? it=some (cv a b f g d i n ep)
def Kp (h h':Heap)(it:Addr):Prop:=(∀c o,c≠it->h.get? c=some o->h'.get? c=some o)/\h'.objs.size=h.objs.size
theorem Kp.refl (h:Heap)(it:Addr):Kp h h it:=⟨λ_ _ _ e=>e,rfl⟩
theorem Kp.trans {h h1 h2:Heap}{it:Addr}(a:Kp h h1 it)(b:Kp h1 h2 it):Kp h h2 it:=⟨λc o n e=>b.1 c o n (a.1 c o n e),b.2.trans a.2⟩
theorem cM {h:Heap}{it:Addr}(F:Obj->Obj):Kp h (h.update it F) it:=⟨λc o n e=>(x6 _ _ (zj n)).trans e,by simp⟩
theorem rA {it d:Addr}{i n ep k:Nat}{x:xw}{Q:Unit->xy->Prop}(hi:gE s.heap it d i n ep)(h:∀h1,gE h1 it d i n ep->Kp s.heap h1 it->Q () { s with heap:=h1 })(hk:k=0\/k=1\/k=6\/k=7):x8 (x9 prog w) A (setField (.ref it) k x) Q E s:=by
 obtain ⟨a,b,f,g,hi⟩:=hi
 unfold cv at hi
 rcases hk with rfl | rfl | rfl | rfl
 ·wp_walk
  exact h _ ⟨x,b,f,g,yn _ hi rfl⟩ (cM _)
 ·wp_walk
  exact h _ ⟨a,x,f,g,yn _ hi rfl⟩ (cM _)
 ·wp_walk
  exact h _ ⟨a,b,x,g,yn _ hi rfl⟩ (cM _)
 ·wp_walk
  exact h _ ⟨a,b,f,x,yn _ hi rfl⟩ (cM _)
theorem setI {it d:Addr}{i n ep k:Nat}{x:xw}{Q:Unit->xy->Prop}(hi:gE s.heap it d i n ep)(h:∀h1,gE h1 it d (i+1) n ep->Kp s.heap h1 it->Q () { s with heap:=h1 })(hk:k=3)(hx:x = .int ((i:Int)+1) 0):x8 (x9 prog w) A (setField (.ref it) k x) Q E s:=by
 obtain ⟨a,b,f,g,hi⟩:=hi
 unfold cv at hi
 subst hk hx
 wp_walk
 exact h _ ⟨a,b,f,g,yn _ hi rfl⟩ (cM _)
theorem alive {a:Addr}{Q:Option Obj->xy->Prop}(h:Q (s.heap.get? a) s):x8 (x9 prog w) A (loadIfAlive a) Q E s:=by
 unfold loadIfAlive
 intro Γ p hΓ
 rw[Sem.wp_loadIfAlive]
 exact xJ (M:=x9 prog w) (A:=A) (E:=E) h Γ p hΓ
theorem next {it d:Addr}{es:Array DictEntry}{ep i:Nat}{a b f g:xw}{e:DictEntry}{Q:xw->xy->Prop}(hi:s.heap.get? it=some (cv a b f g d i es.size ep))(hd:DE s.heap d es ep)(he:es[i]? = some e)
  (hQ:∀(h':Heap) (a' b' f' g':xw) (tk:Nat),h'.get? it=some (cv a' b' f' g' d (i+1) es.size ep)->(∀c o,c≠it->s.heap.get? c=some o->h'.get? c=some o)->h'.get? s.heap.objs.size=some { cls :=.type "tuple",data :=.seq #[e.key,e.val] }->h'.objs.size=s.heap.objs.size+1->Q (.ref s.heap.objs.size) { s with heap:=h',toks:=tk }):x8 (x9 prog w) A (Builtin.«dict_itemiterator.__next__» ⟨[.ref it],[]⟩) (λfin s'=>∃v,fin = .done (.ret v)/\Q v s') E s:=by
 obtain ⟨⟨oc,odd,odt,os'⟩,hod,hdd⟩:=hd
 dsimp only at hdd
 subst hdd
 unfold cv at hi
 unfold Builtin.«dict_itemiterator.__next__»
 wp_walk
 have hI:gE s.heap it d i es.size ep:=⟨_,_,_,_,hi⟩
 rw[show (if (i:Int)<0 then none else es[(i:Int).toNat]?)=some e by rw[if_neg (by omega),yD];exact he]
 wp_walk using setI hI
 ·intro h1 H1 k1
  obtain ⟨a1,b1,f1,g1,H1⟩:=H1
  have hi2:gE (h1.push { cls :=.type "tuple",data :=.seq #[e.key,e.val] }) it d (i+1) es.size ep:=⟨_,_,_,_,xv _ H1⟩
  have fin:∀h2,gE h2 it d (i+1) es.size ep->Kp (h1.push { cls :=.type "tuple",data :=.seq #[e.key,e.val] }) h2 it->Q (.ref h1.objs.size) { s with heap:=h2 }:=λh2 I2 K2=>by
   obtain ⟨a2,b2,f2,g2,e2⟩:=I2
   have ne:h1.objs.size≠it:=zS (xE H1)
   rw[k1.2] at ne ⊢
   refine hQ h2 a2 b2 f2 g2 s.toks e2 (λc o n ec=>K2.1 c o n (xv _ (k1.1 c o n ec))) (K2.1 _ _ ne (by rw[<- k1.2];exact xF _ rfl)) ?_
   rw[K2.2, <- k1.2]
   simp
  unfold cv at H1
  wp_walk
  refine L2.thn (Q:=λc s'=>∃h2,s'={ s with heap:=h2 }/\gE h2 it d (i+1) es.size ep/\Kp (h1.push { cls :=.type "tuple",data :=.seq #[e.key,e.val] }) h2 it) ?_ λc s' q =>?_
  ·show x8 _ _ (match a1 with | .none=>_ | .int a tok=>_ | x=>_) _ _ _
   cases a1
   case none=>exact xJ ⟨_,rfl,hi2,Kp.refl _ _⟩
   case int z tok =>
    dsimp only
    refine xu (alive ?_)
    refine A2 (λ_=>xJ ⟨_,rfl,hi2,Kp.refl _ _⟩) λ_ =>?_
    wp_walk
    refine A2 (λ_=>xu (rA (s:={ s with heap:=h1.push { cls :=.type "tuple",data :=.seq #[e.key,e.val] } }) hi2 (λh3 I3 K3=>xJ ⟨h3,rfl,I3,K3⟩) (.inr (.inl rfl)))) λ_=>xJ ⟨_,rfl,hi2,Kp.refl _ _⟩
   all_goals exact xJ ⟨_,rfl,hi2,Kp.refl _ _⟩
  ·obtain ⟨h2,rfl,I2,K2⟩:=q
   cases c
   ·rw[if_neg xN]
    exact xJ (xJ ⟨_,rfl,fin h2 I2 K2⟩)
   ·obtain ⟨a2,b2,f2,g2,e2⟩:=id I2
    unfold cv at e2
    rw[if_pos rfl]
    dsimp only
    wp_walk using rA (s:={ s with heap:=h2 }) I2
    ·intro h3 I3 K3
     refine xu (rA (s:={ s with heap:=h3 }) I3 (λh4 I4 K4 =>?_) (.inr (.inr (.inr rfl))))
     refine xu (rA (s:={ s with heap:=h4 }) I4 (λh5 I5 K5 =>?_) (.inl rfl))
     refine xu (rA (s:={ s with heap:=h5 }) I5 (λh6 I6 K6 =>?_) (.inr (.inl rfl)))
     refine xu (A1 (xJ (xJ ⟨_,rfl,fin h6 I6 (K2.trans (K3.trans (K4.trans (K5.trans K6))))⟩)))
    ·exact .inr (.inr (.inl rfl))
 ·kernel_rfl
 ·kernel_rfl
theorem ended {it d:Addr}{es:Array DictEntry}{ep:Nat}{a b f g:xw}{Q:Fin->xy->Prop}(hh:A.handled=none)(hi:s.heap.get? it=some (cv a b f g d es.size es.size ep))(hd:DE s.heap d es ep)
  (hE:∀(h':Heap) (x:Addr),(∀c o,c≠it->s.heap.get? c=some o->h'.get? c=some o)->(∃o,h'.get? x=some o/\o.cls = .type "StopIteration")->E (.ref x) { s with heap:=h' }):x8 (x9 prog w) A (Builtin.«dict_itemiterator.__next__» ⟨[.ref it],[]⟩) Q E s:=by
 obtain ⟨⟨oc,odd,odt,os'⟩,hod,hdd⟩:=hd
 dsimp only at hdd
 subst hdd
 unfold cv at hi
 unfold Builtin.«dict_itemiterator.__next__»
 wp_walk
 rw[show (if (es.size:Int)<0 then none else es[(es.size:Int).toNat]?)=none by rw[if_neg (by omega),yD];exact CU (xC _)]
 wp_walk
 refine Dq hh (hE _ _ (λc o n e =>?_) ⟨_,xF _ rfl,rfl⟩)
 exact xv _ (xv _ ((x6 _ _ (zj n)).trans e))
theorem gE.ty {h:Heap}{it d:Addr}{i n ep:Nat}(x:gE h it d i n ep){g d' t os}:(⟨h,g,d',t,os⟩:xy).TypeIs (.ref it) "dict_itemiterator" := let ⟨_,_,_,_,e⟩:=x;⟨_,e,rfl⟩
theorem vT {it d:Addr}{es:Array DictEntry}{ep i:Nat}{e:DictEntry}{Q:Option xw->xy->Prop}(hi:gE s.heap it d i es.size ep)(hd:DE s.heap d es ep)(he:es[i]? = some e)
  (hQ:∀(h':Heap) (tk:Nat),gE h' it d (i+1) es.size ep->(∀c o,c≠it->s.heap.get? c=some o->h'.get? c=some o)->h'.get? s.heap.objs.size=some { cls :=.type "tuple",data :=.seq #[e.key,e.val] }->h'.objs.size=s.heap.objs.size+1->Q (some (.ref s.heap.objs.size)) { s with heap:=h',toks:=tk }):x8 (x9 prog w) A (pyNext (.ref it)) Q E s:=by
 have ht:=hi.ty (g:=s.gens) (d':=s.drawn) (t:=s.toks) (os:=s.os)
 obtain ⟨a,b,f,g,hi⟩:=hi
 unfold pyNext
 refine xu (zR (zd (name:=Str.ofString "__next__") ht y8 (ze y8 ht Ba (next hi hd he λh' a' b' f' g' tk e1 e2 e3 e4 =>?_) (A8 _))))
 exact xJ (hQ h' tk ⟨_,_,_,_,e1⟩ e2 e3 e4)
theorem w9 {it d:Addr}{es:Array DictEntry}{ep:Nat}{Q:Option xw->xy->Prop}(hh:A.handled=none)(hi:gE s.heap it d es.size es.size ep)(hd:DE s.heap d es ep)
  (hQ:∀h':Heap,(∀c o,c≠it->s.heap.get? c=some o->h'.get? c=some o)->Q none { s with heap:=h' }):x8 (x9 prog w) A (pyNext (.ref it)) Q E s:=by
 have ht:=hi.ty (g:=s.gens) (d':=s.drawn) (t:=s.toks) (os:=s.os)
 obtain ⟨a,b,f,g,hi⟩:=hi
 unfold pyNext
 refine xu (zR (zd (name:=Str.ofString "__next__") ht y8 (ze y8 ht Ba (ended (by first | exact hh | (rw[<- hh];rfl)) hi hd λh' x k ⟨o,ex,ec⟩ =>?_) (A8 _))))
 refine xu (BP (T := "StopIteration") (b:=true) ⟨o,ex,ec⟩ Di ?_)
 exact xJ (hQ h' k)
theorem vU {v d:Addr}{es:Array DictEntry}{ep:Nat}{Q:xw->xy->Prop}(hv:s.heap.IsItemsView v d)(hd:DE s.heap d es ep)
  (hQ:Q (.ref s.heap.objs.size) { s with heap:=s.heap.push (cv .none (.bool false) .none .none d 0 es.size ep) }):x8 (x9 prog w) A (pyIter (.ref v)) Q E s:=by
 refine DR hv.typeIs BV (ze BV hv.typeIs PySem.F.entry_dict_items_iter (made hv hd ?_) (PySem.F.args_dict_items_iter_1 _))
 exact ⟨"dict_itemiterator",_,⟨_,xF _ rfl,rfl⟩,y8.lookup,hQ⟩
end
open PySem PyProof.Rows
section
variable  {prog:xX}{w:yv}{A:yy}{E:xw->xy->Prop}{s:xy}
structure Tps (es:Array DictEntry)(lo:Addr)(h:Heap)(as:List Addr):Prop where
 rise:as.Pairwise (· < ·)
 above:∀a∈as,lo<a
 low:∀a∈as,a<h.objs.size
 pairs:∀(j:Nat) (a:Addr),as[j]? = some a->∃e,es[j]? = some e/\h.get? a=some { cls :=.type "tuple",data :=.seq #[e.key,e.val] }
def cS (acc:Array xw)(c:Nat):Obj:={ cls :=.type "list",data :=.seq acc c }
theorem loop {S I d:Addr}{es:Array DictEntry}{ep:Nat}{lo:Addr}{R:Result->xy->Prop}(hh:A.handled=none)(hSI:S≠I)(hdS:d≠S)(hdI:d≠I)(hlS:S<=lo)(hlI:I<=lo)(hn:es.size<=xG)(res:xw) :
  ∀(k i:Nat) (s:xy) (as:List Addr) (c:Nat),es.size-i=k->i<=es.size->gE s.heap I d i es.size ep->DE s.heap d es ep->s.heap.get? S=some (cS (as.map xV).toArray c)->as.length=i->Tps es lo s.heap as->lo<s.heap.objs.size →
  (∀(h':Heap) (tk:Nat) (as':List Addr) (c':Nat),(∀b o,b≠S->b≠I->s.heap.get? b=some o->h'.get? b=some o)->h'.get? S=some (cS (as'.map xV).toArray c')->as'.length=es.size->Tps es lo h' as'->R (.ok (.ret res)) { s with heap:=h',toks:=tk }) →
  Bv (x9 prog w) A (.builtin "list.extend.loop" ⟨[.ref S,.ref I,res],[]⟩) R s:=by
 intro k
 induction k with
 | zero =>
  intro i s as c hk hi hI hD hS hl hT hlo hR
  have e:i=es.size:=by omega
  subst e
  refine yI Ax ?_
  rw[yB yU _]
  unfold Builtin.«list.extend.loop»
  dsimp only
  refine xu (w9 (by first | exact hh | (rw[<- hh];rfl)) hI hD λh' k' =>?_)
  refine xJ (hR h' s.toks as c (λb o _ n e=>k' b o n e) (k' _ _ hSI hS) hl ⟨hT.rise,hT.above,λa ha =>?_,λj a e =>?_⟩)
  ·obtain ⟨j,hj⟩:=z0 ha
   obtain ⟨e,_,e2⟩:=hT.pairs j a hj
   exact xE (k' a _ (zS (y3 hlI (hT.above a ha))) e2)
  ·obtain ⟨x,e1,e2⟩:=hT.pairs j a e
   exact ⟨x,e1,k' a _ (zS (y3 hlI (hT.above a (xD e)))) e2⟩
 | succ k ih =>
  intro i s as c hk hi hI hD hS hl hT hlo hR
  obtain ⟨e,he⟩:∃e,es[i]? = some e:=⟨es[i]'(by omega),Cp (by omega)⟩
  refine yI Ax ?_
  rw[yB yU _]
  unfold Builtin.«list.extend.loop»
  dsimp only
  refine xu (vT hI hD he λh' tk I' k' e' z' =>?_)
  have hS':=k' _ _ hSI hS
  refine xu (Au (xs:=(as.map xV).toArray) (n:=c) hS' rfl ?_ ?_ ?_)
  ·have hS2:=yn (yk (·.push (xV s.heap.objs.size))) hS' rfl
   have oth:∀b o,b≠S->h'.get? b=some o->(h'.update S (yk (·.push (xV s.heap.objs.size)))).get? b=some o:=λb o n e=>(x6 _ _ (zj n)).trans e
   have sz:(h'.update S (yk (·.push (xV s.heap.objs.size)))).objs.size=h'.objs.size:=by simp
   have nS:s.heap.objs.size≠S:=zS (y3 hlS hlo)
   obtain ⟨c',ec⟩:∃c',(h'.update S (yk (·.push (xV s.heap.objs.size)))).get? S=some (cS ((as++[s.heap.objs.size]).map xV).toArray c'):=by
    rw[show ((as++[s.heap.objs.size]).map xV).toArray=(as.map xV).toArray.push (xV s.heap.objs.size) by simp]
    exact ⟨_,hS2⟩
   refine xJ ⟨zH yU _,ih (i+1) _ (as++[s.heap.objs.size]) c' (by omega) (by omega) ?_ ?_ ec (by rw[xM,hl];rfl) ⟨?_,?_,?_,?_⟩ (by rw[sz,z'];exact zy hlo) λh2 tk2 as2 c2 k2 e2 l2 T2=>hR h2 tk2 as2 c2 (λb o n1 n2 eb=>k2 b o n1 n2 (oth b o n1 (k' b o n2 eb))) e2 l2 T2⟩
   ·obtain ⟨a,b,f,g,ei⟩:=I'
    exact ⟨a,b,f,g,oth _ _ (zj hSI) ei⟩
   ·obtain ⟨o,h1,h2⟩:=hD
    exact ⟨o,oth _ _ hdS (k' _ _ hdI h1),h2⟩
   ·refine yH.mpr ⟨hT.rise,yR _ _,λx hx y hy =>?_⟩
    rw[yd.mp hy]
    exact hT.low x hx
   ·intro a ha
    rcases xS.mp ha with y | y
    ·exact hT.above a y
    ·rw[yd.mp y];exact hlo
   ·intro a ha
    rw[sz,z']
    rcases xS.mp ha with y | y
    ·exact zy (hT.low a y)
    ·rw[yd.mp y];exact CH _
   ·intro j a ha
    by_cases hj:j<as.length
    ·rw[A9 hj] at ha
     obtain ⟨x,e1,e2⟩:=hT.pairs j a ha
     have ab:=hT.above a (xD ha)
     exact ⟨x,e1,oth _ _ (zS (y3 hlS ab)) (k' _ _ (zS (y3 hlI ab)) e2)⟩
    ·have hj2:j=i:=by
      have:=(xB.mp ha).1
      rw[xM,y6] at this
      omega
     rw[A5 (by omega),hj2,hl,Nat.sub_self] at ha
     cases ha
     exact ⟨e,hj2 ▸ he,oth _ _ nS e'⟩
  ·rw[xA,xt];omega
  ·show ((as.map xV).toArray.push _).size<=_
   rw[zW,xA,xt];omega
theorem extend {S v d:Addr}{es:Array DictEntry}{ep:Nat}{R:Result->xy->Prop}(hh:A.handled=none)(hv:s.heap.IsItemsView v d)(hd:DE s.heap d es ep)(hn:es.size<=xG)(res:xw)(c:Nat)(hS:s.heap.get? S=some (cS #[] c))(hSv:S≠v)(hdS:d≠S)
  (hR:∀(h':Heap) (tk:Nat) (as':List Addr) (c':Nat),(∀b o,b≠S->s.heap.get? b=some o->h'.get? b=some o)->h'.get? S=some (cS (as'.map xV).toArray c')->as'.length=es.size->Tps es s.heap.objs.size h' as'->R (.ok (.ret res)) { s with heap:=h',toks:=tk }) :
  x8 (x9 prog w) A.in1 (yZ (.ref S) (.ref v) res)
   (λfin s'=>match fin with | .done f=>R (.ok f) s' | .again c'=>c'.quiet=true/\Bv (x9 prog w) A c' R s') (λe s'=>R (.error e) s') s:=by
 have sameF:AD (.ref S) (.ref v)=false:=by simp[AD,hSv]
 unfold yZ
 refine xu (BH (T := "dict_items") hv.typeIs ?_)
 rw[sameF]
 refine A2 (λq=>absurd q (by decide +kernel)) λ_ =>?_
 refine xu (vU hv hd ?_)
 have kp:∀b o,s.heap.get? b=some o->(s.heap.push (cv .none (.bool false) .none .none d 0 es.size ep)).get? b=some o:=λb o e=>xv _ e
 have hT:(⟨s.heap.push (cv .none (.bool false) .none .none d 0 es.size ep),s.gens,s.drawn,s.toks,s.os⟩:xy).TypeIs (.ref v) "dict_items" := let ⟨o,e,c,_⟩:=hv;⟨o,kp _ _ e,c⟩
 refine xu (zG (PySem.W.kdx_hint hT ?_))
 refine A2 (λ_ =>?_) λq=>absurd (by decide +kernel) q
 obtain ⟨od,hod,hdd⟩:=hd
 have hSp:=kp _ _ hS
 unfold cS at hSp
 have t1:=yn (yk (·.push zA)) hSp rfl
 have t2:=yn (yk (·.pop)) t1 rfl
 have up:∀b o,b≠S->s.heap.get? b=some o->(((s.heap.push (cv .none (.bool false) .none .none d 0 es.size ep)).update S (yk (·.push zA))).update S (yk (·.pop))).get? b=some o:=λb o n e=>by
  rw[x6 _ _ (zj n),x6 _ _ (zj n)];exact kp b o e
 have nI:S≠s.heap.objs.size:=x5 (xE hS)
 wp_walk
 obtain ⟨c2,ec2⟩:∃c2,(((s.heap.push (cv .none (.bool false) .none .none d 0 es.size ep)).update S (yk (·.push zA))).update S (yk (·.pop))).get? S=some (cS #[] c2):=⟨_,t2⟩
 have hI2:(((s.heap.push (cv .none (.bool false) .none .none d 0 es.size ep)).update S (yk (·.push zA))).update S (yk (·.pop))).get? s.heap.objs.size=some (cv .none (.bool false) .none .none d 0 es.size ep):=by
  rw[x6 _ _ nI,x6 _ _ nI];exact xF _ rfl
 exact ⟨zH yU _,loop (ep:=ep) (lo:=s.heap.objs.size) hh nI hdS (x5 (xE hod)) (Ao (xE hS)) (xC _) hn res es.size 0 _ [] c2 rfl (yE _) ⟨_,_,_,_,hI2⟩ ⟨od,up _ _ hdS hod,hdd⟩ ec2 rfl ⟨List.Pairwise.nil,λa ha=>(by cases ha),λa ha=>(by cases ha),λj a e=>(by cases e)⟩ (by simp) λh' tk as' c' k' e' l' T'=>hR h' tk as' c' (λb o n e=>k' b o n (x5 (xE e)) (up _ _ n e)) e' l' T'⟩
theorem rB {v d:Addr}{es:Array DictEntry}{ep:Nat}{R:Result->xy->Prop}(hh:A.handled=none)(hv:s.heap.IsItemsView v d)(hd:DE s.heap d es ep)(hn:es.size<=xG)
  (h:∀(h':Heap) (tk:Nat) (as:List Addr) (c':Nat),(∀b o,s.heap.get? b=some o->h'.get? b=some o)->h'.get? s.heap.objs.size=some (cS (as.map xV).toArray c')->as.length=es.size->Tps es s.heap.objs.size h' as->R (.ok (.ret (.ref s.heap.objs.size))) { s with heap:=h',toks:=tk }):Bv (x9 prog w) A (.builtin "proto.collect" ⟨[.ref v],[]⟩) R s:=by
 have kp:∀b o,s.heap.get? b=some o->(s.heap.push (cS #[] 0)).get? b=some o:=λb o e=>xv _ e
 have lv:v<s.heap.objs.size:=let ⟨_,e,_⟩:=hv;xE e
 have ld:d<s.heap.objs.size:=let ⟨_,e,_⟩:=hd;xE e
 refine yI AV ?_
 rw[yB AW _]
 unfold Builtin.«proto.collect»
 wp_walk
 have hv':(s.heap.push (cS #[] 0)).IsItemsView v d:=let ⟨o,e,r⟩:=hv;⟨o,kp _ _ e,r⟩
 have hd':DE (s.heap.push (cS #[] 0)) d es ep:=let ⟨o,e,r⟩:=hd;⟨o,kp _ _ e,r⟩
 refine ⟨zH zF _,yI Bn ?_⟩
 rw[yB zF _]
 have up:s.heap.objs.size<=(s.heap.push (cS #[] 0)).objs.size:=by simp
 exact extend (R:=R) (s:={ s with heap:=s.heap.push (cS #[] 0) }) hh hv' hd' hn (.ref s.heap.objs.size) 0 (xF _ rfl) (zS lv) (x5 ld) λh' tk as c' k' e' l' T'=>h h' tk as c' (λb o e=>k' b o (x5 (xE e)) (kp b o e)) e' l' ⟨T'.rise,λa ha=>y3 up (T'.above a ha),T'.low,T'.pairs⟩
theorem collect {v d:Addr}{es:Array DictEntry}{ep:Nat}{R:List xw->xy->Prop}(hh:A.handled=none)(hv:s.heap.IsItemsView v d)(hd:DE s.heap d es ep)(hn:es.size<=xG)
  (h:∀(h':Heap) (tk:Nat) (as:List Addr),(∀b o,s.heap.get? b=some o->h'.get? b=some o)->as.length=es.size->Tps es s.heap.objs.size h' as->s.heap.objs.size<h'.objs.size->R (as.map xV) { s with heap:=h',toks:=tk }):x8 (x9 prog w) A (PySem.collect (.ref v)) R E s:=by
 unfold PySem.collect
 refine xu (Cq (rB hh hv hd hn λh' tk as c' k' e' l' T' =>?_))
 refine xu (C8 e' ?_)
 exact xJ (h h' tk as k' l' T' (xE e'))
end
end Itm
namespace Srt
open PySem PyProof.Rows
def qLt (a b:List Int×Int):Bool:=if a.1=b.1 then decide (a.2<b.2) else HT.lexLt a.1 b.1
theorem nO (a:List Int×Int):qLt a a=false:=by unfold qLt;rw[if_pos rfl];exact decide_eq_false (by omega)
theorem kO (a b c:List Int×Int)(h1:qLt a b=true)(h2:qLt b c=true):qLt a c=true:=by
 unfold qLt at *
 by_cases e1:a.1=b.1
 ·rw[if_pos e1] at h1
  by_cases e2:b.1=c.1
  ·rw[if_pos e2] at h2
   rw[if_pos (e1.trans e2)]
   have:=of_decide_eq_true h1
   have:=of_decide_eq_true h2
   exact decide_eq_true (by omega)
  ·rw[if_neg e2] at h2
   rw[if_neg (λz=>e2 (e1.symm.trans z)),e1];exact h2
 ·rw[if_neg e1] at h1
  by_cases e2:b.1=c.1
  ·rw[if_neg (λz=>e1 (z.trans e2.symm)), <- e2];exact h1
  ·rw[if_neg e2] at h2
   have h3:=lex_trans _ _ _ h1 h2
   rw[if_neg (λz =>?_)]
   ·exact h3
   ·rw[z,lex_irrefl] at h3;cases h3
theorem hW (a b:List Int×Int)(h1:qLt a b=false)(h2:qLt b a=false):a=b:=by
 unfold qLt at *
 by_cases e:a.1=b.1
 ·rw[if_pos e] at h1
  rw[if_pos e.symm] at h2
  have:=of_decide_eq_false h1
  have:=of_decide_eq_false h2
  exact Prod.ext e (by omega)
 ·rw[if_neg e] at h1
  rw[if_neg (λz=>e z.symm)] at h2
  exact absurd (fG _ _ h1 h2) e
theorem tY (a b c:List Int×Int)(h:qLt a c=true):qLt a b=true\/qLt b c=true:=by
 by_cases h1:qLt a b=true
 ·exact .inl h1
 ·right
  have h1:qLt a b=false:=zO.mpr h1
  by_cases h2:qLt b a=true
  ·exact kO _ _ _ h2 h
  ·rw[<- hW a b h1 (zO.mpr h2)];exact h
def rD:BI where
 α:=List Int×Int
 blt:=qLt
 irrefl:=nO
 trans:=kO
 negTrans:=tY
 total:=hW
def dZ (h:Heap)(v:xw):List Int×Int:=match v with
 | .ref p=>match h.get? p with
  | some o=>match o.data with
   | .seq xs _=>(cG h (xs.toList.getD 0 .none),intOf (xs.toList.getD 1 .none))
   | _=>([],0)
  | none=>([],0)
 | _=>([],0)
def gF (h:Heap)(v:xw)(k:List Int×Int):Prop:=∃p o xs n a t,v = .ref p/\h.get? p=some o/\o.cls = .type "tuple" /\ o.data = .seq xs n/\xs.toList=[.ref a,.int k.2 t]/\aV h (.ref a) k.1
theorem gF.key {h:Heap}{v:xw}{k:List Int×Int}(x:gF h v k):dZ h v=k:=by
 obtain ⟨p,o,xs,n,a,t,rfl,e,_,d,r,i1⟩:=x
 unfold dZ
 dsimp only
 rw[e]
 dsimp only
 rw[d]
 dsimp only
 rw[r]
 exact Prod.ext i1.ints rfl
theorem gF.keeps {h h':Heap}{v:xw}{k:List Int×Int}(x:gF h v k)(kp:∀b o,h.get? b=some o->h'.get? b=some o):gF h' v k:=by
 obtain ⟨p,o,xs,n,a,t,rfl,e,c,d,r,i1⟩:=x
 exact ⟨p,o,xs,n,a,t,rfl,kp _ _ e,c,d,r,i1.keeps kp⟩
theorem iB {h:Heap}:∀{vs:List xw},(∀v∈vs,∃k,gF h v k)->∃fs,PySem.W.KatTups h vs fs/\fs.length=vs.length/\∀f∈fs,∃a ns,f = .ref a/\aV h f ns
 | [],_=>⟨[],trivial,rfl,λf hf=>by cases hf⟩
 | v :: vs,hv=>by
  obtain ⟨fs,t,l,hf⟩:=iB λu hu=>hv u (xO _ hu)
  obtain ⟨k,p,o,xs,n,a,_,rfl,e,c,d,r,i1⟩:=hv v xT
  have hx:xs[0]? = some (.ref a):=by rw[<- xU,r];rfl
  exact ⟨.ref a :: fs,EK e c d hx t,by rw[yo,yo,l],λf hf'=>by
   rcases yj.mp hf' with q | q
   ·exact ⟨a,_,q,q ▸ i1⟩
   ·exact hf f q⟩
section
variable  {prog:xX}{w:yv}{s:xy}
theorem lH {vs:List xw}(hv:∀v∈vs,∃k,gF s.heap v k)(h2:2<=vs.length)(A:yy)(h6:Heap)(hu:A.units<cLine)(k6:∀b o,s.heap.get? b=some o->h6.get? b=some o):∃κ,(∀(Q:SortKind->xy->Prop) (E:xw->xy->Prop),Q κ { s with heap:=h6 }->x8 (x9 prog w) A (keyKind' vs.toArray) Q E { s with heap:=h6 }) ∧
  Cmp prog w A { s with heap:=h6 } rD (λp=>dZ s.heap p.1) (λp=>p.1=p.2/\p.1∈vs) κ:=by
 refine ⟨tuples' false,λQ E q =>?_,⟨λE st x y Q hk hx hy q =>?_⟩⟩
 ·obtain ⟨fs,t,l,hf⟩:=iB (h:=h6) (vs:=vs) λv hv'=>by
   obtain ⟨k,i⟩:=hv v hv'
   exact ⟨k,i.keeps k6⟩
  refine PySem.W.kat_kind (T :=.type "tuple") t (by omega) (λf hf' =>?_) rfl q
  obtain ⟨a,ns,rfl,p,o,xs,n,e,g,c,d,r⟩:=hf f hf'
  cases e
  have L:PySem.W.Looks (x9 prog w) h6 (typeOf (.ref a)) o.cls:=(CM g).andThen .now
  rw[c] at L
  exact L
 ·obtain ⟨k1,i1⟩:=hv _ hx.2
  obtain ⟨k2,i2⟩:=hv _ hy.2
  have q':Q (some (qLt (dZ s.heap x.1) (dZ s.heap y.1))) st:=q
  rw[i1.key,i2.key] at q'
  obtain ⟨p1,o1,xs1,n1,a1,t1,e1,g1,c1,d1,r1,u1⟩:=i1.keeps k6
  obtain ⟨p2,o2,xs2,n2,a2,t2,e2,g2,c2,d2,r2,u2⟩:=i2.keeps k6
  rw[lt'_eq]
  refine xQ (BN ?_)
  rw[hk,e1,e2]
  refine xQ (BW (zR (PySem.W.kat_lt g1 d1 g2 d2 ?_)))
  rw[r1,r2]
  obtain ⟨j1,w1,z1⟩:=u1.isTup
  obtain ⟨j2,w2,z2⟩:=u2.isTup
  have sz:decide (xs1.size<xs2.size)=false:=decide_eq_false (by rw[<- xK, <- xK,r1,r2];exact yV _)
  rw[sz]
  refine D6 (pX hu u1 u2 _ _ _ _ ?_)
  unfold qLt at q'
  by_cases e:k1.1=k2.1
  ·rw[if_pos e] at q'
   rw[decide_eq_true e]
   refine Eg (D6 (wpAny_eqBool_int ?_))
   by_cases e':k1.2=k2.2
   ·rw[beq_iff_eq.mpr e']
    refine Eg (PySem.W.kat_nil ⟨rfl,x3 ?_⟩)
    rw[e',decide_eq_false (by omega)] at q';exact q'
   ·rw[beq_eq_false_iff_ne.mpr e']
    exact Ew (Eh _ _ (HT.gj _ _ _ _ _ _ _ _ _ _ ⟨rfl,x3 q'⟩))
  ·rw[if_neg e] at q'
   rw[decide_eq_false e]
   exact Ew (Eh _ _ (HT.nr w1 w2 z1 z2 hu ⟨rfl,x3 q'⟩))
theorem iC {A:yy}{E:xw->xy->Prop}{O:BI}{key:Heap->xw->O.α}{v:xw}{Q:xw->xy->Prop}{J:Heap->List xw->Prop}
  (hv:∀(B:yy) (E:xw->xy->Prop) (R:List xw->xy->Prop),B.handled=A.handled->(∀h1 tk vs,(∀b o,s.heap.get? b=some o->h1.get? b=some o)->s.heap.objs.size<=h1.objs.size->J h1 vs->R vs { s with heap:=h1,toks:=tk })->x8 (x9 prog w) B (collect v) R E s)
  (hz:∀h1 vs,J h1 vs->vs.length<=xG)
  (C:∀h1 tk vs,J h1 vs->2<=vs.length->∀(B:yy) (h6:Heap),B.units<=A.units+6->(∀b o,h1.get? b=some o->h6.get? b=some o)->∃κ,(∀(Q:SortKind->xy->Prop) (E:xw->xy->Prop),Q κ { s with heap:=h6,toks:=tk }->x8 (x9 prog w) B (keyKind' vs.toArray) Q E { s with heap:=h6,toks:=tk }) ∧
   Cmp prog w B { s with heap:=h6,toks:=tk } O (λp=>key h1 p.1) (λp=>p.1=p.2/\p.1∈vs) κ)
  (h:∀(h1 h':Heap) (tk:Nat) (p:Addr) (vs out:List xw) (n:Nat),(∀b o,s.heap.get? b=some o->h1.get? b=some o)->s.heap.objs.size<=h1.objs.size->J h1 vs->(∀b o,h1.get? b=some o->h'.get? b=some o)->h1.objs.size<=p->h'.get? p=some (seqObj "list" out.toArray n)->out.Perm vs->out.Pairwise (λx y=>O.kle (key h1 x) (key h1 y))->Q (.ref p) { s with heap:=h',toks:=tk }) :
  x8 (x9 prog w) A (call (.builtin "sorted") [v]) Q E s:=by
 refine Cn Ej DU DV (args_sorted1 _) ?_
 unfold Builtin.«sorted»
 refine xu (m:=checkCount "sorted" 1 1 _) (xJ ?_)
 refine xu (hv _ _ _ rfl λh1 tk vs k1 z1 j1=>xu (Bt ?_ (hz h1 vs j1)))
 have hoL:(h1.push (seqObj "list" vs.toArray 0)).get? h1.objs.size=some (seqObj "list" vs.toArray 0):=xF _ rfl
 have kL:∀b o,h1.get? b=some o->(h1.push (seqObj "list" vs.toArray 0)).get? b=some o:=λb o e=>xv _ e
 refine xu (zG (ze slot_list_sort ⟨_,hoL,rfl⟩ entry_list_sort (fW (key:=key h1) (O:=O) hoL (hz h1 vs j1) (λh2 h6 k6 =>?_) λout pm ps=>⟨_,rfl,?_⟩) (args_list_sort _)))
 ·refine C h1 tk vs j1 h2 _ h6 ?_ λb o e=>k6 b o (x5 (xE e)) (kL b o e)
  simp only[CN]
  omega
 ·obtain ⟨n,en⟩:=sortedHeap_at (out:=out.toArray) hoL
  refine xJ ⟨_,rfl,h h1 _ tk _ vs out n k1 z1 j1 (λb o e =>?_) (xC _) en pm ps⟩
  have lt:=xE e
  rw[sortedHeap_old (x5 lt) (by rw[DP];exact zy lt)]
  exact kL b o e
end
end Srt
namespace L2
open PySem PySem.Spec PyProof.Rows Srt
section
variable  {X:Cx}
def fj (p a:Addr):HO :=.ext λh=>h.IsItemsView p a
theorem pY {prog:xX}{w:yv}{H:Hp}{h:Heap}{p a:Addr}(v:h.IsItemsView p a):aT prog w (upd H p (fj p a)) h p (fj p a):=by
 refine ⟨v,?_,λh1 h2 ⟨o,ho,x⟩ k=>⟨o,k o ho,x⟩⟩
 obtain ⟨o,ho,_⟩:=v
 exact ⟨_,ho⟩
theorem lI {prog:xX}{w:yv}(d:Addr)(hd:(d == sysModules)=false) :
  MeetsIn prog w (Builtin.«dict.items» ⟨[.ref d],[]⟩) (λ_ R s=>s.TypeIs (.ref d) "dict" ∧
   R (.ok (.ret (.ref s.heap.objs.size))) { s with heap:=s.heap.push { cls :=.type "dict_items",data :=.fields #[.ref d] } }) :=
 .of_wp λA R s ⟨hT,h⟩=>by
  unfold Builtin.«dict.items»
  refine xu ?_
  unfold Builtin.Dict.noArgs
  refine xu (wpAny_notOrdered_dict hT ?_)
  refine xJ ?_
  show x8 _ _ (Builtin.Dict.showsAll d >>= _) _ _ s
  unfold Builtin.Dict.showsAll
  rw[if_neg (by rw[hd];exact xN)]
  refine xu (xJ ?_)
  exact xu (Ad (xJ ⟨_,rfl,h⟩))
theorem kP:MtR X "dict.items" (λx vs H Q=>∃(a:Addr) (kvs:List (List Key×V)),x = .ref a/\vs=[]/\H a=some (.dT kvs)/\∀p,H p=none->Q (.ref p) (upd H p (fj p a))):=by
 intro pins s σ H x vs v us Q I rx rv h
 obtain ⟨a,kvs,rfl,rfl,ha,q⟩:=h
 cases rx
 cases rv
 obtain ⟨z,hd,xs,rel,dd⟩:=ou I.hok ha
 refine call_meetsIn Bp dd.typeIs PySem.F.entry_dict_items (PySem.F.args_dict_items_1 _) (lI a hd) ⟨dd.typeIs,?_⟩
 exact ⟨.ref s.heap.objs.size,_,I.laid (λb o e=>xv _ e) (xC _) (pY ⟨_,xF _ rfl,rfl,rfl⟩),rfl,q _ (I.hok.fresh (xC _))⟩
def many (H:Hp)(ps:List (Addr×HO)):Hp:=λb=>match ps.lookup b with
 | some o=>some o
 | none=>H b
theorem gG {H:Hp}{ps:List (Addr×HO)}{n:Nat}(f:∀p∈ps,n<=p.1){b:Addr}(h:b<n):many H ps b=H b:=by
 unfold many
 cases e:ps.lookup b with
 | none=>rfl
 | some o =>
  have:b∈ps.map (·.1):=by
   induction ps with
   | nil=>cases e
   | cons p t ih =>
    rw[yx] at e
    by_cases c:(b == p.1)=true
    ·rw[xR];exact yj.mpr (.inl (by simpa using c))
    ·rw[zO.mpr c] at e
     exact xO _ (ih (λq hq=>f q (xO _ hq)) e)
  obtain ⟨p,hp,rfl⟩:=yS.mp this
  exact absurd (f p hp) (Nat.not_le.mpr h)
theorem ju {H:Hp}:∀{ps:List (Addr×HO)},(ps.map (·.1)).Nodup->∀p∈ps,many H ps p.1=some p.2
 | [],_,p,h=>by cases h
 | q :: t,nd,p,h=>by
  rw[xR] at nd
  obtain ⟨nq,nt⟩:=zD.mp nd
  rcases yj.mp h with z | z
  ·subst z
   unfold many
   rw[yx,show (p.1 == p.1)=true from beq_self_eq_true _]
  ·have ne:p.1≠q.1:=λe=>nq (e ▸ yS.mpr ⟨p,z,rfl⟩)
   have:=ju (H:=H) nt p z
   unfold many at this ⊢
   rw[yx,show (p.1 == q.1)=false from beq_eq_false_iff_ne.mpr ne]
   exact this
theorem tZ {H:Hp}{ps:List (Addr×HO)}{b:Addr}{o:HO}(h:many H ps b=some o):(∃p∈ps,p.1=b/\p.2=o)\/H b=some o:=by
 unfold many at h
 cases e:ps.lookup b with
 | none=>rw[e] at h;exact .inr h
 | some u =>
  rw[e] at h
  left
  have:u=o:=ym h
  subst this
  clear h
  induction ps with
  | nil=>cases e
  | cons p t ih =>
   rw[yx] at e
   by_cases c:(b == p.1)=true
   ·rw[c] at e
    exact ⟨p,xT,(by simpa using c:b=p.1).symm,ym e⟩
   ·rw[zO.mpr c] at e
    obtain ⟨q,hq,r⟩:=ih e
    exact ⟨q,xO _ hq,r⟩
theorem Inv.xb {pins:List (Addr×Obj)}{σ:St}{H:Hp}{s:xy}{h':Heap}{ps:List (Addr×HO)}{t':Nat}(I:Inv X pins σ H s)(k:∀b u,s.heap.get? b=some u->h'.get? b=some u)(hp:∀p∈ps,s.heap.objs.size<=p.1)
  (new:∀p∈ps,aT X.prog X.w (many H ps) h' p.1 p.2):Inv X pins σ (many H ps) { s with heap:=h',toks:=t' }:=by
 have lt:∀{b:Addr} {o:HO},H b=some o->b<s.heap.objs.size:=λ{b o} e=>by
  apply Classical.byContradiction
  intro n
  rw[I.hok.fresh (CG n)] at e;cases e
 have old:∀{b:Addr} {o:HO},H b=some o->many H ps b=some o:=λe=>by rw[gG hp (lt e)];exact e
 refine I.un ⟨λb u q _ _ _=>k b u q,λb u q _ _ _=>⟨u.slots,k b u q⟩,λb u q n _=>by rw[gG hp (xE q)];exact n,λb u q _=>⟨u,k b u q⟩,λb xs q=>old q,λb u xs q=>old q,λb ps' q=>⟨#[],by rw[old q];simp⟩⟩ λb u e =>?_
 rcases tZ e with ⟨p,m,rfl,rfl⟩ | e
 ·exact new p m
 ·exact (I.hok b u e).stay (λc v _ q=>k c v q) (λc q=>old q) λc xs q=>old q
def fS (H:Hp)(out:List (Addr×(Addr×List Int)×Int)):Prop:=∀o∈out,H o.1=some (.tup [.ref o.2.1.1,.int o.2.2])/\H o.2.1.1=some (.tup (o.2.1.2.map V.int))
def aJ (o:Addr×(Addr×List Int)×Int):List Int×Int:=(o.2.1.2,o.2.2)
structure Col (n:Nat)(H:Hp)(es:List (List Int×Int))(h1:Heap)(T:List (Addr×(Addr×List Int)×Int)):Prop where
 is:T.map aJ=es
 nd:(T.map (·.1)).Nodup
 row:∀t∈T,n<=t.1/\H t.2.1.1=some (.tup (t.2.1.2.map V.int))/\∃tk,h1.get? t.1=some { cls :=.type "tuple",data :=.seq #[.ref t.2.1.1,.int t.2.2 tk] }
theorem rE {H:Hp}{n:Nat}{h1:Heap}:∀{es:List (List Int×Int)} {xs:List (List Key×Addr×xw)} {as:List Addr},Paired (λ(p:List Key×V) (q:List Key×Addr×xw)=>p.1=q.1/\H q.2.1=some (.tup (p.1.map kV))/\RelV p.2 q.2.2) (es.map λe=>(e.1.map Sum.inl,V.int e.2)) xs->as.length=xs.length->as.Pairwise (· < ·)->(∀a∈as,n<a) →
  (∀(j:Nat) a,as[j]? = some a->∃x,xs[j]? = some x/\h1.get? a=some { cls :=.type "tuple",data :=.seq #[.ref x.2.1,x.2.2] })->∃T,Col n H es h1 T/\T.map (·.1)=as
 | [],_,as,.nil,l,_,_,_=>by
  have:as=[]:=List.eq_nil_of_length_eq_zero l
  subst this
  exact ⟨[],⟨rfl,BE,λt h=>by cases h⟩,rfl⟩
 | e :: es,x :: xs,[],.cons _ _,l,_,_,_=>by cases l
 | e :: es,x :: xs,a :: as,.cons h t,l,rs,ab,g=>by
  obtain ⟨ra,rs⟩:=Aq.mp rs
  obtain ⟨T,c,eT⟩:=rE t (Nat.succ.inj l) rs (λb hb=>ab b (xO _ hb)) λj b hb=>by
   obtain ⟨y,h1,h2⟩:=g (j+1) b (by simpa using hb)
   exact ⟨y,by simpa using h1,h2⟩
  obtain ⟨y,h1,h2⟩:=g 0 a rfl
  have:x=y:=by simpa using h1
  subst this
  obtain ⟨k1,k2,tk,k3⟩:=h
  rw[k3] at h2
  refine ⟨(a,(x.2.1,e.1),e.2) :: T,⟨by rw[xR,c.is];rfl,?_,λu hu =>?_⟩,by rw[xR,eT]⟩
  ·rw[xR,eT]
   exact zD.mpr ⟨λhm=>yV _ (ra a hm),by exact rs.imp λ{a b} h=>x5 h⟩
  ·rcases yj.mp hu with z | z
   ·subst z
    refine ⟨Ao (ab a xT),?_,tk,h2⟩
    have:=k2
    rw[yt] at this
    exact this
   ·exact c.row u z
theorem fY (hh:X.A.handled=none)(hu:X.A.units+8<cLine):cc X (.builtin "sorted") (λxs H Q=>∃(p a:Addr) (es:List (List Int×Int)),xs=[.ref p]/\H p=some (fj p a)/\H a=some (.dT (es.map λe=>(e.1.map Sum.inl,V.int e.2))) ∧
  ∀(l:Addr) (out:List (Addr×(Addr×List Int)×Int)) (H':Hp),az H H'->H l=none->H' l=some (.lst (out.map λo =>.ref o.1))->fS H' out->(out.map aJ).Perm es->(out.map aJ).Pairwise (λx y=>qLt y x=false)->Q (.ref l) H'):=by
 intro pins s σ H xs us Q I r h
 obtain ⟨p,a,es,rfl,hp,ha,q⟩:=h
 obtain ⟨u,rfl,ru⟩:=vals1 r
 cases (show u=xV p from ru)
 obtain ⟨kv,_,_⟩:=(show aT X.prog X.w H s.heap p (fj p a) from I.hok p _ hp)
 obtain ⟨z,hd,xs,rel,dd⟩:=ou I.hok ha
 obtain ⟨o,ees,ep,ho,hc,hdat,hent,_⟩:=id dd
 have lx:(es.map λe=>((e.1.map Sum.inl:List Key),V.int e.2)).length=xs.length:=AF rel
 rw[xt] at lx z
 have DA:Itm.DE s.heap a ees ep:=⟨o,ho,hdat⟩
 have lees:ees.size=xs.length:=by
  have:=congrArg List.length hent
  simpa using this
 have tI:∀{a:Addr} {ns:List Int},H a=some (.tup (ns.map V.int))->Srt.aV s.heap (xV a) ns:=λ{a ns} h=>by
  obtain ⟨jts,jr,⟨jo,je,jc,jn,jd⟩,_⟩:=I.tuple (SqT.of h)
  exact ⟨a,jo,_,jn,rfl,je,jc,jd,by simpa using dY jr⟩
 refine Srt.iC (O:=Srt.rD) (key:=λh v=>Srt.dZ h v) (J:=λh1 vs=>(∀b o,s.heap.get? b=some o->h1.get? b=some o)/\∃T,Col s.heap.objs.size H es h1 T/\vs=T.map λt=>xV t.1) (λB E R hB hR =>?_) (λh1 vs ⟨_,T,c,e⟩ =>?_) (λh1 tk vs ⟨k1,T,c,e⟩ h2 B h6 hB k6 =>?_) λh1 h' tk l vs out n k1 z1 ⟨_,T,c,ev⟩ k' hl el pm ps =>?_
 ·refine Itm.collect (by rw[hB];exact hh) kv DA (by omega) λh1 tk as k1 la G zz =>?_
  rw[lees] at la
  obtain ⟨T,c,eT⟩:=rE (n:=s.heap.objs.size) (h1:=h1) rel la G.rise G.above λj b hb=>by
   obtain ⟨e,e1,e3⟩:=G.pairs j b hb
   rw[<- xU,hent,xI] at e1
   cases hx:xs[j]? with
   | none=>rw[hx] at e1;cases e1
   | some y =>
    rw[hx] at e1
    have e1:=ym e1
    subst e1
    exact ⟨y,rfl,e3⟩
  refine hR h1 tk _ k1 (Ao zz) ⟨k1,T,c,?_⟩
  rw[<- eT,yt];rfl
 ·rw[e,xt]
  have:=congrArg List.length c.is
  rw[xt] at this
  omega
 ·have hv:∀v∈vs,∃k,Srt.gF h1 v k:=λv hv=>by
   rw[e] at hv
   obtain ⟨t,ht,rfl⟩:=yS.mp hv
   obtain ⟨_,h2,tk,h3⟩:=c.row t ht
   exact ⟨(t.2.1.2,t.2.2),t.1,_,_,0,t.2.1.1,tk,rfl,h3,rfl,rfl,rfl,(tI h2).keeps k1⟩
  exact Srt.lH (s:={ s with heap:=h1,toks:=tk }) hv h2 B h6 (by omega) k6
 ·rw[ev] at pm
  obtain ⟨out',pm',rfl⟩:=dX pm
  have sub:∀t∈out',t∈T:=λt ht=>pm'.mem_iff.mp ht
  have hlt:∀t∈T,t.1<h1.objs.size:=λt ht=>by
   obtain ⟨_,_,_,h3⟩:=c.row t ht
   exact xE h3
  have nd:(((l,HO.lst (out'.map λo=>V.ref o.1)) :: T.map λt=>(t.1,HO.tup [.ref t.2.1.1,.int t.2.2])).map (·.1)).Nodup:=by
   rw[xR,yt]
   refine zD.mpr ⟨λhm =>?_,c.nd⟩
   obtain ⟨t,ht,e⟩:=yS.mp hm
   have e:t.1=l:=e
   exact absurd hl (Nat.not_le.mpr (e ▸ hlt t ht))
  have fr:∀p∈(l,HO.lst (out'.map λo=>V.ref o.1)) :: T.map λt=>(t.1,HO.tup [.ref t.2.1.1,.int t.2.2]),s.heap.objs.size<=p.1:=λp hp=>by
   rcases yj.mp hp with y | y
   ·rw[y];exact yf z1 hl
   ·obtain ⟨t,ht,rfl⟩:=yS.mp y
    exact (c.row t ht).1
  have lo:out'.length<=xG:=by
   rw[pm'.length_eq]
   have:=congrArg List.length c.is
   rw[xt] at this
   omega
  have IM:=I.xb (t':=tk) (λb u e=>k' b u (k1 b u e)) fr λp hp=>by
   rcases yj.mp hp with y | y
   ·rw[y]
    exact ⟨by rw[xt];exact lo,_,n,dE,el⟩
   ·obtain ⟨t,ht,rfl⟩:=yS.mp y
    obtain ⟨_,_,tk,h3⟩:=c.row t ht
    exact ⟨by show 2<=xG;decide,[.ref t.2.1.1,.int t.2.2 tk],.cons rfl (.cons ⟨tk,rfl⟩ .nil),_,k' _ _ h3,⟨rfl,rfl⟩,0,rfl⟩
  refine ⟨.ref l,_,IM,rfl,q l out' _ (λb o e =>?_) (I.hok.fresh (yf z1 hl)) (ju nd _ xT) (λt ht =>?_) ?_ ?_⟩
  ·rw[gG fr (D7 λn=>by rw[I.hok.fresh n] at e;cases e)];exact e
  ·refine ⟨ju nd _ (xO _ (yS.mpr ⟨t,sub t ht,rfl⟩)),?_⟩
   have e:=(c.row t (sub t ht)).2.1
   rw[gG fr (D7 λn=>by rw[I.hok.fresh n] at e;cases e)];exact e
  ·rw[<- c.is];exact pm'.map _
  ·rw[yG] at ps ⊢
   refine ps.imp_of_mem λ{x y} hx hy le =>?_
   have ent:∀t∈T,Srt.dZ h1 (xV t.1)=aJ t:=λt ht=>by
    obtain ⟨_,h2,tk,h3⟩:=c.row t ht
    exact Srt.gF.key (k:=aJ t) ⟨t.1,_,_,0,t.2.1.1,tk,rfl,h3,rfl,rfl,rfl,(tI h2).keeps k1⟩
   have le:Srt.qLt (Srt.dZ h1 (xV y.1)) (Srt.dZ h1 (xV x.1))=false:=le
   rw[ent x (sub x hx),ent y (sub y hy)] at le
   exact le
end
end L2
namespace Srt
open PySem PyProof.Rows
section
variable  {prog:xX}{w:yv}{A:yy}{E:xw->xy->Prop}{s:xy}
def rF (h:Heap)(v:xw):Option xw:=match v with
 | .ref p=>match h.get? p with
  | some o=>match o.data with
   | .seq xs _=>xs[0]?
   | _=>none
  | none=>none
 | _=>none
theorem jv {M:Model}:∀{vs:List xw} {Q:List (Option xw)->xy->Prop},(∀v∈vs,∃ns,aV s.heap v ns)->Q (vs.map (rF s.heap)) s->x8 M A (vs.mapM firstOfTuple') Q E s
 | [],Q,_,h=>by rw[List.mapM_nil];exact xJ h
 | v :: vs,Q,hv,h=>by
  obtain ⟨ns,p,o,xs,n,rfl,e,c,d,r⟩:=hv v xT
  rw[List.mapM_cons]
  refine xu ?_
  rw[PySem.W.kas_first_eq]
  refine xu (EO (show PySem.W.Looks M s.heap (typeOf (.ref p)) o.cls from (CM e).andThen .now) ?_)
  rw[c,if_neg (by first | decide | simp)]
  refine xu (BG e d (xJ ?_))
  refine xu (jv (λu hu=>hv u (xO _ hu)) (xJ ?_))
  have:rF s.heap (.ref p)=xs[0]? := by
   unfold rF
   dsimp only
   rw[e]
   dsimp only
   rw[d]
  rw[xR,this] at h
  exact h
theorem nP {M:Model}{v1:xw}{vs:List xw}{Q:SortKind->xy->Prop}(hv:∀v∈v1 :: vs,∃ns,aV s.heap v ns)(he:aV s.heap v1 [])(h:Q oneType' s):x8 M A (keyKind' (v1 :: vs).toArray) Q E s:=by
 rw[kat_kind_eq,DN,map_eq_pure_bind]
 refine xu (xu (jv hv (xJ ?_)))
 have e1:rF s.heap v1=none:=by
  obtain ⟨p,o,xs,n,rfl,e,c,d,r⟩:=he
  unfold rF
  dsimp only
  rw[e]
  dsimp only
  rw[d]
  have:xs.toList=[]:=by
   generalize xs.toList=l at r
   cases r;rfl
  show xs[0]? = none
  rw[<- xU,this];rfl
 rw[xR,e1]
 rw[if_neg (by simp),if_neg (by simp)]
 rw[oneTypeOnly'_eq,DN,map_eq_pure_bind]
 refine xu (xu (xu (PySem.W.kas_mapM (r:=BZ "tuple") _ (λv hv' Q' hq =>?_) (xJ ?_))))
 ·obtain ⟨ns,p,o,xs,n,rfl,e,c,d,r⟩:=hv v hv'
  have L:PySem.W.Looks M s.heap (typeOf (.ref p)) o.cls:=(CM e).andThen .now
  rw[c] at L
  exact L.here hq
 ·have hall:((List.map (λ_=>BZ "tuple") (v1 :: vs)).toArray.all λx=>x == BZ "tuple")=true:=by
   simp only[List.all_toArray,EI,AJ]
   intro _ _
   rfl
  have h0:(List.map (λ_=>BZ "tuple") (v1 :: vs)).toArray[0]? = some (BZ "tuple"):=by simp
  rw[h0]
  simp only[hall,if_true]
  exact xJ (xJ h)
theorem pZ {a b:Addr}{ns ms:List Int}{Q:Bool->xy->Prop}(hu:A.units<cLine)(x:aV s.heap (.ref a) ns)(y:aV s.heap (.ref b) ms)(h:Q (HT.lexLt ns ms) s):x8 (x9 prog w) A (oneLt' true (.ref a) (.ref b)) Q E s:=by
 obtain ⟨its,⟨⟨cls,dd,data,sl⟩,ho,hc,n,hd⟩,hi⟩:=x.isTup
 obtain ⟨its2,⟨⟨cls2,dd2,data2,sl2⟩,ho2,hc2,n2,hd2⟩,hj⟩:=y.isTup
 simp only at hc hd hc2 hd2
 subst hc hd hc2 hd2
 rw[oneLt'_eq]
 simp only[if_true]
 refine xu (wpAny_cRoomFor hu ?_)
 refine xu (wpAny_callSpecialIfBound?_slot ⟨_,ho,rfl⟩ AU (BX AU ⟨_,ho,rfl⟩ Bw (Bj _ _) (HT.fV a b its its2 n n2 dd dd2 sl sl2 ns ms hi hj) ⟨ho,ho2,?_⟩))
 exact zP h
theorem jZ {v1:xw}{vs:List xw}(hv:∀v∈v1 :: vs,∃ns,aV s.heap v ns)(he:aV s.heap v1 [])(A:yy)(h6:Heap)(hu:A.units<cLine)(k6:∀b o,s.heap.get? b=some o->h6.get? b=some o):∃κ,(∀(Q:SortKind->xy->Prop) (E:xw->xy->Prop),Q κ { s with heap:=h6 }->x8 (x9 prog w) A (keyKind' (v1 :: vs).toArray) Q E { s with heap:=h6 }) ∧
  Cmp prog w A { s with heap:=h6 } lexOrd (λp=>cG s.heap p.1) (λp=>p.1=p.2/\p.1∈v1 :: vs) κ:=by
 refine ⟨oneType',λQ E q =>?_,⟨λE st x y Q hk hx hy q =>?_⟩⟩
 ·exact nP (s:={ s with heap:=h6 }) (λv hv'=>let ⟨ns,i⟩:=hv v hv';⟨ns,i.keeps k6⟩) (he.keeps k6) q
 ·obtain ⟨ns,i1⟩:=hv _ hx.2
  obtain ⟨ms,i2⟩:=hv _ hy.2
  have q':Q (some (HT.lexLt (cG s.heap x.1) (cG s.heap y.1))) st:=q
  rw[i1.ints,i2.ints] at q'
  have j1:=i1.keeps k6
  have j2:=i2.keeps k6
  obtain ⟨p1,_,_,_,e1,_⟩:=id i1
  obtain ⟨p2,_,_,_,e2,_⟩:=id i2
  rw[e1] at j1
  rw[e2] at j2
  rw[lt'_eq]
  refine xQ (BN ?_)
  rw[hk,Dh,e1,e2]
  refine xQ (BW (zR (pZ (s:={ s with heap:=h6 }) hu j1 j2 ⟨rfl,?_⟩)))
  exact x3 q'
end
end Srt
namespace L2
open PySem PySem.Spec PyProof.Rows Srt
section
variable  {X:Cx}
theorem Inv.xc {pins:List (Addr×Obj)}{σ:St}{H:Hp}{s:xy}(I:Inv X pins σ H s){A:yy}(hu:A.units+2<cLine){x y:Addr×(Addr×List Int)×Int}(hx:H x.1=some (.tup [.ref x.2.1.1,.int x.2.2])/\H x.2.1.1=some (.tup (x.2.1.2.map V.int)))(hy:H y.1=some (.tup [.ref y.2.1.1,.int y.2.2])/\H y.2.1.1=some (.tup (y.2.1.2.map V.int))) :
  AE A s (.ref x.1) (.ref y.1) (decide (aJ x=aJ y)):=by
 by_cases e:x.1=y.1
 ·have e1:=hx.1
  rw[e,hy.1] at e1
  have e1:=HO.tup.inj (ym e1)
  have f1:y.2.1.1=x.2.1.1:=V.ref.inj (Bq e1).1
  have f2:y.2.2=x.2.2:=V.int.inj (Bq (Bq e1).2).1
  have f3:y.2.1.2=x.2.1.2:=by
   have h1:=hx.2
   have h2:=hy.2
   rw[f1,h1] at h2
   have:x.2.1.2.map V.int=y.2.1.2.map V.int:=HO.tup.inj (ym h2)
   exact ((DB (λa b h=>V.int.inj h)).mp this).symm
  rw[e,decide_eq_true (show aJ x=aJ y by unfold aJ;rw[f2,f3])]
  exact B1 _
 ·obtain ⟨its,r1,p1,_⟩:=I.tuple (SqT.of (K:=X.K) hx.1)
  obtain ⟨its2,r2,p2,_⟩:=I.tuple (SqT.of (K:=X.K) hy.1)
  have s1:∃t,its=[.ref x.2.1.1,.int x.2.2 t]:=by
   cases r1 with
   | cons g1 t1=>cases t1 with
    | cons g2 t2 =>
     cases t2
     obtain ⟨t,g2⟩:=g2
     exact ⟨t,by rw[show _=xV x.2.1.1 from g1,g2]⟩
  have s2:∃t,its2=[.ref y.2.1.1,.int y.2.2 t]:=by
   cases r2 with
   | cons g1 t1=>cases t1 with
    | cons g2 t2 =>
     cases t2
     obtain ⟨t,g2⟩:=g2
     exact ⟨t,by rw[show _=xV y.2.1.1 from g1,g2]⟩
  obtain ⟨t,rfl⟩:=s1
  obtain ⟨t',rfl⟩:=s2
  refine Dz e ?_
  have R:=Cv (A:=A) (e:=λj=>if j=0 then decide (x.2.1.2=y.2.1.2) else x.2.2 == y.2.2) (show s.heap.IsTuple x.1 _ from p1) (show s.heap.IsTuple y.1 _ from p2) (by omega) (by
   intro j h1 h2
   match j,h1,h2 with
   | 0,_,_=>exact I.eqT (by rw[CN];omega) (SqT.of hx.2) (SqT.of hy.2)
   | 1,_,_=>exact Ap _ _ _ _)
  have ev:((yP (min (#[xV x.2.1.1,Ab x.2.2 t]:Array xw).size (#[xV y.2.1.1,Ab y.2.2 t']:Array xw).size)).all (λj=>if j=0 then decide (x.2.1.2=y.2.1.2) else x.2.2 == y.2.2) && (#[xV x.2.1.1,Ab x.2.2 t]:Array xw).size == (#[xV y.2.1.1,Ab y.2.2 t']:Array xw).size)=decide (aJ x=aJ y):=by
   show ((decide (x.2.1.2=y.2.1.2) && ((x.2.2 == y.2.2) && true)) && true)=_
   rw[zC,decide_eq_true_iff]
   unfold aJ
   simp
  rw[<- ev]
  exact R
theorem xf {us:List (Addr×(Addr×List Int)×Int)}{its:List xw}(r:Vals (us.map λu=>V.ref u.1) its){j:Nat}(h:j<its.toArray.size):∃u,us[j]? = some u/\its.toArray[j] = .ref u.1:=by
 have e:=fH r
 subst e
 rw[xA,xt] at h
 exact ⟨us[j],xP h,by simp⟩
def rG (us ws:List (Addr×(Addr×List Int)×Int))(j:Nat):Bool:=decide ((us.map aJ).getD j ([],0)=(ws.map aJ).getD j ([],0))
theorem p5 {us ws:List (Addr×(Addr×List Int)×Int)}(h:us.length=ws.length):((yP us.length).all λj=>rG us ws j)=decide (us.map aJ=ws.map aJ):=by
 rw[zC,decide_eq_true_iff,AJ]
 constructor
 ·intro hh
  refine BL (by rw[xt,xt];exact h) λj h1 h2 =>?_
  have:=of_decide_eq_true (hh j (AL.mpr (by rw[xt] at h1;exact h1)))
  rw[yc,yc,xP h1,xP h2] at this
  exact this
 ·intro e j _
  exact decide_eq_true (by rw[e])
theorem t6 {k:Nat}(hr:bY k X.A):OpR X (Aa .Eq) (λx y H Q=>∃(a b:Addr) (us ws:List (Addr×(Addr×List Int)×Int)),x = .ref a/\y = .ref b/\H a=some (.lst (us.map λu =>.ref u.1))/\H b=some (.lst (ws.map λu =>.ref u.1))/\fS H us/\fS H ws/\Q (.bl (decide (us.map aJ=ws.map aJ))) H):=by
 intro pins s σ H x y v u Q I rx ry h
 obtain ⟨a,b,us,ws,rfl,rfl,h1,h2,t1,t2,q⟩:=h
 cases (show v=xV a from rx)
 cases (show u=xV b from ry)
 obtain ⟨its,r1,p1,_⟩:=I.list (SqL.of (K:=X.K) h1)
 obtain ⟨its2,r2,p2,_⟩:=I.list (SqL.of (K:=X.K) h2)
 have l1:=r1.length
 have l2:=r2.length
 rw[xt] at l1 l2
 have hu:=hr.un
 have hu1:X.A.units+8<cLine:=by omega
 by_cases hl:us.length=ws.length
 ·have R:=D5 (A:=X.A) (e:=rG us ws) p1.isList p2.isList (by rw[xA,xA];omega) (by omega) (by
   intro j h1 h2
   obtain ⟨u,eu,g1⟩:=xf r1 h1
   obtain ⟨w,ew,g2⟩:=xf r2 h2
   rw[g1,g2]
   have:=I.xc (A:=X.A.in1) (by rw[CN];omega) (t1 u (xD eu)) (t2 w (xD ew))
   unfold rG
   rw[yc,yc,xI,xI,eu,ew]
   exact this)
  rw[xA, <- l1,p5 hl] at R
  exact R _ _ _ _ ⟨.bl _,H,I,rfl,q⟩
 ·have ne:us.map aJ≠ws.map aJ:=λz=>hl (by have:=congrArg List.length z;simpa using this)
  rw[decide_eq_false ne] at q
  exact SeqAt.RcAt.lists_lengths (A:=X.A) p1.isList p2.isList (by simp;omega) (by omega) _ _ _ _ ⟨.bl false,H,I,rfl,q⟩
end
open PySem PySem.Spec PyProof.Rows
section
variable  {X:Cx}
theorem boolsOf:∀{bs:List Bool} {its:List xw},Vals (bs.map V.bl) its->its=bs.map Value.bool
 | [],_,.nil=>rfl
 | b :: bs,_,.cons r t=>by rw[boolsOf t];cases (show _=Value.bool b from r);rfl
theorem p6:MtR X "list.count" (λx vs H Q=>∃(p:Addr) (bs:List Bool) (k:Bool),x = .ref p/\vs=[.bl k]/\H p=some (.lst (bs.map V.bl))/\Q (.int (bs.count k:Nat)) H):=by
 intro pins s σ H x vs v us Q I rx rv h
 obtain ⟨p,bs,k,rfl,rfl,hp,q⟩:=h
 cases rx
 obtain ⟨u,rfl,ru⟩:=vals1 rv
 cases (show u=Value.bool k from ru)
 obtain ⟨z,its,n,r,e1⟩:=(show aT X.prog X.w H s.heap p (.lst _) from I.hok p _ hp)
 have ei:=boolsOf r
 subst ei
 refine BX Cz ⟨_,e1,rfl⟩ PySem.F.entry_list_count (PySem.F.args_list_count_2 _ _) (SeqAt.list_countAt p _ n _ _ (.bool k) (isBoolOf k)) ⟨e1,λy hy =>?_,?_⟩
 ·have hy':y∈bs.map Value.bool:=by simpa using hy
  obtain ⟨b,_,rfl⟩:=yS.mp hy'
  exact C9 b k
 ·have:(bs.map Value.bool).toArray.toList.countP (isBoolOf k)=bs.count k:=by
   rw[show (bs.map Value.bool).toArray.toList=bs.map Value.bool from rfl,List.countP_map]
   rfl
  rw[this]
  exact ⟨.int _,H,I.tok _,⟨_,rfl⟩,q⟩
end
open PySem PySem.Spec PyProof.Rows
section
variable  {X:Cx}
def p9 (K:xx)(te:TE):TE:=λσ H Q=>te σ H λx H1=>∃(p:Addr) (ts:List (Addr×List Int)),[x]=[.ref p]/\(SqL K H1 p (ts.map λt =>.ref t.1)\/SqT K H1 p (ts.map λt =>.ref t.1))/\(∀t∈ts,SqT K H1 t.1 (t.2.map V.int)) ∧
  ∀(l:Addr) (out:List (Addr×List Int)),H1 l=none->out.Perm ts->out.Pairwise (λa b=>b.2.length<=a.2.length)->Q (.ref l) (upd H1 l (.lst (out.map λt =>.ref t.1)))
theorem j4 {e:Expr}{te:TE}{j:Nat}{p p2 p3 pos kpos kpos2:Pos}(hg:Gl X "sorted")(hm:X.mg "sorted" = none)(hg2:Gl X "len")(hm2:X.mg "len" = none)(hv:yN "sorted" = some (.builtin "sorted"))(he:PE X e te)
    (hs:yA (e :: []) X.env=(false,eval e X.env) :: yA [] X.env:=by rfl)
    (ha:Bh pos (yA (e :: []) X.env)=(false,eval e X.env) :: Bh pos (yA [] X.env):=by rfl)
    (hplain:(Bh pos (yA (e :: []) X.env)).any (·.1)=false:=by rfl) :
    PE X (.Call (.Name "sorted" p) [e] [⟨some "key",.Name "len" p2,kpos⟩,⟨some "reverse",.Constant (.bool true) j p3,kpos2⟩] pos) (p9 X.K te):=by
  intro pins s σ H Q I h
  refine As (dJ I hg hm hv ?_)
  refine Cw (thn ((aa he ag hs) pos pins s σ H (λvs H1=>∃(p:Addr) (ts:List (Addr×List Int)),vs=[.ref p]/\(SqL X.K H1 p (ts.map λt:Addr×List Int=>V.ref t.1)\/SqT X.K H1 p (ts.map λt:Addr×List Int=>V.ref t.1))/\(∀t∈ts,SqT X.K H1 t.1 (t.2.map V.int)) ∧
    ∀(l:Addr) (out:List (Addr×List Int)),H1 l=none->out.Perm ts->out.Pairwise (λa b:Addr×List Int=>b.2.length<=a.2.length)->Q (.ref l) (upd H1 l (.lst (out.map λt:Addr×List Int=>V.ref t.1)))) I h) λus s1 ⟨vs,H1,I1,r1,q1⟩ =>?_) ha hplain rfl rfl
  show x8 _ _ (evalAll ((do let v ← eval (.Name "len" p2) X.env;standAt pos;pure v) :: (do let v ← eval (.Constant (.bool true) j p3) X.env;standAt pos;pure v) :: [])) _ _ s1
  refine Ci (xu (dJ I1 hg2 hm2 Eu (xu (Br (xJ ?_)))))
  refine Ci (xu (Constant_bool (xu (Br (xJ (DQ ?_))))))
  show x8 _ _ (call (.builtin "sorted") us [("key",.builtin "len"),("reverse",.bool true)]) _ _ s1
  obtain ⟨a,ts,rfl,hq,ht,q⟩:=q1
  obtain ⟨u,rfl,ru⟩:=vals1 r1
  cases (show u=xV a from ru)
  obtain ⟨its,o,n,rv,e1,c1,d1,z1⟩:=I1.jq hq
  have ei:=fH rv
  have lz:its.length<=xG:=by rw[<- rv.length];exact z1
  have li:its.length=ts.length:=by rw[ei,xt]
  refine Srt.fX (rv:=true) (f :=.builtin "len") (kz:=ts.map λt=>(t.2.length:Int)) (Srt.dW e1 c1 d1 lz) lz (by rw[xt,li]) (ksk_s2 _ _ _) (λx=>ksk_l2 _ _ _) (λx=>ksk_t5 _ _ _) ?turn λh' tk l out m k hl el ko =>?fin
  case turn =>
    intro i u k hu hk A h tk kp Q E q
    rw[ei,xI] at hu
    rw[xI] at hk
    cases et:ts[i]? with
    | none=>rw[et] at hu;cases hu
    | some t =>
      rw[et] at hu hk
      cases hu
      cases hk
      obtain ⟨jts,jr,⟨jo,je,jc,jn,jd⟩,jz⟩:=I1.tuple (ht t (xD et))
      have hl:=jr.length
      rw[xt] at hl jz
      have hz:=eR
      refine len_tuple (s:={ s1 with heap:=h,toks:=tk }) ⟨jo,kp _ _ je,jc,jn,jd⟩ (by simp only[xA];omega) ?_
      have e:((jts.toArray.size:Nat):Int)=(t.2.length:Int):=by rw[xA,hl]
      rw[e]
      exact q _ _
  case fin =>
    obtain ⟨ps,pm,eo,pw⟩:=ko
    rw[ei,jt] at pm
    obtain ⟨out',pm',rfl⟩:=dX pm
    have eo':out=out'.map λt=>xV t.1:=by rw[eo,yt];rfl
    subst eo'
    refine ⟨.ref l,_,I1.laid (t':=tk) (o :=.lst (out'.map λt:Addr×List Int=>V.ref t.1)) k hl ⟨(by rw[xt,pm'.length_eq, <- xt (f:=λt:Addr×List Int=>V.ref t.1)];exact z1),_,m,dE,el⟩,rfl,q l _ (I1.hok.fresh hl) pm' ?_⟩
    refine (yG.mp pw).imp λ{x y} le =>?_
    rw[if_pos rfl] at le
    have:(y.2.length:Int)<=(x.2.length:Int):=le
    omega
end
theorem set_dict {X:Cx}(hu:X.A.units+1<cLine):ve X (λo i v H Q=>∃a H',o = .ref a/\gZ H a i v H'/\Q H'):=by
 intro pins s σ H o i v ov iv u Q I ro ri rv h
 obtain ⟨a,H',rfl,g,q⟩:=h
 cases ro
 exact kJ hu I g ri rv λs' I'=>⟨H',I',q⟩
theorem vV {X:Cx}{k:Nat}(hr:bY k X.A):OpR X (Aa .NotEq) (λx y H Q=>∃(a b:Addr) (xs:List V),x = .ref a/\y = .ref b/\H a=some (.lst xs)/\H b=some (.lst [])/\(xs=[]->Q (.bl false) H)/\(xs≠[]->Q (.bl true) H)):=by
 intro pins s σ H x y v u Q I rx ry h
 obtain ⟨a,b,xs,rfl,rfl,h1,h2,q0,q1⟩:=h
 cases (show v=xV a from rx)
 cases (show u=xV b from ry)
 obtain ⟨i1,r1,p1,_⟩:=I.list (SqL.of (K:=X.K) h1)
 obtain ⟨i2,r2,p2,_⟩:=I.list (SqL.of (K:=X.K) h2)
 have l1:=r1.length
 have l2:=r2.length
 rw[Az] at l2
 have hu:=hr.un
 have hu1:X.A.units<cLine:=by omega
 by_cases c:xs=[]
 ·subst c
  rw[Az] at l1
  have R:=SeqAt.RcNeAt.lists (A:=X.A) (e:=λ_=>true) p1.isList p2.isList (by rw[xA,xA];omega) hu1 (λj g1 _=>by rw[xA] at g1;omega)
  rw[xA, <- l1] at R
  exact R _ _ _ _ ⟨.bl false,H,I,rfl,q0 rfl⟩
 ·have:=AI.mpr c
  exact SeqAt.RcNeAt.lists_lengths (A:=X.A) p1.isList p2.isList (by simp;omega) hu1 _ _ _ _ ⟨.bl true,H,I,rfl,q1 c⟩
end L2
namespace L2.MnT
open PySem PyProof.Rows
section
variable  {prog:xX}{w:yv}{A:yy}{E:xw->xy->Prop}{I:Addr}{fp wr:List Addr}{n:Nat}{P:Nat->xw->Prop}{St:Nat->Heap->Prop}
def Cmp (prog:xX)(w:yv)(A:yy)(P:Nat->xw->Prop)(St:Nat->Heap->Prop)(bt:Nat->Nat->Bool):Prop :=
 ∀k i j x y (s:xy) (Q E:xw->xy->Prop),St k s.heap->P i x->P j y->Q (.bool (bt i j)) s->x8 (x9 prog w) A (richCompare .Lt x y) Q E s
abbrev Bag (S:Addr)(xs:Array xw)(c:Nat)(h:Heap):Prop:=h.get? S=some { cls :=.type "list",dict:=none,data :=.seq xs c,slots := #[] }
abbrev Kept (wr:List Addr)(S:Addr)(h h':Heap):Prop:=∀b o,b∉wr->b≠S->h.get? b=some o->h'.get? b=some o
theorem loop {R:Result->xy->Prop}(W:Walks prog w A.in1 I fp wr n P St){bt:Nat->Nat->Bool}(C:Cmp prog w A.in1 P St bt){S:Addr}(nS:S∉fp):∀(d j:Nat) (s:xy) (best:xw) (c:Nat),n=j+1+d->St (j+1) s.heap->P (argBest bt j) best->Bag S #[best,best] c s.heap →
  (∀v h' tk,P (argBest bt (n-1)) v->Kept wr S s.heap h'->R (.ok (.ret v)) { s with heap:=h',toks:=tk })->Bv (x9 prog w) A (.builtin "min.loop" ⟨[.ref I,.none,.ref S],[]⟩) R s:=by
 have nw:S∉wr:=λh=>nS (W.sub _ h)
 have nm:(toString "min" ++ toString ".loop" : String) = "min.loop" := by decide
 intro d
 induction d with
 | zero =>
  intro j s best c hn st pb bg hR
  have e:j+1=n:=by omega
  rw[e] at st
  refine yI Bz ?_
  rw[yB zt _]
  show x8 _ _ (seqItems? (.ref S) >>= _) _ _ s
  refine xu (zB bg rfl ?_)
  show x8 _ _ (tryCatch (pyNext (.ref I)) _ >>= _) _ _ s
  refine xu (Cr (W.done s _ _ st λh1 tk kp =>?_))
  show x8 _ _ (updateSeq S (λ_ => #[]) >>= _) _ _ _
  refine xu ?_
  refine C7 (kp S _ nw bg) rfl (xu (A1 (xJ (hR best _ tk (by rw[<- e];exact pb) ?_))))
  exact λb o nb ns eb=>(x6 _ _ (zj ns)).trans (kp b o nb eb)
 | succ d ih =>
  intro j s best c hn st pb bg hR
  refine yI Bz ?_
  rw[yB zt _]
  show x8 _ _ (seqItems? (.ref S) >>= _) _ _ s
  refine xu (zB bg rfl ?_)
  show x8 _ _ (tryCatch (pyNext (.ref I)) _ >>= _) _ _ s
  refine xu (Cr (W.item (j+1) s _ _ (by omega) st λv h1 tk pv st1 kp =>?_))
  have bg1:=kp S _ nw bg
  show x8 _ _ (tryCatch (Ek [v,v] (richCompare .Lt v best >>= _)) _ >>= _) _ _ _
  refine xu (Cr (zG (xu (C (j+1+1) (j+1) (argBest bt j) v best _ _ _ st1 pv pb ?_))))
  refine xu (zG (zP ?_))
  refine xu (A1 (xJ ?_))
  by_cases hb:bt (j+1) (argBest bt j)=true
  ·have ea:argBest bt (j+1)=j+1:=by simp only[argBest,hb,if_true]
   rw[hb]
   simp only[if_true]
   refine xu ?_
   refine C7 bg1 rfl (xu (A1 ?_))
   rw[nm]
   refine xJ ⟨zH zt _,ih (j+1) _ v _ (by omega) (W.frame _ _ _ st1 λb fb o eb =>?_) (by rw[ea];exact pv) (yn _ bg1 rfl) λv2 h2 tk2 p2 k2=>hR v2 h2 tk2 p2 λb o nb ns eb=>k2 b o nb ns ?_⟩
   ·exact (x6 _ _ (λz:S=b=>nS (z ▸ fb))).trans eb
   ·exact (x6 _ _ (zj ns)).trans (kp b o nb eb)
  ·have ea:argBest bt (j+1)=argBest bt j:=by simp only[argBest,hb];rfl
   rw[zO.mpr hb]
   simp only[zp,if_false]
   refine xu (A1 ?_)
   rw[nm]
   exact xJ ⟨zH zt _,ih (j+1) _ best c (by omega) st1 (by rw[ea];exact pb) bg1 λv2 h2 tk2 p2 k2=>hR v2 h2 tk2 p2 λb o nb ns eb=>k2 b o nb ns (kp b o nb eb)⟩
theorem first {R:Result->xy->Prop}(W:Walks prog w A.in1 I fp wr n P St){bt:Nat->Nat->Bool}(C:Cmp prog w A.in1 P St bt){S:Addr}(nS:S∉fp)(hn:0<n){s:xy}{c:Nat}(st:St 0 s.heap)(bg:Bag S #[] c s.heap)
  (hR:∀v h' tk,P (argBest bt (n-1)) v->Kept wr S s.heap h'->R (.ok (.ret v)) { s with heap:=h',toks:=tk }):Bv (x9 prog w) A (.builtin "min.loop" ⟨[.ref I,.none,.ref S],[]⟩) R s:=by
 have nw:S∉wr:=λh=>nS (W.sub _ h)
 have nm:(toString "min" ++ toString ".loop" : String) = "min.loop" := by decide
 refine yI Bz ?_
 rw[yB zt _]
 show x8 _ _ (seqItems? (.ref S) >>= _) _ _ s
 refine xu (zB bg rfl ?_)
 show x8 _ _ (tryCatch (pyNext (.ref I)) _ >>= _) _ _ s
 refine xu (Cr (W.item 0 s _ _ hn st λv h1 tk pv st1 kp =>?_))
 have bg1:=kp S _ nw bg
 show x8 _ _ (updateSeq S (λ_ => #[v,v]) >>= _) _ _ _
 refine xu ?_
 refine C7 bg1 rfl ?_
 rw[nm]
 refine xJ ⟨zH zt _,loop W C nS (n-1) 0 _ v _ (by omega) (W.frame _ _ _ st1 λb fb o eb =>?_) pv (yn _ bg1 rfl) λv2 h2 tk2 p2 k2=>hR v2 h2 tk2 p2 λb o nb ns eb=>k2 b o nb ns ?_⟩
 ·exact (x6 _ _ (λz:S=b=>nS (z ▸ fb))).trans eb
 ·exact (x6 _ _ (zj ns)).trans (kp b o nb eb)
def Goes (prog:xX)(w:yv)(A:yy)(Q:xw->xy->Prop)(it:xw)(s:xy):Prop:=∃I fp wr n P St bt,it = .ref I/\Walks prog w A.in1 I fp wr n P St/\St 0 s.heap/\(∀b∈fp,b<s.heap.objs.size)/\0<n/\Cmp prog w A.in1 P St bt ∧
 ∀v h' tk,P (argBest bt (n-1)) v->(∀b o,b∉wr->s.heap.get? b=some o->h'.get? b=some o)->Q v { s with heap:=h',toks:=tk }
theorem xg {s:xy}{x:xw}{Q:xw->xy->Prop}(h:x8 (x9 prog w) A.in1 (pyIter x) (Goes prog w A Q) E s):x8 (x9 prog w) A (call (.builtin "min") [x]) Q E s:=by
 have nm:(toString "min" ++ toString ".loop" : String) = "min.loop" := by decide
 refine call_function_tree PySem.F.kind_min PySem.F.plain_min PySem.F.entry_min (PySem.F.args_min1 _) ?_
 show x8 _ _ (Builtin.Builtins.bindParams "min" ["key", "default"] 0 ⟨[],[]⟩ >>= _) _ _ s
 refine xu (wpAny_of_eq (a:=[none,none]) rfl ?_)
 refine xu (xJ ?_)
 refine xu (zk h (λit s2 g =>?_) λ_ _ e=>e)
 obtain ⟨I,fp,wr,n,P,St,bt,rfl,W,st,hf,hn,C,hq⟩:=g
 refine xu (Ad ?_)
 rw[nm]
 refine xJ ⟨zH zt _,first W C (S:=s2.heap.objs.size) (λhm=>yV _ (hf _ hm)) hn (W.frame _ _ _ st λb _ o e=>xv _ e) (xF _ rfl) λv h' tk pv kp =>?_⟩
 exact hq v h' tk pv λb o nb e=>kp b o nb (x5 (xE e)) (xv _ e)
theorem best (g:Nat->List Int):∀k,(argBest (λi j=>HT.lexLt (g i) (g j)) k<=k)/\∀j,j<=k->HT.lexLt (g j) (g (argBest (λi j=>HT.lexLt (g i) (g j)) k))=false
 | 0=>⟨xC _,λj hj=>by rw[Nat.le_zero.mp hj];exact Srt.lex_irrefl _⟩
 | k+1=>by
  obtain ⟨l,ih⟩:=best g k
  by_cases hb:HT.lexLt (g (k+1)) (g (argBest (λi j=>HT.lexLt (g i) (g j)) k))=true
  ·have ea:argBest (λi j=>HT.lexLt (g i) (g j)) (k+1)=k+1:=by simp only[argBest,hb,if_true]
   rw[ea]
   refine ⟨xC _,λj hj =>?_⟩
   by_cases e:j=k+1
   ·rw[e];exact Srt.lex_irrefl _
   ·refine zO.mpr λz =>?_
    have:=ih j (by omega)
    rw[Srt.lex_trans _ _ _ z hb] at this
    cases this
  ·have ea:argBest (λi j=>HT.lexLt (g i) (g j)) (k+1)=argBest (λi j=>HT.lexLt (g i) (g j)) k:=by simp only[argBest,hb];rfl
   rw[ea]
   refine ⟨by omega,λj hj =>?_⟩
   by_cases e:j=k+1
   ·rw[e];exact zO.mpr hb
   ·exact ih j (by omega)
end
end L2.MnT
namespace L2
open PySem PySem.Spec PyProof.Rows
section
variable  {X:Cx}
end
end L2
namespace L2.MnW
open PySem PyProof.Rows PySem.SeqAt PySem.MeetsSeq PySem.MeetsSeq2 PySem.MeetsSeq3
open PySem.AutoSeq1 (wpAny_loadPart')
def ob (c:String)(dd:Option Addr)(xs:Array xw)(n:Nat)(sl:Array (Option xw)):Obj:={ cls :=.type c,dict:=dd,data :=.seq xs n,slots:=sl }
theorem nQ (l b:Addr)(xs ys:Array xw)(n k:Nat)(dd ee:Option Addr)(sl tl:Array (Option xw))(i j:Int)(t u:Tok)(hx:xs[0]? = some (.int i t))(hy:ys[0]? = some (.int j u))(ne:i≠j) :
  Meets (Builtin.«list.__lt__» ⟨[.ref l,.ref b],[]⟩) (λA R s=>s.heap.get? l=some (ob "list" dd xs n sl)/\s.heap.get? b=some (ob "list" ee ys k tl)/\R (.ok (.ret (.bool (decide (i<j))))) s):=by
 intro prog w A R s h
 obtain ⟨hp,g,d,tk,os⟩:=s
 obtain ⟨hl,hb,h⟩:=h
 unfold ob at hl hb
 have f3:=AutoSeq1.sub_list_list
 have x0:xs[(0:Int).toNat]? = some (.int i t):=hx
 have y0:ys[(0:Int).toNat]? = some (.int j u):=hy
 have eq:EqAt A.in1 ⟨hp,g,d,tk,os⟩ (.int i t) (.int j u) false:=by
  have:=EqAt.int_int (A:=A.in1) (s:=⟨hp,g,d,tk,os⟩) i t j u
  rwa [show (i == j)=false from by simpa using ne] at this
 wp_walk using wpAny_loadPart' hl,wpAny_loadPart' hb
 refine ⟨zH plain_eq_loop _,yI entry_eq_loop ?_⟩
 rw[yB plain_eq_loop _]
 wp_walk using wpAny_loadPart' hl,wpAny_loadPart' hb
 rw[x0,y0]
 refine xu (eq prog w _ _ ?_)
 wp_walk using wpAny_loadPart' hl,wpAny_loadPart' hb
 rw[x0,y0]
 have lt:=HT.gj A.in1 ⟨hp,g,d,tk,os⟩ i t j u prog w
 wp_walk using lt
 exact h
def ltW (i j:Int)(e r:Bool):Bool:=if i=j then (!e && r) else decide (i<j)
theorem nR (l b P R':Addr)(xs ys:Array xw)(n k:Nat)(dd ee:Option Addr)(sl tl:Array (Option xw))(i j:Int)(t u:Tok)(hx:xs.toList=[.int i t,.ref P])(hy:ys.toList=[.int j u,.ref R'])(e r:Bool) :
  Meets (Builtin.«tuple.__lt__» ⟨[.ref l,.ref b],[]⟩) (λA R s=>s.heap.get? l=some (ob "tuple" dd xs n sl)/\s.heap.get? b=some (ob "tuple" ee ys k tl)/\EqAt A.in1 s (.ref P) (.ref R') e ∧
   (e=false->∀(prog:xX) (w:yv) (E Q:xw->xy->Prop),Q (.bool r) s->x8 (x9 prog w) A.in1 (richCompare .Lt (.ref P) (.ref R')) Q E s)/\R (.ok (.ret (.bool (ltW i j e r)))) s) :=
 .of_wp λprog w A R s h=>by
  obtain ⟨hp,g,d,tk,os⟩:=s
  obtain ⟨hl,hb,he,hr,h⟩:=h
  unfold ob at hl hb
  have f2:=Cs
  have sz:xs.size=ys.size:=by rw[<- xK, <- xK,hx,hy];rfl
  have e1:EqAt A.in1 ⟨hp,g,d,tk,os⟩ (.int i t) (.int j u) (i == j):=EqAt.int_int i t j u
  wp_walk using wpAny_loadPart' hl,wpAny_loadPart' hb,wpAny_forIn_list _ (λrest q s'=>q.1=none/\s'=⟨hp,g,d,tk,os⟩/\(rest=[(.int i t,.int j u),(.ref P,.ref R')]\/(i=j/\rest=[(.ref P,.ref R')])\/(i=j/\e=true/\rest=[]))) _
  case turn =>
   rintro ⟨y,x⟩ rest q s' ⟨q0,rfl,z | z | z⟩
   ·injection z with z1 z2
    injection z1 with z3 z4
    subst z3 z4 z2
    refine xu (e1 prog w _ _ ?_)
    by_cases c:i=j
    ·rw[show (i == j)=true from by simpa using c]
     wp_walk
     exact ⟨rfl,rfl,.inr (.inl ⟨c,rfl⟩)⟩
    ·rw[show (i == j)=false from by simpa using c]
     have lt:=HT.gj A.in1 ⟨hp,g,d,tk,os⟩ i t j u prog w
     wp_walk using lt
     unfold ltW at h
     rw[if_neg c] at h
     exact ⟨_,rfl,h⟩
   ·obtain ⟨c,z⟩:=z
    injection z with z1 z2
    injection z1 with z3 z4
    subst z3 z4 z2
    refine xu (he prog w _ _ ?_)
    unfold ltW at h
    rw[if_pos c] at h
    cases e with
    | true =>
     wp_walk
     exact ⟨rfl,rfl,.inr (.inr ⟨c,rfl,rfl⟩)⟩
    | false =>
     have lt:=hr rfl prog w
     wp_walk using lt
     exact ⟨_,rfl,by simpa using h⟩
   ·cases z.2.2
  case fin =>
   rintro ⟨b1,b2⟩ s' ⟨q0,rfl,z | z | z⟩
   ·cases z
   ·cases z.2
   ·simp only at q0
    subst q0
    obtain ⟨c,e0,_⟩:=z
    unfold ltW at h
    rw[if_pos c,e0] at h
    wp_walk
    refine ⟨_,rfl,?_⟩
    have:Builtin.Tuple.tupleCompareSizes .Lt xs.size ys.size = .bool false:=by
     unfold Builtin.Tuple.tupleCompareSizes
     rw[sz]
     simp
    rw[this]
    exact h
  case h =>
   refine ⟨rfl,rfl,.inl ?_⟩
   rw[hx,hy];rfl
structure Wt where
 a:Addr
 w:Int
 l:Addr
 h:Int
 r:List Int
def TW (h:Heap)(t:Wt):Prop:=∃xs ys n k dd ee sl tl tok,h.get? t.a=some (ob "tuple" dd xs n sl)/\xs.toList=[.int t.w tok,.ref t.l]/\h.get? t.l=some (ob "list" ee ys k tl)/\zJ ys.toList (t.h :: t.r)
theorem TW.at {h h':Heap}{t:Wt}(x:TW h t)(e1:∀o,h.get? t.a=some o->h'.get? t.a=some o)(e2:∀o,h.get? t.l=some o->h'.get? t.l=some o):TW h' t :=
 let ⟨xs,ys,n,k,dd,ee,sl,tl,tok,a,b,c,d⟩:=x
 ⟨xs,ys,n,k,dd,ee,sl,tl,tok,e1 _ a,b,e2 _ c,d⟩
theorem fk:∀{vs:List xw} {ns:List Int},zJ vs ns->∀(j:Nat) (h:j<vs.length),∃t,vs[j] = .int (ns.getD j 0) t
 | _,_,.nil,j,h=>absurd h (Ee j)
 | _,_,.cons a t r,0,_=>⟨t,rfl⟩
 | _,_,.cons a t r,j+1,h=>by
  obtain ⟨u,e⟩:=fk r j (by simpa using h)
  exact ⟨u,by simpa using e⟩
def ord (t u:Wt):Bool:=HT.lexLt [t.w,t.h] [u.w,u.h]
section
variable  {prog:xX}{w:yv}{A:yy}{s:xy}
theorem comp {t u:Wt}{Q E:xw->xy->Prop}(ht:TW s.heap t)(hu:TW s.heap u)(same:t=u\/(t.h≠u.h/\t.r.length=u.r.length))(hun:A.units+4<cLine)(h:Q (.bool (ord t u)) s):x8 (x9 prog w) A (richCompare .Lt (.ref t.a) (.ref u.a)) Q E s:=by
 obtain ⟨xs,ys,n,k,dd,ee,sl,tl,tok,g1,x1,g2,y1⟩:=ht
 obtain ⟨xs',ys',n',k',dd',ee',sl',tl',tok',g1',x1',g2',y1'⟩:=hu
 have u1:A.in1.units<cLine:=by show A.units+_<cLine;omega
 have lx:=y1.length
 have lx':=y1'.length
 have sy:ys.toList.length=ys.size:=xK
 have sy':ys'.toList.length=ys'.size:=xK
 rw[yo] at lx lx'
 obtain ⟨tq,z1⟩:=fk y1 0 (by omega)
 obtain ⟨uq,z2⟩:=fk y1' 0 (by omega)
 have z1':ys[0]? = some (.int t.h tq):=by rw[<- xU,xP (by omega),z1];rfl
 have z2':ys'[0]? = some (.int u.h uq):=by rw[<- xU,xP (by omega),z2];rfl
 have go:∀e r,EqAt A.in1 s (.ref t.l) (.ref u.l) e->(e=false->∀(prog:xX) (w:yv) (E Q:xw->xy->Prop),Q (.bool r) s->x8 (x9 prog w) A.in1 (richCompare .Lt (.ref t.l) (.ref u.l)) Q E s)->ltW t.w u.w e r=ord t u->x8 (x9 prog w) A (richCompare .Lt (.ref t.a) (.ref u.a)) Q E s:=λe r he hr eo =>
  Al (op :=.Lt) ⟨_,g1,rfl⟩ ⟨_,g1',rfl⟩ AU Bw (Bj _ _) (nR t.a u.a t.l u.l xs xs' n n' dd dd' sl sl' t.w u.w tok tok' x1 x1' e r)
   ⟨g1,g1',he,hr,show Value.bool _≠Value.notImplemented/\Q _ s from ⟨(λx=>nomatch x),eo ▸ h⟩⟩ (by omega)
 rcases same with rfl | ⟨ne,lr⟩
 ·refine go true false (EqAt.same _) (λz=>by cases z) ?_
  unfold ltW ord
  rw[if_pos rfl,Srt.lex_irrefl];rfl
 have nl:t.l≠u.l:=λe=>by
  rw[e,g2'] at g2
  have e2:ys'=ys:=by
   unfold ob at g2
   injection g2 with g2
   injection g2 with _ _ g3 _
   injection g3
  rw[e2,z1'] at z2'
  injection z2' with z2'
  injection z2' with z2'
  exact ne z2'
 have rc:=RcAt.lists (A:=A.in1) (s:=s) (e:=λj=>((t.h :: t.r).getD j 0 == (u.h :: u.r).getD j 0)) (show s.heap.IsList t.l ys from ⟨_,g2,rfl,_,rfl⟩) (show s.heap.IsList u.l ys' from ⟨_,g2',rfl,_,rfl⟩) (by omega) u1 (λj h1 h2=>by
  obtain ⟨q1,e1⟩:=fk y1 j (by omega)
  obtain ⟨q2,e2⟩:=fk y1' j (by omega)
  rw[show ys[j]=_ from e1,show ys'[j]=_ from e2]
  exact EqAt.int_int _ q1 _ q2)
 have ff:(yP ys.size).all (λj=>((t.h :: t.r).getD j 0 == (u.h :: u.r).getD j 0))=false:=by
  rw[List.all_eq_false]
  exact ⟨0,AL.mpr (by omega),by simpa using ne⟩
 rw[ff] at rc
 refine go false (decide (t.h<u.h)) (EqAt.of_refs nl rc) (λ_ prog w E Q q =>?_) ?_
 ·exact Al (op :=.Lt) ⟨_,g2,rfl⟩ ⟨_,g2',rfl⟩ PySem.F.slot_list_lt PySem.F.entry_list_lt (PySem.F.args_list_lt_2 _ _) (nQ t.l u.l ys ys' k k' ee ee' tl tl' t.h u.h tq uq z1' z2' ne)
   ⟨g2,g2',show Value.bool _≠Value.notImplemented/\Q _ s from ⟨(λx=>nomatch x),q⟩⟩ u1
 ·unfold ltW ord
  rw[HT.bb,HT.bb]
  by_cases c:t.w=u.w
  ·rw[if_pos c,if_pos c,if_neg ne];simp
  ·rw[if_neg c,if_neg c]
theorem more {I:Addr}{fp wr:List Addr}{n:Nat}{P:Nat->xw->Prop}{St:Nat->Heap->Prop}(W:Walks prog w A I fp wr n P St)(ts:List Wt)(n1:∀t∈ts,t.a∉wr)(n2:∀t∈ts,t.l∉wr):Walks prog w A I (fp++(ts.map (·.a)++ts.map (·.l))) wr n P (λi h=>St i h/\∀t∈ts,TW h t) where
 sub:=λb hb=>zI _ (W.sub b hb)
 frame:=λi h h' x hk=>⟨W.frame i h h' x.1 λb hb o e=>hk b (zI _ hb) o e,λt ht=>(x.2 t ht).at (hk t.a (yg _ (zI _ (y9 ht)))) (hk t.l (yg _ (yg _ (y9 ht))))⟩
 item:=λi s Q E hi x hQ=>W.item i s Q E hi x.1 λv h' tk pv st' kp=>hQ v h' tk pv ⟨st',λt ht=>(x.2 t ht).at (λo=>kp t.a o (n1 t ht)) λo=>kp t.l o (n2 t ht)⟩ kp
 done:=λs Q E x hQ=>W.done s Q E x.1 hQ
 self:=λi s Q E x hQ=>W.self i s Q E x.1 hQ
end
end L2.MnW
namespace L2
open PySem PySem.Spec PyProof.Rows
theorem qa {X:Cx}(hc:X.calm=true)(hu:X.A.units+8<cLine):cc X (.builtin "min") (λxs H Q=>∃(p:Addr) (ts:List MnW.Wt),xs=[.ref p]/\H p=some (.lst (ts.map λt =>.ref t.a))/\(∀t∈ts,H t.a=some (.tup [.int t.w,.ref t.l])/\H t.l=some (.lst ((t.h :: t.r).map V.int))) ∧
  (ts.map (·.h)).Nodup/\(∀t∈ts,∀u∈ts,t.r.length=u.r.length)/\ts≠[]/\∀t∈ts,(∀u∈ts,MnW.ord u t=false)->Q (.ref t.a) H):=by
 intro pins s σ H xs us Q I r h
 obtain ⟨p,ts,rfl,hS,hT,hnd,hl,hne,q⟩:=h
 obtain ⟨u,rfl,ru⟩:=vals1 r
 cases (show u=xV p from ru)
 obtain ⟨its,r1,p1,_⟩:=I.list (SqL.of hS)
 have hL:s.heap.IsList p its.toArray:=p1.isList
 have ll:=r1.length
 rw[xt] at ll
 have hp:0<ts.length:=AI.mpr hne
 have TWs:∀t∈ts,MnW.TW s.heap t:=λt ht=>by
  obtain ⟨a1,a2⟩:=hT t ht
  obtain ⟨i2,r2,p2,_⟩:=I.tuple (SqT.of a1)
  obtain ⟨i3,r3,p3,_⟩:=I.list (SqL.of a2)
  obtain ⟨⟨c1,d1,k1,s1⟩,g1,e1,n1,f1⟩:=p2
  obtain ⟨⟨c2,d2,k2,s2⟩,g2,e2,n2,f2⟩:=p3.isList
  simp only at e1 f1 e2 f2
  subst e1 f1 e2 f2
  obtain ⟨x,y,e3,rx,ry⟩:=vals2 r2
  obtain ⟨tok,rfl⟩:=rx
  cases ry
  exact ⟨_,_,n1,n2,d1,d2,s1,s2,tok,g1,by rw[e3],g2,intsAre_of r3⟩
 have hlt:∀t∈ts,t.a<s.heap.objs.size/\t.l<s.heap.objs.size:=λt ht=>by
  obtain ⟨_,_,_,_,_,_,_,_,_,g1,_,g2,_⟩:=TWs t ht
  exact ⟨xE g1,xE g2⟩
 have hpl:p<s.heap.objs.size:=by obtain ⟨_,e,_⟩:=hL;exact xE e
 have at_:∀(i:Nat) (v:xw),its.toArray[i]? = some v->∃t:MnW.Wt,ts[i]? = some t/\v=xV t.a:=λi v hv=>by
  rw[Ar] at hv
  have hi:i<ts.length:=by rw[ll];exact (xB.mp hv).1
  obtain ⟨w',ew,rw'⟩:=r1.get (show (ts.map λt=>V.ref t.a)[i]? = some (.ref ts[i].a) by rw[xI,xP hi];rfl)
  rw[ew] at hv
  exact ⟨ts[i],xP hi,(ym hv).symm.trans rw'⟩
 have apart:∀(i j:Nat) (t u:MnW.Wt),ts[i]? = some t->ts[j]? = some u->t=u\/(t.h≠u.h/\t.r.length=u.r.length):=λi j t u et eu=>by
  by_cases c:i=j
  ·subst c;rw[et] at eu;exact .inl (ym eu)
  ·refine .inr ⟨λe=>c ?_,hl t (xD et) u (xD eu)⟩
   have e1:(ts.map (·.h))[i]? = some t.h:=by rw[xI,et];rfl
   have e2:(ts.map (·.h))[j]? = some u.h:=by rw[xI,eu];rfl
   rw[<- e] at e2
   obtain ⟨i1,f1⟩:=xB.mp e1
   obtain ⟨j1,f2⟩:=xB.mp e2
   exact (DX hnd).mp (f1.trans f2.symm)
 have new:∀b,b<s.heap.objs.size->b∉[s.heap.objs.size]:=λb hb hm=>by
  rw[yd.mp hm] at hb
  exact yV _ hb
 refine MnT.xg (BD hL ?_)
 refine ⟨s.heap.objs.size,_,_,its.toArray.size,_,_,λi j=>MnW.ord (ts.getD i ⟨0,0,0,0,[]⟩) (ts.getD j ⟨0,0,0,0,[]⟩),rfl,MnW.more (Walks.list (A:=X.A.in1) (I.ok.hd hc) s.heap.objs.size p (x5 hpl) its.toArray) ts (λt ht=>new _ (hlt t ht).1) (λt ht=>new _ (hlt t ht).2),⟨⟨⟨_,xF _ rfl,rfl,rfl⟩,hL.push _⟩,λt ht=>(TWs t ht).at (λo e=>xv _ e) λo e=>xv _ e⟩,λb hb =>?_,by rw[xA];omega,?_,λv h' tk pv kp =>?_⟩
 ·show b<(s.heap.push _).objs.size
  rw[AM]
  rcases xS.mp hb with hb | hb
  ·rcases yj.mp hb with rfl | hb
   ·exact CH _
   ·rw[yd.mp hb];exact zy hpl
  ·rcases xS.mp hb with hb | hb
   ·obtain ⟨t,ht,rfl⟩:=yS.mp hb
    exact zy (hlt t ht).1
   ·obtain ⟨t,ht,rfl⟩:=yS.mp hb
    exact zy (hlt t ht).2
 ·intro k i j x y s2 Q2 E2 st hx hy h2
  obtain ⟨t,et,rfl⟩:=at_ i x hx
  obtain ⟨u,eu,rfl⟩:=at_ j y hy
  refine MnW.comp (st.2 t (xD et)) (st.2 u (xD eu)) (apart i j t u et eu) (by show X.A.units+1+4<cLine;omega) ?_
  dsimp only at h2
  rw[yc,yc,et,eu] at h2
  exact h2
 ·obtain ⟨t,et,rfl⟩:=at_ _ v pv
  obtain ⟨b1,b2⟩:=MnT.best (λi=>[(ts.getD i ⟨0,0,0,0,[]⟩).w,(ts.getD i ⟨0,0,0,0,[]⟩).h]) (its.toArray.size-1)
  have kept:∀b o,s.heap.get? b=some o->h'.get? b=some o:=λb o e=>kp b o (new b (xE e)) (xv _ e)
  refine ⟨.ref t.a,H,I.kept kept,rfl,q t (xD et) λu hu' =>?_⟩
  obtain ⟨j,hj,eu⟩:=Dl hu'
  have:=b2 j (by rw[xA];omega)
  have et':ts[argBest (λi j=>HT.lexLt [(ts.getD i ⟨0,0,0,0,[]⟩).w,(ts.getD i ⟨0,0,0,0,[]⟩).h] [(ts.getD j ⟨0,0,0,0,[]⟩).w,(ts.getD j ⟨0,0,0,0,[]⟩).h]) (its.toArray.size-1)]? = some t:=et
  rw[yc (l:=ts) (i:=j),xP hj,eu,yc (l:=ts) (i:=argBest _ _),et'] at this
  exact this
end L2
namespace Kys
open PySem PyProof.Rows Itm
section
variable  {prog:xX}{w:yv}{A:yy}{E:xw->xy->Prop}{s:xy}
def kObj (d:Addr)(i n ep:Nat):Obj:={ cls :=.type "dict_keyiterator",data :=.fields #[.ref d,.int i 0,.int n 0,.int ep 0] }
def KAt (h:Heap)(it d:Addr)(i n ep:Nat):Prop:=h.get? it=some (kObj d i n ep)
theorem KAt.ty {h:Heap}{it d:Addr}{i n ep:Nat}(x:KAt h it d i n ep){g d' t os}:(⟨h,g,d',t,os⟩:xy).TypeIs (.ref it) "dict_keyiterator" :=⟨_,x,rfl⟩
theorem next {it d:Addr}{es:Array DictEntry}{ep i:Nat}{e:DictEntry}{Q:xw->xy->Prop}(hi:KAt s.heap it d i es.size ep)(hd:DE s.heap d es ep)(he:es[i]? = some e)
  (hQ:∀h':Heap,KAt h' it d (i+1) es.size ep->Kp s.heap h' it->Q e.key { s with heap:=h' }):x8 (x9 prog w) A (Builtin.«dict_keyiterator.__next__» ⟨[.ref it],[]⟩) (λfin s'=>∃v,fin = .done (.ret v)/\Q v s') E s:=by
 obtain ⟨⟨oc,odd,odt,os'⟩,hod,hdd⟩:=hd
 dsimp only at hdd
 subst hdd
 unfold KAt kObj at hi
 unfold Builtin.«dict_keyiterator.__next__»
 wp_walk
 rw[show (if (i:Int)<0 then none else es[(i:Int).toNat]?)=some e by rw[if_neg (by omega),yD];exact he]
 wp_walk
 exact ⟨_,rfl,hQ _ (yn _ hi rfl) (cM _)⟩
theorem ended {it d:Addr}{es:Array DictEntry}{ep:Nat}{Q:Fin->xy->Prop}(hh:A.handled=none)(hi:KAt s.heap it d es.size es.size ep)(hd:DE s.heap d es ep)
  (hE:∀(h':Heap) (x:Addr),(∀c o,c≠it->s.heap.get? c=some o->h'.get? c=some o)->(∃o,h'.get? x=some o/\o.cls = .type "StopIteration")->E (.ref x) { s with heap:=h' }):x8 (x9 prog w) A (Builtin.«dict_keyiterator.__next__» ⟨[.ref it],[]⟩) Q E s:=by
 obtain ⟨⟨oc,odd,odt,os'⟩,hod,hdd⟩:=hd
 dsimp only at hdd
 subst hdd
 unfold KAt kObj at hi
 unfold Builtin.«dict_keyiterator.__next__»
 wp_walk
 rw[show (if (es.size:Int)<0 then none else es[(es.size:Int).toNat]?)=none by rw[if_neg (by omega),yD];exact CU (xC _)]
 wp_walk
 refine Dq hh (hE _ _ (λc o n e =>?_) ⟨_,xF _ rfl,rfl⟩)
 exact xv _ (xv _ ((x6 _ _ (zj n)).trans e))
theorem xh {it d:Addr}{es:Array DictEntry}{ep i:Nat}{e:DictEntry}{Q:Option xw->xy->Prop}(hi:KAt s.heap it d i es.size ep)(hd:DE s.heap d es ep)(he:es[i]? = some e)
  (hQ:∀h':Heap,KAt h' it d (i+1) es.size ep->Kp s.heap h' it->Q (some e.key) { s with heap:=h' }):x8 (x9 prog w) A (pyNext (.ref it)) Q E s:=by
 have ht:=hi.ty (g:=s.gens) (d':=s.drawn) (t:=s.toks) (os:=s.os)
 unfold pyNext
 refine xu (zR (zd (name:=Str.ofString "__next__") ht zf (ze zf ht Be (next hi hd he λh' a b =>?_) (Bb _))))
 exact xJ (hQ h' a b)
theorem kEnd {it d:Addr}{es:Array DictEntry}{ep:Nat}{Q:Option xw->xy->Prop}(hh:A.handled=none)(hi:KAt s.heap it d es.size es.size ep)(hd:DE s.heap d es ep)
  (hQ:∀h':Heap,(∀c o,c≠it->s.heap.get? c=some o->h'.get? c=some o)->Q none { s with heap:=h' }):x8 (x9 prog w) A (pyNext (.ref it)) Q E s:=by
 have ht:=hi.ty (g:=s.gens) (d':=s.drawn) (t:=s.toks) (os:=s.os)
 unfold pyNext
 refine xu (zR (zd (name:=Str.ofString "__next__") ht zf (ze zf ht Be (ended (by first | exact hh | (rw[<- hh];rfl)) hi hd λh' x k ⟨o,ex,ec⟩ =>?_) (Bb _))))
 refine xu (BP (T := "StopIteration") (b:=true) ⟨o,ex,ec⟩ Di ?_)
 exact xJ (hQ h' k)
def DO (h:Heap)(d:Addr)(es:Array DictEntry)(ep:Nat):Prop:=∃o,h.get? d=some o/\o.cls = .type "dict" /\ o.data = .dict es ep
theorem made {d:Addr}{es:Array DictEntry}{ep:Nat}{Q:xw->xy->Prop}(hs:(d == sysModules)=false)(hd:DO s.heap d es ep)
  (hQ:Q (.ref s.heap.objs.size) { s with heap:=s.heap.push (kObj d 0 es.size ep) }):x8 (x9 prog w) A (Builtin.«dict.__iter__» ⟨[.ref d],[]⟩) (λfin s'=>∃v,fin = .done (.ret v)/\Q v s') E s:=by
 obtain ⟨⟨oc,odd,odt,os'⟩,hod,hcc,hdd⟩:=hd
 dsimp only at hcc hdd
 subst hcc hdd
 unfold Builtin.«dict.__iter__»
 wp_walk
 exact ⟨_,rfl,hQ⟩
theorem DO.ty {h:Heap}{d:Addr}{es:Array DictEntry}{ep:Nat}(x:DO h d es ep){g d' t os}:(⟨h,g,d',t,os⟩:xy).TypeIs (.ref d) "dict" := let ⟨o,e,c,_⟩:=x;⟨o,e,c⟩
theorem DO.at {h h':Heap}{d:Addr}{es:Array DictEntry}{ep:Nat}(x:DO h d es ep)(k:∀o,h.get? d=some o->h'.get? d=some o):DO h' d es ep:=let ⟨o,e,r⟩:=x;⟨o,k o e,r⟩
theorem xi {d:Addr}{es:Array DictEntry}{ep:Nat}{Q:xw->xy->Prop}(hs:(d == sysModules)=false)(hd:DO s.heap d es ep)
  (hQ:Q (.ref s.heap.objs.size) { s with heap:=s.heap.push (kObj d 0 es.size ep) }):x8 (x9 prog w) A (pyIter (.ref d)) Q E s:=by
 have ht:=hd.ty (g:=s.gens) (d':=s.drawn) (t:=s.toks) (os:=s.os)
 refine DR ht CV (ze CV ht PySem.F.entry_dict_iter (made hs hd ?_) (PySem.F.args_dict_iter_1 _))
 exact ⟨"dict_keyiterator",_,⟨_,xF _ rfl,rfl⟩,zf.lookup,hQ⟩
def bK (es:Array DictEntry)(i:Nat):List xw:=(es.toList.take i).map (·.key)
theorem loop {S I d:Addr}{es:Array DictEntry}{ep:Nat}{R:Result->xy->Prop}(hh:A.handled=none)(hSI:S≠I)(hdS:d≠S)(hdI:d≠I)(hn:es.size<=xG)(res:xw) :
  ∀(k i:Nat) (s:xy) (c:Nat),es.size-i=k->i<=es.size->KAt s.heap I d i es.size ep->DE s.heap d es ep->s.heap.get? S=some (cS (bK es i).toArray c) →
  (∀(h':Heap) (c':Nat),(∀b o,b≠S->b≠I->s.heap.get? b=some o->h'.get? b=some o)->h'.get? S=some (cS (bK es es.size).toArray c')->R (.ok (.ret res)) { s with heap:=h' }) →
  Bv (x9 prog w) A (.builtin "list.extend.loop" ⟨[.ref S,.ref I,res],[]⟩) R s:=by
 intro k
 induction k with
 | zero =>
  intro i s c hk hi hI hD hS hR
  have e:i=es.size:=by omega
  subst e
  refine yI Ax ?_
  rw[yB yU _]
  unfold Builtin.«list.extend.loop»
  dsimp only
  refine xu (kEnd (by first | exact hh | (rw[<- hh];rfl)) hI hD λh' k' =>?_)
  exact xJ (hR h' c (λb o _ n e=>k' b o n e) (k' _ _ hSI hS))
 | succ k ih =>
  intro i s c hk hi hI hD hS hR
  have hlt:i<es.size:=by omega
  obtain ⟨e,he⟩:∃e,es[i]? = some e:=⟨es[i]'hlt,Cp hlt⟩
  have lk:(bK es i).length=i:=by unfold bK;rw[xt,yw,xK];omega
  have ks:bK es (i+1)=bK es i++[e.key]:=by
   unfold bK
   rw[ye,xU,he,xH];rfl
  refine yI Ax ?_
  rw[yB yU _]
  unfold Builtin.«list.extend.loop»
  dsimp only
  refine xu (xh hI hD he λh' I' k' =>?_)
  have hS':=k'.1 _ _ hSI hS
  refine xu (Au (xs:=(bK es i).toArray) (n:=c) hS' rfl ?_ ?_ ?_)
  ·have hS2:=yn (yk (·.push e.key)) hS' rfl
   have oth:∀b o,b≠S->h'.get? b=some o->(h'.update S (yk (·.push e.key))).get? b=some o:=λb o n e=>(x6 _ _ (zj n)).trans e
   obtain ⟨c',ec⟩:∃c',(h'.update S (yk (·.push e.key))).get? S=some (cS (bK es (i+1)).toArray c'):=by
    rw[ks,show (bK es i++[e.key]).toArray=(bK es i).toArray.push e.key by simp]
    exact ⟨_,hS2⟩
   refine xJ ⟨zH yU _,ih (i+1) _ c' (by omega) (by omega) (oth _ _ (zj hSI) I') ?_ ec λh2 c2 k2 e2=>hR h2 c2 (λb o n1 n2 eb=>k2 b o n1 n2 (oth b o n1 (k'.1 b o n2 eb))) e2⟩
   obtain ⟨o,h1,h2⟩:=hD
   exact ⟨o,oth _ _ hdS (k'.1 _ _ hdI h1),h2⟩
  ·rw[xA,lk];omega
  ·show ((bK es i).toArray.push _).size<=_
   rw[zW,xA,lk];omega
theorem hint {d:Addr}{Q:Bool->xy->Prop}(hT:s.TypeIs (.ref d) "dict")(h:Q false s):x8 (x9 prog w) A (B6 (.ref d)) Q E s:=by
 unfold B6
 refine xu (wpAny_specialOf hT PySem.F.slot_dict_len.lookup ?_)
 have sp:splitId "dict.__len__" = some ("dict", "__len__"):=by kernel_rfl
 dsimp only
 rw[sp]
 dsimp only
 refine xu (BP (b:=true) hT (by rw[isSubtype_type];kernel_rfl) ?_)
 simp only[BU,zp,if_false]
 show x8 _ _ (typeOf (.ref d) >>= _) _ _ s
 exact xu (BH hT (xJ h))
theorem extend {S d:Addr}{es:Array DictEntry}{ep:Nat}{R:Result->xy->Prop}(hh:A.handled=none)(hs:(d == sysModules)=false)(hd:DO s.heap d es ep)(hn:es.size<=xG)(res:xw)(c:Nat)(hS:s.heap.get? S=some (cS #[] c))(hdS:d≠S)
  (hR:∀(h':Heap) (tk c':Nat),(∀b o,b≠S->s.heap.get? b=some o->h'.get? b=some o)->h'.get? S=some (cS (bK es es.size).toArray c')->R (.ok (.ret res)) { s with heap:=h',toks:=tk }) :
  x8 (x9 prog w) A.in1 (yZ (.ref S) (.ref d) res)
   (λfin s'=>match fin with | .done f=>R (.ok f) s' | .again c'=>c'.quiet=true/\Bv (x9 prog w) A c' R s') (λe s'=>R (.error e) s') s:=by
 have sameF:AD (.ref S) (.ref d)=false:=by simp[AD,zj hdS]
 have ht:=hd.ty (g:=s.gens) (d':=s.drawn) (t:=s.toks) (os:=s.os)
 unfold yZ
 refine xu (BH (T := "dict") ht ?_)
 rw[sameF]
 refine A2 (λq=>absurd q (by decide +kernel)) λ_ =>?_
 refine xu (xi hs hd ?_)
 have kp:∀b o,s.heap.get? b=some o->(s.heap.push (kObj d 0 es.size ep)).get? b=some o:=λb o e=>xv _ e
 have hd':=hd.at (kp d)
 have hT:=hd'.ty (g:=s.gens) (d':=s.drawn) (t:=s.toks) (os:=s.os)
 refine xu (zG (hint hT ?_))
 refine A2 (λ_ =>?_) λq=>absurd (by decide +kernel) q
 obtain ⟨od,hod,hcd,hdd⟩:=hd
 have hSp:=kp _ _ hS
 unfold cS at hSp
 have t1:=yn (yk (·.push zA)) hSp rfl
 have t2:=yn (yk (·.pop)) t1 rfl
 have up:∀b o,b≠S->s.heap.get? b=some o->(((s.heap.push (kObj d 0 es.size ep)).update S (yk (·.push zA))).update S (yk (·.pop))).get? b=some o:=λb o n e=>by
  rw[x6 _ _ (zj n),x6 _ _ (zj n)];exact kp b o e
 have nI:S≠s.heap.objs.size:=x5 (xE hS)
 wp_walk
 obtain ⟨c2,ec2⟩:∃c2,(((s.heap.push (kObj d 0 es.size ep)).update S (yk (·.push zA))).update S (yk (·.pop))).get? S=some (cS #[] c2):=⟨_,t2⟩
 have hI2:(((s.heap.push (kObj d 0 es.size ep)).update S (yk (·.push zA))).update S (yk (·.pop))).get? s.heap.objs.size=some (kObj d 0 es.size ep):=by
  rw[x6 _ _ nI,x6 _ _ nI];exact xF _ rfl
 exact ⟨zH yU _,loop (ep:=ep) hh nI hdS (x5 (xE hod)) hn res es.size 0 _ c2 rfl (yE _) hI2 ⟨od,up _ _ hdS hod,hdd⟩ ec2 λh' c' k' e'=>hR h' _ c' (λb o n e=>k' b o n (x5 (xE e)) (up _ _ n e)) e'⟩
theorem rB {d:Addr}{es:Array DictEntry}{ep:Nat}{R:Result->xy->Prop}(hh:A.handled=none)(hs:(d == sysModules)=false)(hd:DO s.heap d es ep)(hn:es.size<=xG)
  (h:∀(h':Heap) (tk c':Nat),(∀b o,s.heap.get? b=some o->h'.get? b=some o)->h'.get? s.heap.objs.size=some (cS (bK es es.size).toArray c')->R (.ok (.ret (.ref s.heap.objs.size))) { s with heap:=h',toks:=tk }):Bv (x9 prog w) A (.builtin "proto.collect" ⟨[.ref d],[]⟩) R s:=by
 have kp:∀b o,s.heap.get? b=some o->(s.heap.push (cS #[] 0)).get? b=some o:=λb o e=>xv _ e
 have ld:d<s.heap.objs.size:=let ⟨_,e,_⟩:=hd;xE e
 refine yI AV ?_
 rw[yB AW _]
 unfold Builtin.«proto.collect»
 wp_walk
 refine ⟨zH zF _,yI Bn ?_⟩
 rw[yB zF _]
 exact extend (R:=R) (s:={ s with heap:=s.heap.push (cS #[] 0) }) hh hs (hd.at (kp d)) hn (.ref s.heap.objs.size) 0 (xF _ rfl) (x5 ld) λh' tk c' k' e'=>h h' tk c' (λb o e=>k' b o (x5 (xE e)) (kp b o e)) e'
theorem collect {d:Addr}{es:Array DictEntry}{ep:Nat}{R:List xw->xy->Prop}(hh:A.handled=none)(hs:(d == sysModules)=false)(hd:DO s.heap d es ep)(hn:es.size<=xG)
  (h:∀(h':Heap) (tk:Nat),(∀b o,s.heap.get? b=some o->h'.get? b=some o)->s.heap.objs.size<h'.objs.size->R (es.toList.map (·.key)) { s with heap:=h',toks:=tk }):x8 (x9 prog w) A (PySem.collect (.ref d)) R E s:=by
 have ka:bK es es.size=es.toList.map (·.key):=by unfold bK;rw[xW (by rw[xK];exact xC _)]
 unfold PySem.collect
 refine xu (Cq (rB hh hs hd hn λh' tk c' k' e' =>?_))
 refine xu (C8 e' ?_)
 rw[ka]
 exact xJ (h h' tk k' (xE e'))
end
end Kys
namespace L2
open PySem PySem.Spec PyProof.Rows Srt
section
variable  {X:Cx}
theorem oA {H:Hp}:∀{es:List (List Int×Int)} {xs:List (List Key×Addr×xw)},Paired (λ(p:List Key×V) (q:List Key×Addr×xw)=>p.1=q.1/\H q.2.1=some (.tup (p.1.map kV))/\RelV p.2 q.2.2) (es.map λe=>(e.1.map Sum.inl,V.int e.2)) xs->∃T:List (Addr×List Int),T.map (·.2)=es.map (·.1)/\T.map (·.1)=xs.map (·.2.1)/\∀t∈T,H t.1=some (.tup (t.2.map V.int))
 | [],_,.nil=>⟨[],rfl,rfl,λt h=>by cases h⟩
 | e :: es,x :: xs,.cons h t=>by
  obtain ⟨T,a,b,c⟩:=oA t
  refine ⟨(x.2.1,e.1) :: T,by rw[xR,xR,a],by rw[xR,xR,b],λu hu =>?_⟩
  rcases yj.mp hu with z | z
  ·subst z
   have:=h.2.1
   rw[yt] at this
   exact this
  ·exact c u z
theorem j6 (hh:X.A.handled=none)(hu:X.A.units+8<cLine):cc X (.builtin "sorted") (λxs H Q=>∃(a:Addr) (v0:Int) (es:List (List Int×Int)),xs=[.ref a]/\H a=some (.dT ((([],v0) :: es).map λe=>(e.1.map Sum.inl,V.int e.2))) ∧
  ∀(l:Addr) (out:List (Addr×List Int)),H l=none->(∀o∈out,H o.1=some (.tup (o.2.map V.int)))->(out.map (·.2)).Perm ((([],v0) :: es).map (·.1))->(out.map (·.2)).Pairwise (λx y=>HT.lexLt y x=false)->Q (.ref l) (upd H l (.lst (out.map λo =>.ref o.1)))):=by
 intro pins s σ H xs us Q I r h
 obtain ⟨a,v0,es,rfl,ha,q⟩:=h
 obtain ⟨u,rfl,ru⟩:=vals1 r
 cases (show u=xV a from ru)
 obtain ⟨z,hd,xs,rel,dd⟩:=ou I.hok ha
 have ty:=dd.typeIs
 obtain ⟨o,ees,ep,ho,hc,hdat,hent,_⟩:=id dd
 have oc:o.cls = .type "dict" := by
  obtain ⟨o',e',c'⟩:=ty
  rw[ho] at e'
  cases e'
  exact c'
 obtain ⟨T,T1,T2,T3⟩:=oA rel
 have lx:=AF rel
 rw[xt] at lx z
 have lT:T.length=xs.length:=by have:=congrArg List.length T2;simpa using this
 have lees:ees.size=xs.length:=by have:=congrArg List.length hent;simpa using this
 have ek:ees.toList.map (·.key)=T.map λt=>xV t.1:=by
  rw[hent,yt,show (T.map λt=>xV t.1)=(T.map (·.1)).map xV by rw[yt];rfl,T2,yt]
  rfl
 have tI:∀t∈T,Srt.aV s.heap (xV t.1) t.2:=λt ht=>by
  obtain ⟨jts,jr,⟨jo,je,jc,jn,jd⟩,_⟩:=I.tuple (SqT.of (T3 t ht))
  exact ⟨t.1,jo,_,jn,rfl,je,jc,jd,by simpa using dY jr⟩
 obtain ⟨t0,T',eT,e0⟩:∃t0 T',T=t0 :: T'/\t0.2=[]:=by
  cases T with
  | nil=>cases T1
  | cons t0 T'=>exact ⟨t0,T',rfl,(Bq T1).1⟩
 refine Srt.iC (O:=lexOrd) (key:=λh v=>cG h v) (J:=λh1 vs=>(∀b o,s.heap.get? b=some o->h1.get? b=some o)/\vs=T.map λt=>xV t.1) (λB E R hB hR =>?_) (λh1 vs ⟨_,e⟩ =>?_) (λh1 tk vs ⟨k1,e⟩ h2 B h6 hB k6 =>?_) λh1 h' tk l vs out n k1 z1 ⟨_,ev⟩ k' hl el pm ps =>?_
 ·refine Kys.collect (by rw[hB];exact hh) hd ⟨o,ho,oc,hdat⟩ (by omega) λh1 tk k1 zz =>?_
  rw[ek]
  exact hR h1 tk _ k1 (Ao zz) ⟨k1,rfl⟩
 ·rw[e,xt];omega
 ·have hv:∀v∈xV t0.1 :: T'.map (λt=>xV t.1),∃ns,Srt.aV h1 v ns:=λv hv=>by
   have hv:v∈T.map λt=>xV t.1:=by rw[eT];exact hv
   obtain ⟨t,ht,rfl⟩:=yS.mp hv
   exact ⟨t.2,(tI t ht).keeps k1⟩
  rw[e,eT]
  refine Srt.jZ (s:={ s with heap:=h1,toks:=tk }) hv ?_ B h6 (by omega) k6
  rw[<- e0]
  exact (tI t0 (by rw[eT];exact xT)).keeps k1
 ·rw[ev] at pm
  obtain ⟨out',pm',rfl⟩:=dX pm
  have kk:∀b o,s.heap.get? b=some o->h'.get? b=some o:=λb o e=>k' b o (k1 b o e)
  refine ⟨.ref l,_,I.laid (t':=tk) (o :=.lst (out'.map λt:Addr×List Int=>V.ref t.1)) kk (yf z1 hl) ⟨by rw[xt,pm'.length_eq];omega,_,n,dE,el⟩,rfl,q l _ (I.hok.fresh (yf z1 hl)) (λo ho=>T3 o (pm'.mem_iff.mp ho)) (by rw[<- T1];exact pm'.map _) ?_⟩
  refine yG.mpr ((yG.mp ps).imp_of_mem λ{a b} ha hb le =>?_)
  have le':HT.lexLt (Srt.cG h1 (xV b.1)) (Srt.cG h1 (xV a.1))=false:=le
  rw[((tI a (pm'.mem_iff.mp ha)).keeps k1).ints,((tI b (pm'.mem_iff.mp hb)).keeps k1).ints] at le'
  exact le'
end
open PySem PySem.Spec PySem.W PyProof.Rows
theorem aT.ex {P:xX}{w:yv}{H:Hp}{h:Heap}{a:Addr}{o:HO}(x:aT P w H h a o):∃u,h.get? a=some u:=by
 cases o with
 | lst xs=>obtain ⟨_,_,_,_,e⟩:=x;exact ⟨_,e⟩
 | tup xs=>obtain ⟨_,_,_,_,e,_⟩:=x;exact ⟨_,e⟩
 | dK kvs=>obtain ⟨_,_,_,_,o,_,_,e,_⟩:=x;exact ⟨_,e⟩
 | dT kvs=>obtain ⟨_,_,_,_,o,_,_,e,_⟩:=x;exact ⟨_,e⟩
 | set S n=>obtain ⟨o,_,_,_,e,_⟩:=x;exact ⟨_,e⟩
 | ins C dx fs=>obtain ⟨_,_,_,e,_⟩:=x;exact ⟨_,e⟩
 | own y=>obtain ⟨_,e⟩:=x;exact ⟨_,e⟩
 | xd fs=>obtain ⟨_,⟨_,_,_,e,_⟩,_⟩:=x;exact ⟨_,e⟩
 | rng lo hi=>obtain ⟨_,_,_,e⟩:=x;exact ⟨_,e⟩
 | frz ob u=>obtain ⟨e,_⟩:=x;exact ⟨_,e⟩
 | tbl ps=>exact ⟨_,show h.get? a=some _ from x⟩
 | met f y=>exact ⟨_,show h.get? a=some _ from x⟩
 | ext φ=>obtain ⟨_,⟨_,e⟩,_⟩:=x;exact ⟨_,e⟩
theorem HOk.noth {P:xX}{w:yv}{H:Hp}{h:Heap}{a:Addr}(x:HOk P w H h)(e:h.get? a=none):H a=none:=by
 cases q:H a with
 | none=>rfl
 | some o =>
  obtain ⟨u,z⟩:=(x a o q).ex
  rw[e] at z;cases z
theorem HOk.hide {P:xX}{w:yv}{H:Hp}{h:Heap}{l:List Addr}(x:HOk P w H h)(n:∀b∈l,H b=none):HOk P w H (hideAll h l):=λa o e =>
 (x a o e).stay (λb u hb q=>CF _ q λm=>by
  have z:=n b m
  rcases hb with rfl | hb
  ·rw[e] at z;cases z
  ·rw[hb] at z;cases z) (λ_ q=>q) λ_ _ q=>q
structure Fly (P:xX)(w:yv)(outer:List Env)(H H':Hp)(h:Heap)(B:Heap)(ea:Addr)(cls a0:xw)(h':Heap):Prop where
 fl:Heap.FlyingW B outer ea cls a0 h'
 un:Un (frs outer) [] H H' h h'
 ok:HOk P w H' B
 cov:∀b o,h.get? b=some o->H b=none->b∉frs outer->B.get? b=some o
 all:∀b o,h.get? b=some o->b∉frs outer->∃u,B.get? b=some u
section
variable  {P:xX}{w:yv}{outer:List Env}{H H':Hp}{h B h' h2:Heap}{ea:Addr}{cls a0:xw}
theorem Fly.no (F:Fly P w outer H H' h B ea cls a0 h'):H' ea=none:=F.ok.noth F.fl.2.1
theorem Fly.hok (F:Fly P w outer H H' h B ea cls a0 h'):HOk P w H' h':=F.ok.kept F.fl.1
theorem Fly.new (F:Fly P w outer H H' h B ea cls a0 h'):h.get? ea=none:=by
 cases q:h.get? ea with
 | none=>rfl
 | some o =>
  by_cases m:ea∈frs outer
  ·obtain ⟨_,o',ho',hd⟩:=F.fl.2.2.1.mem m
   obtain ⟨oe,vs,he,_,hde,_⟩:=F.fl.first
   rw[he] at ho';cases ho'
   exact absurd hde (hd vs)
  ·obtain ⟨u,z⟩:=F.all ea o q m
   rw[F.fl.2.1] at z;cases z
theorem Fly.step {l:List Env}(F:Fly P w outer H H' h B ea cls a0 h')(f2:Heap.FlyingW B l ea cls a0 h2)(hs:∀b∈frs outer,∀o,h'.get? b=some o->∃sl,h2.get? b=some { o with slots:=sl }):Un (frs outer) [] H H' h h2 where
 keep:=λb o q n m _=>f2.1 _ _ (F.cov b o q n m)
 slot:=λb o q n m x=>by
  obtain ⟨sl,e⟩:=F.un.slot b o q n m x
  obtain ⟨sl',e'⟩:=hs b m _ e
  exact ⟨sl',e'⟩
 free:=F.un.free
 there:=λb o q x=>by
  by_cases m:b∈frs outer
  ·obtain ⟨o',e⟩:=F.un.there b o q x
   obtain ⟨sl',e'⟩:=hs b m _ e
   exact ⟨_,e'⟩
  ·obtain ⟨u,e⟩:=F.all b o q m
   exact ⟨u,f2.1 _ _ e⟩
 tups:=F.un.tups
 frzs:=F.un.frzs
 tbls:=F.un.tbls
theorem Fly.slots (F:Fly P w outer H H' h B ea cls a0 h')(k:h'.UpToSlots h2):∀b∈frs outer,∀o,h'.get? b=some o->∃sl,h2.get? b=some { o with slots:=sl }:=λb m o e=>by
 obtain ⟨_,o',ho',hd⟩:=F.fl.2.2.1.mem m
 rw[e] at ho';cases ho'
 exact k b o e hd
theorem Fly.on (F:Fly P w outer H H' h B ea cls a0 h')(f2:Heap.FlyingW B outer ea cls a0 h2)(k:h'.UpToSlots h2):Fly P w outer H H' h B ea cls a0 h2 :=
 ⟨f2,F.step f2 (F.slots k),F.ok,F.cov,F.all⟩
end
def CX1 (P:xX)(w:yv):CXT:=λouter H s E e s'=>∃ea cls a0 B H',e = .ref ea/\s'.os=s.os/\AllBare s'.gens/\Fly P w outer H H' s.heap B ea cls a0 s'.heap/\E cls none H'
section
variable  {X:Cx}{pins:List (Addr×Obj)}{σ:St}{H H':Hp}{s:xy}{B h':Heap}{ea:Addr}{cls a0:xw}
theorem Inv.land {s':xy}(I:Inv X pins σ H s)(os:s'.os=s.os)(g:AllBare s'.gens)(F:Fly X.prog X.w X.stack H H' s.heap B ea cls a0 s'.heap):Inv X pins σ H' s' :=
 I.uw os F.un F.hok g (λb z=>absurd z (by simp))
theorem Fly.out (I:Inv X pins σ H s)(hst:X.stack=X.env :: X.outer)(hfr:X.env.frame=some X.env.locals)(hex:X.ex=[])(F:Fly X.prog X.w X.stack H H' s.heap B ea cls a0 h')(f2:Heap.FlyingW B X.outer ea cls a0 h2)(k:h'.UpToSlots h2) :
  Fly X.prog X.w X.outer X.H₀ H' X.s₀.heap B ea cls a0 h2:=by
 have nL:∀b o,X.s₀.heap.get? b=some o->b≠X.env.locals:=λb o q z=>absurd (xZ (xE q) (z ▸ I.ok.above)) (yV _)
 have nst:∀b,b∉X.fs->b≠X.env.locals->b∉frs X.stack:=λb n1 n2 m=>by
  rw[hst] at m
  unfold frs at m
  rw[zL,hfr] at m
  rcases yj.mp m with z | z
  ·exact n2 z
  ·exact n1 z
 have ust:=F.step f2 (F.slots k)
 have sub:∀b∈X.fs,b∈frs X.stack:=λb m=>by
  rw[hst];unfold frs;rw[zL,hfr];exact xO _ m
 have nx:∀b,b∉X.ex:=λb m=>by rw[hex] at m;cases m
 refine ⟨f2,⟨λb o q n m _ =>?_,λb o q n m _ =>?_,λb o q n _ =>?_,λb o q _ =>?_,λb xs q=>F.un.tups b xs (I.base.tups b xs q),λb o u q=>F.un.frzs b o u (I.base.frzs b o u q),λb ps q =>?_⟩,F.ok,λb o q n m =>?_,λb o q m =>?_⟩
 ·exact ust.keep b o (I.base.keep b o q n m (nx b)) (I.base.free b o q n (nx b)) (nst b m (nL b o q)) (by simp)
 ·obtain ⟨sl,e⟩:=I.base.slot b o q n m (nx b)
  obtain ⟨sl',e'⟩:=ust.slot b _ e (I.base.free b o q n (nx b)) (sub b m) (by simp)
  exact ⟨sl',e'⟩
 ·obtain ⟨o',e⟩:=I.base.there b o q (nx b)
  exact F.un.free b o' e (I.base.free b o q n (nx b)) (by simp)
 ·obtain ⟨o',e⟩:=I.base.there b o q (nx b)
  exact ust.there b o' e (by simp)
 ·obtain ⟨m1,e1⟩:=I.base.tbls b ps q
  obtain ⟨m2,e2⟩:=F.un.tbls b _ e1
  exact ⟨m1++m2,by rw[e2,Dt]⟩
 ·exact F.cov b o (I.base.keep b o q n m (nx b)) (I.base.free b o q n (nx b)) (nst b m (nL b o q))
 ·obtain ⟨o',e⟩:=I.base.there b o q (nx b)
  exact F.all b o' e (nst b m (nL b o q))
theorem Fly.pass {M:Model}{E:xw->xy->Prop}{Q:Unit->xy->Prop}{s':xy}(I:Inv X pins σ H s)(hst:X.stack=X.env :: X.outer)(hfr:X.env.frame=some X.env.locals)(hex:X.ex=[])
  (F:Fly X.prog X.w X.stack H H' s.heap B ea cls a0 s'.heap) (hQ:∀h2,Fly X.prog X.w X.outer X.H₀ H' X.s₀.heap B ea cls a0 h2->Q () { s' with heap:=h2 }):x8 M X.A (leaving X.env (.ref ea)) Q E s':=by
 have fl:=F.fl
 rw[hst] at fl
 exact wpAny_leaves_onW (by rw[I.ok.frames,hst]) hfr fl λh2 f2 k=>hQ h2 (Fly.out I hst hfr hex F f2 k)
theorem Fly.made {M:Model}{E:xw->xy->Prop}{Q:Unit->xy->Prop}{s':xy}{vs:List xw}(I:Inv X pins σ H s)(hst:X.stack=X.env :: X.outer)(hfr:X.env.frame=some X.env.locals)(hex:X.ex=[])
  (hx:Heap.MadeExcOf s.heap s'.heap ea cls vs) (hQ:∀h2 B a0,Fly X.prog X.w X.outer X.H₀ H X.s₀.heap B ea cls a0 h2->Q () { s' with heap:=h2 }):x8 M X.A (leaving X.env (.ref ea)) Q E s':=by
 have ff:=I.stack
 have hin:∀env∈X.stack,∀b,env.frame=some b->b∈frs X.stack:=λenv he b hb=>Cb.mpr ⟨env,he,hb⟩
 have ff':=funFrames_hide ff hin
 have fh:∀b∈frs X.stack,H b=none:=I.k7
 have F0:∀h2 t,Heap.FlyingW (hideAll s.heap (frs X.stack)) X.outer ea cls (.ref t) h2->s'.heap.UpToSlots h2->Fly X.prog X.w X.outer X.H₀ H X.s₀.heap (hideAll s.heap (frs X.stack)) ea cls (.ref t) h2:=λh2 t f2 k=>by
  have nL:∀b o,X.s₀.heap.get? b=some o->b≠X.env.locals:=λb o q z=>absurd (xZ (xE q) (z ▸ I.ok.above)) (yV _)
  have nst:∀b,b∉X.fs->b≠X.env.locals->b∉frs X.stack:=λb n1 n2 m=>by
   rw[hst] at m
   unfold frs at m
   rw[zL,hfr] at m
   rcases yj.mp m with z | z
   ·exact n2 z
   ·exact n1 z
  have sub:∀b∈X.fs,b∈frs X.stack:=λb m=>by
   rw[hst];unfold frs;rw[zL,hfr];exact xO _ m
  have nx:∀b,b∉X.ex:=λb m=>by rw[hex] at m;cases m
  have sl:∀b∈frs X.stack,∀o,s.heap.get? b=some o->∃sl,h2.get? b=some { o with slots:=sl }:=λb m o e=>by
   obtain ⟨_,o',ho',hd⟩:=ff.mem m
   rw[e] at ho';cases ho'
   exact k b o (hx.keeps _ _ e) hd
  refine ⟨f2,⟨λb o q n m _ =>?_,λb o q n m _ =>?_,λb o q n _=>I.base.free b o q n (nx b),λb o q _ =>?_,I.base.tups,I.base.frzs,I.base.tbls⟩,I.hok.hide fh,λb o q n m =>?_,λb o q m =>?_⟩
  ·exact f2.1 _ _ (CF _ (I.base.keep b o q n m (nx b)) (nst b m (nL b o q)))
  ·obtain ⟨s1,e⟩:=I.base.slot b o q n m (nx b)
   obtain ⟨s2,e'⟩:=sl b (sub b m) _ e
   exact ⟨s2,e'⟩
  ·obtain ⟨o',e⟩:=I.base.there b o q (nx b)
   by_cases m:b∈frs X.stack
   ·obtain ⟨s2,e'⟩:=sl b m _ e
    exact ⟨_,e'⟩
   ·exact ⟨o',f2.1 _ _ (CF _ e m)⟩
  ·exact CF _ (I.base.keep b o q n m (nx b)) (nst b m (nL b o q))
  ·obtain ⟨o',e⟩:=I.base.there b o q (nx b)
   exact ⟨o',CF _ e (nst b m (nL b o q))⟩
 rw[hst] at ff'
 refine wpAny_leaves_madeW (base:=hideAll s.heap (frs (X.env :: X.outer))) (by rw[I.ok.frames,hst]) hfr (λb o q=>of_hideAll _ q) ff' hx λh2 t f2 _ _ k =>?_
 rw[<- hst] at f2
 exact hQ h2 _ _ (F0 h2 t f2 k)
end
open PySem PySem.Spec PySem.W PyProof.Rows
theorem Fun.okX {P:xX}{w:yv}{K:xx}{mg:Str->Option xw}{base:Heap}{x qual:Str}{st:Stmt}{f:Addr}{fd:yM}{N ps:List Str}{k:Nat}{sp:Sp}(F:Fun K x qual st f fd)(S:aH N ps (aq st))(len:∀vs H Q E,sp vs H Q E->vs.length=ps.length)
  (hb:∀(cdv:xw) (A:yy) (outer:List Env) (s:xy) (H:Hp) (vs:List V) (Q:VK) (E:XK),bY k (A.deeper (envOfC qual (aq st) s.heap.objs.size f cdv))->sp vs H Q E →
   ∃t,PSs (eE (CX1 P w) P w K mg base N qual (aq st) f cdv A outer s H E) (bO st) t/\t { nx:=λ_ H'=>Q .non H',rt:=Q } (start N vs) H):bF P w K mg base (CX1 P w) (k+1) f fd ps sp:=by
 obtain ⟨oc,od,kV,doc,pm,an,cdv,ct,osl,rfl,lk,hcd⟩:=F.ex
 exact uz lk hcd S len λA outer s H vs Q E hr hsp=>hb cdv A outer s H vs Q E hr hsp
structure j7 (P:xX)(w:yv)(K:xx)(mg:Str->Option xw)(base:Heap)(k:Nat)(x:Str)(ps:List Str)(sp:Sp):Prop where
 ex:∃f fd,bF P w K mg base (CX1 P w) k f fd ps sp/\mg x=some (.ref f)/\PySem.W.keepIn K (.ref f)=true/\Binds K fd ps []
theorem j7.calm {P:xX}{w:yv}{K:xx}{mg:Str->Option xw}{base:Heap}{k:Nat}{x:Str}{ps:List Str}{sp sp':Sp}(c:j7 P w K mg base k x ps sp)(h:∀vs H Q E,sp' vs H Q E->sp vs H Q E0):Cal P w K mg base k x ps sp':=by
 obtain ⟨f,fd,F,m,kp,b⟩:=c.ex
 refine ⟨f,fd,⟨λvs H Q E q=>F.len vs H Q E0 (h _ _ _ _ q),λA outer s H args us vs Q E hr he hb hv hs=>Cg (F.run A outer s H args us vs Q E0 hr he hb hv (h _ _ _ _ hs)) λr s' z =>?_⟩,m,kp,b⟩
 cases r with
 | error e =>
  obtain ⟨_,_,_,_,_,_,_,_,_,z⟩:=z
  exact z.elim
 | ok fl=>cases fl <;> exact z
section
variable  {P:xX}{w:yv}{K:xx}{mg:Str->Option xw}{base:Heap}{N:List Str}{qual:Str}{sc:Scope}{f:Addr}{cdv:xw}{A:yy}{outer:List Env}{s₀:xy}{H₀:Hp}{E:XK}
theorem uJ:Passes (CX1 P w) (eE (CX1 P w) P w K mg base N qual sc f cdv A outer s₀ H₀ E) E:=λpins σ H s e s' I h=>by
 obtain ⟨ea,cls,a0,B,H2,rfl,os,g,F,q⟩:=h
 exact Fly.pass I rfl rfl rfl F λh2 F2=>⟨ea,cls,a0,B,H2,rfl,os.trans I.os,g,F2,q⟩
def xj (X:Cx)(E:XK):Prop:=∀(pins:List (Addr×Obj)) (σ:St) (H:Hp) (s:xy) (h':Heap) (ea:Addr) (cls:xw) (vs:List xw),Inv X pins σ H s->Heap.MadeExcOf s.heap h' ea cls vs->E cls none H->X.xe (.ref ea) { s with heap:=h' }
theorem xk:xj (eE (CX1 P w) P w K mg base N qual sc f cdv A outer s₀ H₀ E) E:=λpins σ H s h' ea cls vs I hx q=>by
 exact Fly.made (s':={ s with heap:=h' }) I rfl rfl rfl hx λh2 B a0 F2=>⟨ea,cls,a0,B,H,rfl,I.os,I.bare,F2,q⟩
end
abbrev rH:List xw:=[.type "ValueError",.type "Exception",.type "BaseException",.type "object"]
structure ExC (K:xx)(mg:Str->Option xw)(x:Str)(C:Addr):Prop where
 ex:excIn K C rH "ValueError.__new__" = true
 mg:mg x=some (.ref C)
theorem vW {K:xx}{h:Heap}{C:Addr}{bs:List xw}{nid:String}(X:K.In h)(q:excIn K C bs nid=true) :
  ∃bm N nm q bs' hd sn sub ab col dd k0 k1 k2 k3 k5 mN,h.get? C=some (excClassObj nm q C N bs' bm hd sn sub ab col dd k0 k1 k2 k3 k5 nid)/\h.Ns N mN/\mN "__init__" = none/\OwnTail h bs bm:=by
 unfold excIn at q
 split at q
 ·rename_i d1 c1 sl1 l1
  split at q
  ·rename_i C1 b1 j0 j1 j2 j3 n1 j5 m1 s1
   simp only[yO,beq_iff_eq,Bool.not_eq_true'] at q
   obtain ⟨⟨⟨⟨⟨rfl,rfl⟩,q1⟩,q2⟩,q3⟩,q4⟩:=q
   obtain ⟨a1,a2,a3,a4,a5,a6,a7,a8,a9,a10,a11⟩:=c1
   dsimp only at m1 q1 q3 q4
   subst m1 q1
   obtain ⟨ll⟩:=sl1
   simp only at s1
   subst s1
   exact ⟨b1,a4,a1,a5,a2,a6,a7,a8,a9,a10,d1,j0,j1,j2,j3,j5,_,X _ _ l1,.of_isNs (isNs_of_in X q3),nsMap_none_of_in X q3 q4,tail_of_in X q2⟩
  ·cases q
 ·cases q
def vX (E:XK)(cls:xw)(t:TA):TS:=λ_ σ H=>t σ H λvs H1=>vs.length<=xG/\E cls none H1
theorem rJ {X:Cx}{E:XK}{C:Addr}{x:Str}{e:Expr}{es:List Expr}{t:TA}{np cpos pos:Pos}(O:xj X E)(hc:ExC X.K X.mg x C)(hh:X.A.handled=none)(hg:Gl X x)(ha:PA X (e :: es) t)
  (hdb:(x == ("__debug__" : Str))=false:=by decide) (he:yA (e :: es) X.env=(false,eval e X.env) :: yA es X.env:=by rfl) (hpl:(Bh cpos (yA es X.env)).any (·.1)=false:=by rfl) :
  PS X (.Raise (some (.Call (.Name x np) (e :: es) [] cpos)) none pos) (vX E (.ref C) t):=by
 intro pins s σ H D I h
 obtain ⟨bm,N,nm,q,bs',hd,sn,sub,ab,col,dd,k0,k1,k2,k3,k5,mN,hC,hN,hni,T⟩:=vW I.mod.kin hc.ex
 have hpl':(Bh cpos (yA (e :: es) X.env)).any (·.1)=false:=by
  rw[he]
  show (false || (Bh cpos (yA es X.env)).any (·.1))=false
  rw[hpl];rfl
 refine wpAny_Raise_call_subT (nm:=nm) (q:=q) (N:=N) (bs:=bs') (bm:=bm) (hdct:=hd) (sn:=sn) (sub:=sub) (ab:=ab) (col:=col) (dd:=dd) (k0:=k0) (k1:=k1) (k2:=k2) (k3:=k3) (k5:=k5) (mN:=mN)
  De (T.hasType De.hasBase) hh hpl' hni (gg I hg hc.mg ⟨rfl,?_⟩ hdb)
 have hs:=ha cpos pins s σ H _ I h
 rw[he] at hs ⊢
 refine Dc (zk hs (λus s2 ⟨vs,H1,I1,r,z,qE⟩=>⟨rfl,by rw[<- r.length];exact z,I1.bk _ _ hC,hN.keeps I1.bk,T.keeps I1.bk,λh' ea hx=>O pins σ H1 s2 h' ea _ _ I1 hx qE⟩) λ_ _ y=>y)
open PySem PySem.Spec PySem.W PyProof.Rows
abbrev Cx.mark (X:Cx)(ea:Addr):Cx:={ X with A:=X.A.mark (some (.ref ea)),calm:=false,xe:=λ_ _=>False }
section
variable  {X:Cx}{pins:List (Addr×Obj)}{σ:St}{H H':Hp}{s s':xy}{B h':Heap}{ea:Addr}{cls a0:xw}
theorem Inv.mark (I:Inv X pins σ H s)(ea:Addr):Inv (X.mark ea) pins σ H s :=
 ⟨⟨I.ok.mod,I.ok.kind,I.ok.glob,I.ok.blt,I.ok.above,I.ok.inj,I.ok.has,I.ok.cab,(λz=>Bool.noConfusion z),I.ok.frames,I.ok.stk,I.ok.exf,I.ok.bs,I.ok.bsz,I.ok.noex,I.ok.exfs,I.ok.funs,I.ok.frf⟩,I.os,I.bare,I.base,I.loc,I.cell,I.free,I.freeC,I.pin,I.hok,I.len⟩
theorem Inv.unmark (ok:X.Ok)(I:Inv (X.mark ea) pins σ H s):Inv X pins σ H s:=⟨ok,I.os,I.bare,I.base,I.loc,I.cell,I.free,I.freeC,I.pin,I.hok,I.len⟩
def gH (ea:Addr)(cls:xw):HO :=.ext λh=>∃o,h.get? ea=some o/\o.cls=cls
theorem HOk.exc {P:xX}{w:yv}{h:Heap}(x:HOk P w H h)(hn:H ea=none)(hc:∃o,h.get? ea=some o/\o.cls=cls):HOk P w (upd H ea (gH ea cls)) h:=λb u e=>by
 by_cases z:b=ea
 ·subst z
  rw[af] at e
  cases e
  refine ⟨hc,?_,λh1 h2 p k =>?_⟩
  ·obtain ⟨o,q,_⟩:=hc;exact ⟨o,q⟩
  ·obtain ⟨o,q,c⟩:=p;exact ⟨o,k o q,c⟩
 ·rw[ak z] at e
  exact (x b u e).stay (λ_ _ _ q=>q) (λc q=>by rw[ak (aj q hn)];exact q) λc xs q=>by rw[ak (aj q hn)];exact q
theorem Inv.exc (I0:Inv X pins σ H s)(I:Inv X pins σ H' s')(F:Fly X.prog X.w X.stack H H' s.heap B ea cls a0 s'.heap):Inv X pins σ (upd H' ea (gH ea cls)) s':=by
 have nn:=F.new
 have hn:=F.no
 have ne:∀b o,s.heap.get? b=some o->b≠ea:=λb o q z=>by rw[z,nn] at q;cases q
 have nh:∀b u,H' b=some u->b≠ea:=λb u q=>aj q hn
 refine ⟨I.ok,I.os,I.bare,⟨I.base.keep,I.base.slot,λb o q n m =>?_,I.base.there,λb xs q =>?_,λb o u q =>?_,λb ps q =>?_⟩,I.loc,I.cell,?_,λx c e =>?_,λp hp =>?_,I.hok.exc hn F.fl.there,I.len⟩
 ·obtain ⟨o',e⟩:=I0.base.there b o q m
  rw[ak (ne b o' e)];exact I.base.free b o q n m
 ·have:=I.base.tups b xs q
  rw[ak (nh b _ this)];exact this
 ·have:=I.base.frzs b o u q
  rw[ak (nh b _ this)];exact this
 ·obtain ⟨mo,this⟩:=I.base.tbls b ps q
  exact ⟨mo,by rw[ak (nh b _ this)];exact this⟩
 ·obtain ⟨m,⟨o,_,_,ho,_⟩,_⟩:=I0.loc
  rw[ak (ne _ o ho)];exact I.free
 ·obtain ⟨v,o,ho,_⟩:=I0.cell x c e
  rw[ak (ne _ o ho)];exact I.freeC x c e
 ·obtain ⟨e,n,n1,n2,d⟩:=I.pin p hp
  obtain ⟨e0,_⟩:=I0.pin p hp
  exact ⟨e,by rw[ak (ne _ _ e0)];exact n,n1,n2,d⟩
theorem Inv.gone {i:Nat}{x:Str}{m:Str->Option xw}{v:Option xw}{tk:Nat}(I:Inv X pins σ H s)(hN:X.N.Nodup)(hi:X.N[i]? = some x)(hn:s.heap.Ns X.env.locals m)(hl:∀(j:Nat) (y:Str) (v:V),X.N[j]? = some y->σ[j]? = some (some v)->Vis X.env.scope y->∃u,RelV v u/\Look X.env s.heap m y u)
  (hn':h'.Ns X.env.locals (λy=>if y=x then v else m y)) (hs:Heap.SameBut X.env.locals s.heap h'):Inv X pins (σ.set i none) H { s with heap:=h',toks:=tk }:=by
 obtain ⟨oL,_,_,hoL,_⟩:=id hn
 have cne:=I.cne
 have lt:∀b o,X.s₀.heap.get? b=some o->b≠X.env.locals:=λb o e=>x5 (xZ (xE e) I.ok.above)
 refine ⟨I.ok,I.os,I.bare,⟨λb o e n hb hx =>?_,λb o e n hb hx =>?_,I.base.free,λb o e hx =>?_,I.base.tups,I.base.frzs,I.base.tbls⟩,⟨_,hn',λj y v' e1 e2 e3 =>?_⟩,λy c e =>?_,I.free,I.freeC,λp hp =>?_,λb ob e =>?_,by simpa using I.len⟩
 ·exact (hs.2 b (lt b o e)).trans (I.base.keep b o e n hb hx)
 ·obtain ⟨sl,e1⟩:=I.base.slot b o e n hb hx
  exact ⟨sl,(hs.2 b (lt b o e)).trans e1⟩
 ·obtain ⟨o',e1⟩:=I.base.there b o e hx
  exact ⟨o',(hs.2 b (lt b o e)).trans e1⟩
 ·by_cases hj:j=i
  ·subst hj
   have:j<σ.length:=by rw[I.len];exact (xB.mp hi).1
   rw[zq this] at e2
   cases e2
  ·rw[zY (zj hj)] at e2
   obtain ⟨u',r',q⟩:=hl j y v' e1 e2 e3
   refine ⟨u',r',?_⟩
   rcases q with ⟨k,e⟩ | ⟨k,c,e,z⟩
   ·have:y≠x:=λe=>hj (iV hN e1 (e ▸ hi))
    exact .inl ⟨k,by simp[this,e]⟩
   ·exact .inr ⟨k,c,e,z.sameBut hs (cne y c e)⟩
 ·obtain ⟨w',z⟩:=I.cell y c e
  exact ⟨w',z.sameBut hs (cne y c e)⟩
 ·obtain ⟨e,n,ne,nf,d⟩:=I.pin p hp
  exact ⟨(hs.2 p.1 ne).trans e,n,ne,nf,d⟩
 ·have fr:=I.free
  refine (I.hok b ob e).stay (λc w' hc q=>(hs.2 c ?_).trans q) (λ_ q=>q) λ_ _ q=>q
  rintro rfl
  rcases hc with rfl | hc
  ·rw[fr] at e;cases e
  ·rw[fr] at hc;cases hc
end
abbrev EXt:=xw->St->Hp->Prop
def XP (X:Cx)(pins:List (Addr×Obj))(EX:EXt)(e:xw)(s':xy):Prop :=
 ∃σ H s ea cls a0 B H',Inv X pins σ H s/\e = .ref ea/\s'.os=s.os/\AllBare s'.gens/\Fly X.prog X.w X.stack H H' s.heap B ea cls a0 s'.heap/\EX cls σ H'
def PSx (X:Cx)(sts:List Stmt)(t:EXt->TS):Prop :=
 ∀(pins:List (Addr×Obj)) (s:xy) (σ:St) (H:Hp) (D:Ends) (EX:EXt),Inv X pins σ H s->t EX D σ H->x8 (x9 X.prog X.w) X.A (execs sts X.env) (SP X pins D) (XP X pins EX) s
def xn (X:Cx)(st:Stmt)(t:EXt->TS):Prop :=
 ∀(pins:List (Addr×Obj)) (s:xy) (σ:St) (H:Hp) (D:Ends) (EX:EXt),Inv X pins σ H s->t EX D σ H->x8 (x9 X.prog X.w) X.A (exec st X.env) (SP X pins D) (XP X pins EX) s
section
variable  {X:Cx}{pos:Pos}
theorem oB {st:Stmt}{t:EXt->TS}(h1:xn X st t):PSx X [st] t:=by
 intro pins s σ H D EX I h
 refine CO (thn (h1 pins s σ H D EX I h) λf s1 q =>?_)
 cases f with
 | next=>exact A0 q
 | ret v=>exact q
 | brk=>exact q
 | cont=>exact q
theorem xo {k:Nat}{f:Addr}{fd:yM}{ps:List Str}{sp:Sp}{pins:List (Addr×Obj)}{σ:St}{H:Hp}{s:xy}{Q:VK}{EX:EXt}{us:List xw}{vs:List V}(F:bF X.prog X.w X.K X.mg X.base (CX1 X.prog X.w) k f fd ps sp)(hr:bY k X.A)(hb:Binds X.K fd ps [])
  (I:Inv X pins σ H s) (r:Vals vs us) (h:sp vs H Q λcls _ H'=>EX cls σ H'):x8 (x9 X.prog X.w) X.A (call (.ref f) us) (EP X pins σ Q) (XP X pins EX) s:=by
 have hl:us.length=ps.length:=by rw[<- r.length];exact F.len _ _ _ _ h
 have hb':=hb s us I.kIn (by rw[yC];exact hl)
 rw[yC] at hb'
 refine wpAny_call (Cg (F.run X.A X.stack s H ⟨us,[]⟩ us vs Q _ hr I.wI hb' r h) λr s' hq =>?_)
 cases r with
 | error e =>
  obtain ⟨ea,cls,a0,B,H2,rfl,os,g,F2,q⟩:=hq
  exact ⟨σ,H,s,ea,cls,a0,B,H2,I,rfl,os,g,F2,q⟩
 | ok fl =>
  cases fl with
  | ret u=>exact I.after hq
  | next=>exact False.elim hq
  | brk=>exact False.elim hq
  | cont=>exact False.elim hq
theorem ev_x {j k:Nat}{x:Str}{ps:List Str}{sp:Sp}{e:Expr}{es:List Expr}{t:TA}{p:Pos}{pins:List (Addr×Obj)}{σ:St}{H:Hp}{s:xy}{Q:VK}{EX:EXt}(C:j7 X.prog X.w X.K X.mg X.base k x ps sp)(hr:bY j X.A)(hj:k<=j)(hg:Gl X x)(ha:PA X.nox (e :: es) t)
  (hdb:(x == ("__debug__" : Str))=false) (he:yA (e :: es) X.env=(false,eval e X.env) :: yA es X.env) (hpl:(Bh pos (yA es X.env)).any (·.1)=false)
  (I:Inv X pins σ H s) (h:t σ H λvs H1=>sp vs H1 Q λcls _ H2=>EX cls σ H2):x8 (x9 X.prog X.w) X.A (eval (.Call (.Name x p) (e :: es) [] pos) X.env) (EP X pins σ Q) (XP X pins EX) s:=by
 obtain ⟨f,fd,F,m,kp,b⟩:=C.ex
 refine As (gg I hg m ?_ hdb)
 refine Du (h₀:=X.base) I.ok.mod.kin kp (zk (ha pos pins s σ H _ (I.iZ _) h) (λus s1 ⟨vs,H1,I1,r,q⟩=>⟨I1.dq.kIn,?_⟩) λ_ _ z=>False.elim z) he hpl
 exact xo F (hr.mono hj) b I1.dq r q
theorem mG {j k:Nat}{x:Str}{ps:List Str}{sp:Sp}{e:Expr}{es:List Expr}{t:TA}{p pos':Pos}(C:j7 X.prog X.w X.K X.mg X.base k x ps sp)(hr:bY j X.A)(hj:k<=j)(hg:Gl X x)(ha:PA X.nox (e :: es) t)
  (hdb:(x == ("__debug__" : Str))=false:=by decide) (he:yA (e :: es) X.env=(false,eval e X.env) :: yA es X.env:=by rfl) (hpl:(Bh pos (yA es X.env)).any (·.1)=false:=by rfl) (hs:swapsWith (.Call (.Name x p) (e :: es) [] pos) none pos'.line X.env=pure false:=by rfl) :
  xn X (.Expr (.Call (.Name x p) (e :: es) [] pos) pos') (λEX D σ H=>t σ H λvs H1=>sp vs H1 (λ_ H2=>D.nx σ H2) λcls _ H2=>EX cls σ H2):=by
 intro pins s σ H D EX I h
 exact wpAny_Expr_any (thn (ev_x C hr hj hg ha hdb he hpl I h) λv s1 ⟨x,H1,I1,r1,q1⟩=>⟨σ,H1,I1,q1⟩) I.quiet hs
def tTry (K:xx)(i:Nat)(C:xw)(tb:EXt->TS)(th:TS):TS:=λD σ H =>
 tb (λcls σ1 H1=>exmOne K cls C=some true/\∀ea,H1 ea=none->th { nx:=λσ2 H2=>D.nx (σ2.set i none) H2,rt:=D.rt,bk:=λσ2 H2=>D.bk (σ2.set i none) H2,ct:=λσ2 H2=>D.ct (σ2.set i none) H2 } (σ1.set i (some (.ref ea))) (upd H1 ea (gH ea cls))) D σ H
theorem rK {i:Nat}{n x:Str}{C:xw}{body:List Stmt}{b₀:Stmt}{suite:List Stmt}{tb:EXt->TS}{th:TS}{np hp:Pos}(hst:X.stack=X.env :: X.outer)(hfr:X.env.frame=some X.env.locals)
    (hN:X.N.Nodup) (hi:X.N[i]? = some n) (hx:X.env.scope.names.lookup n=some .local) (hg:Gl X x) (hm:X.mg x=some C) (hb:PSx X body tb) (hs:∀ea,PSs (X.mark ea) (b₀ :: suite) th) (hdb:(x == ("__debug__" : Str))=false:=by decide) :
    PS X (.Try body [.ExceptHandler (some (.Name x np)) (some n) (b₀ :: suite) hp] [] [] pos) (tTry X.K i C tb th):=by
  intro pins s σ H D I h
  refine wpAny_Try_except (zk (hb pins s σ H D _ I h) (λf s1 q =>?_) λe s1 hx1 =>?_)
  · cases f with
    | next=>exact A0 q
    | ret v=>exact q
    | brk=>exact q
    | cont=>exact q
  obtain ⟨σ1,H1,s0,ea,cls,a0,B,H2,I1,rfl,os,g,F,hm2,q⟩:=hx1
  have fl:=F.fl
  have hfr':X.A.frames=some (X.env :: X.outer):=by rw[I1.ok.frames,hst]
  rw[hst] at fl
  refine wpAny_looks_onW hfr' hfr fl λh4 held4 k4 =>?_
  refine wpAny_landsW held4 λh5 f5 k5 =>?_
  rw[<- hst] at f5
  have F5:=F.on f5 (k4.trans k5)
  have I5:Inv X pins σ1 H2 { s1 with heap:=h5 }:=I1.land os g F5
  refine wpAny_handleBy_cons (codeAny_handlers_test ?_) (by intro z;cases z)
  refine gg (X:=X.mark ea) (I5.mark ea) hg hm ?_ hdb
  have LT:Looks (x9 X.prog X.w) h5 (typeOf (.ref ea)) cls:=by
    obtain ⟨ob,hob,hc⟩:=f5.there
    subst hc
    exact (Looks.ld hob).andThen .now
  refine (exm_one (M:=x9 X.prog X.w) I5.kIn LT hm2).here ?_
  refine codeAny_handlers_suite_as ?_
  refine lands_againW f5 λh6 f6 k6 =>?_
  have F6:=F5.on f6 k6
  have I6:Inv X pins σ1 H2 { s1 with heap:=h6 }:=I1.land os g F6
  have I7:=I1.exc I6 F6
  refine iW (v :=.ref ea) I7 hN hi (.inl hx) rfl (λs7 I8 =>?_) (.inr hx)
  have cls0:(X.env.scope.kind == .class || (X.env.scope.kind == .module && X.env.locals != X.env.globals))=false:=by rw[I.ok.kind];rfl
  have go:∀{σ2:St} {H3:Hp} {s8:xy} {Q:Unit->xy->Prop} {E:xw->xy->Prop},Inv (X.mark ea) pins σ2 H3 s8->(∀s9,Inv X pins (σ2.set i none) H3 s9->Q () s9)->x8 (x9 X.prog X.w) X.A (do bindName X.env n .none;unbindBehindTheSuite X.env n hp) Q E s8:=λ{σ2 H3 s8 Q E} J hQ=>by
    have J':Inv X pins σ2 H3 s8:=J.unmark I.ok
    obtain ⟨m,hn,hl⟩:=J'.loc
    exact wpAny_nameGoes_keeps hx hn cls0 λh9 v hn9 hs9=>hQ _ (J'.gone hN hi hn hl hn9 hs9)
  refine zk (hs ea pins s7 _ _ _ (I8.mark ea) (q ea F.no)) (λf s8 r =>?_) λ_ _ z=>False.elim z
  cases f with
  | next =>
    obtain ⟨σ2,H3,J,r⟩:=r
    exact go J λs9 J9=>⟨_,H3,J9,r⟩
  | brk =>
    obtain ⟨σ2,H3,J,r⟩:=r
    exact go J λs9 J9=>⟨_,H3,J9,r⟩
  | cont =>
    obtain ⟨σ2,H3,J,r⟩:=r
    exact go J λs9 J9=>⟨_,H3,J9,r⟩
  | ret u =>
    obtain ⟨v,σ2,H3,J,rv,r⟩:=r
    exact go J λs9 J9=>⟨v,_,H3,J9,rv,r⟩
end
open PySem PySem.Spec PySem.W PyProof.Rows
structure ExI (K:xx)(C:Addr):Prop where
 ga:findIn K (.ref C) "__getattribute__" = some (some (.builtin "BaseException.__getattribute__"))
 gt:findIn K (.ref C) "__getattr__" = some none
 cl:findIn K (.ref C) "__class__" = some (some (.builtin "object.__class__"))
 mo:subIn K (.ref C) (.type "object")=some true
 sb:subIn K (.ref C) (.type "BaseException")=some true
 it:(clsIn K C).isSome=true
section
variable  {K:xx}{prog:xX}{w:yv}{A:yy}{E:xw->xy->Prop}{h:Heap}{g:Array GenState}{d:Drawn}{t:Nat}{os:OsState}{a C:Addr}{o:Obj}
theorem vY {R:Result->xy->Prop}(X:K.In h)(Z:ExI K C)(hx:h.get? a=some o)(hc:o.cls = .ref C)(hq:R (.ok (.ret (.ref C))) ⟨h,g,d,t,os⟩) :
  Bv (x9 prog w) A (.call (.builtin "getset_descriptor.__get__") ⟨[.builtin "object.__class__",.ref a,.ref C],[]⟩) R ⟨h,g,d,t,os⟩:=by
 have hT5:(⟨h,g,d,t,os⟩:xy).TypeIs (.builtin "object.__class__") "getset_descriptor" := BF
 have L1:Looks (x9 prog w) h (isSubtype (.ref C) (.type (".".intercalate ("object.__class__".cutAt '.').dropLast))) true:=by rw[F.owner_object_class];exact looks_subIn X Z.mo
 refine Df DC.plain F.entry_gs_get (DC.check _ _ _ _ _ _ _ _ hT5 (F.args_gs_get _ _ _) ?_)
 repeat (any_goals (first | assumption | (with_reducible refine A4 hx ?_;rw[hc]) | with_reducible refine L1.at ?_ | wp_step))
 refine ⟨Dy _ (by decide +kernel),yI F.entry_object_class ?_⟩
 unfold Builtin.«object.__class__»
 repeat (any_goals (first | assumption | (with_reducible refine A4 hx ?_;rw[hc]) | wp_step))
theorem rL {tk:Tok}{Q:Fin->xy->Prop}(X:K.In h)(Z:ExI K C)(hx:h.get? a=some o)(hc:o.cls = .ref C)(hq:Q (.done (.ret (.ref C))) ⟨h,g,d,t,os⟩) :
  x8 (x9 prog w) A (Builtin.«object.__getattribute__» ⟨[.ref a,.str "__class__" tk],[]⟩) Q E ⟨h,g,d,t,os⟩:=by
 have hT5:(⟨h,g,d,t,os⟩:xy).TypeIs (.builtin "object.__class__") "getset_descriptor" := BF
 have f5:=BF
 have f6:=DC.lookup
 have f7:=F.slot_gs_set.lookup
 have L1:=DW (M:=x9 prog w) X Z.cl
 repeat (any_goals (first | assumption | (with_reducible refine A4 hx ?_;rw[hc]) | with_reducible refine L1.at ?_ | wp_step))
 refine vY X Z hx hc ?_
 repeat (any_goals (first | assumption | wp_step))
theorem rM {M:Model}{nv:xw}{Q:Unit->xy->Prop}(X:K.In h)(Z:ExI K C)(hx:h.get? a=some o)(hc:o.cls = .ref C)(hq:Q () ⟨h,g,d,t,os⟩):x8 M A (checkBuiltinCall "BaseException.__getattribute__" ⟨[.ref a,nv],[]⟩) Q E ⟨h,g,d,t,os⟩:=by
 have k1:builtinKind "BaseException.__getattribute__" = some .slot:=by decide +kernel
 have k2:splitId "BaseException.__getattribute__" = some ("BaseException", "__getattribute__"):=by decide +kernel
 have L1:=looks_subIn (M:=M) X Z.sb
 have k3:=F.args_bexc_ga (.ref a) nv
 simp only[checkBuiltinCall,k1,k2]
 refine xu ?_
 unfold isInstance
 repeat (first | (with_reducible refine A4 hx ?_;rw[hc]) | with_reducible refine L1.at ?_ | wp_step)
 exact hq
theorem t7 {Q:Option xw->xy->Prop}(X:K.In h)(Z:ExI K C)(hx:h.get? a=some o)(hc:o.cls = .ref C)(hq:Q (some (.ref C)) ⟨h,g,d,t+1,os⟩) :
  x8 (x9 prog w) A (getAttr? (.ref a) "__class__") Q E ⟨h,g,d,t,os⟩:=by
 have f3:=(C3).ga.bind (.ref a)
 have y2:(Value.builtin "BaseException.__getattribute__" == Value.builtin "object.__getattribute__")=false:=by decide +kernel
 have y1:(onTheHeap (xV C) && Value.builtin "BaseException.__getattribute__" == Value.builtin "object.__getattribute__")=false:=by rw[y2];rfl
 have L1:=DW (M:=x9 prog w) X Z.ga
 have L2:=DW (M:=x9 prog w) X Z.gt
 unfold getAttr? getAttrBy?
 repeat (any_goals (first | assumption | (with_reducible refine A4 hx ?_;rw[hc]) | with_reducible refine L1.at ?_ | with_reducible refine L2.at ?_ | wp_step))
 refine Df (C3).ga.plain F.entry_bexc_ga (rM X Z hx hc (rL X Z hx hc ?_))
 repeat (any_goals (first | assumption | wp_step))
end
open PySem PySem.Spec PySem.W PyProof.Rows
theorem rN {K:xx}{a C:Addr}(Z:ExI K C):KitX K (.ref a) (.ref C) (λh=>∃o,h.get? a=some o/\o.cls = .ref C) where
 ty:=λM h _ p=>by
  obtain ⟨o,h1,h2⟩:=p
  exact h2 ▸ (Looks.ld h1).andThen .now
 it:=λ_ _ X _=>by
  have z:=Z.it
  unfold clsIn at z
  split at z
  ·rename_i c' d' cd' sl' ho
   intro A' Q' E' s' k q
   unfold isType loadHead
   exact xu (wpAny_loadPart (k _ _ (X _ _ ho)) (xJ q))
  ·cases z
 ne:=λh tp dd its n sl X htp=>by
  have z:=Z.it
  refine zO.mpr λq =>?_
  have e:C=tp:=Value.ref.inj (beq_iff_eq.mp q)
  subst e
  unfold clsIn at z
  split at z
  ·rename_i c' d' cd' sl' ho
   have y:=(X _ _ ho).symm.trans htp
   cases y
  ·cases z
 ca:=λ{_ _ _ _ _ s} X p k=>by
  obtain ⟨h,g,d,t,os⟩:=s
  obtain ⟨o,h1,h2⟩:=p
  exact t7 X Z h1 h2 k
def xp:V->xw
 | .ref a =>.ref a
 | .ty n =>.type n
 | _ =>.none
def uK:V->Bool
 | .ref _=>true
 | .ty _=>true
 | _=>false
theorem t8 {x:V}{u:xw}(h:uK x=true)(r:RelV x u):u=xp x:=by
 cases x <;> first | exact r | cases h
section
variable  {X:Cx}
theorem bj {K:xx}(hK:X.K=K:=by rfl):cc X (.builtin "isinstance") (λxs H Q=>∃(ea C:Addr) (c:V) (b:Bool),xs=[.ref ea,c]/\H ea=some (gH ea (.ref C))/\ExI K C/\uK c=true/\kitOne K (.ref C) (xp c)=some b/\Q (.bl b) H):=by
 subst hK
 intro pins s σ H xs us Q I r h
 obtain ⟨ea,C,c,b,rfl,he,Z,hc,hk,q⟩:=h
 cases r with | cons r1 r2 =>
 cases r2 with | cons r2 r3 =>
 cases r3
 obtain rfl:=t8 hc r2
 have r1:_=xV ea:=r1
 subst r1
 obtain ⟨p,_⟩:=I.hok ea _ he
 exact kia_one (rN Z) I.kIn p hk (by intro z;cases z) λtk=>⟨.bl b,H,I.tok tk,rfl,q⟩
end
open PySem PySem.Spec PyProof.Rows
def cj (K:xx)(x:Str)(st:Stmt):Prop:=∃(f:Addr) (od an:Option Addr) (sl:Array (Option xw)) (oc kV dc pm cd ct:xw),yu K yh x=some (some (.ref f))/\K.lookup f=some ⟨oc,od,.func (PySem.W.fnOf x x (cE st) (bO st) (aq st) .none kV dc pm an cd ct),sl⟩/\PySem.W.codeIn K cd x=true/\PySem.W.keepIn K (.ref f)=true
theorem cj.mk {K:xx}{x:Str}{st:Stmt}{f:Addr}{od an:Option Addr}{sl:Array (Option xw)}{oc kV dc pm cd ct:xw}(a:yu K yh x=some (some (.ref f)))(l:K.lookup f=some ⟨oc,od,.func (PySem.W.fnOf x x (cE st) (bO st) (aq st) .none kV dc pm an cd ct),sl⟩)(c:PySem.W.codeIn K cd x=true)(k:PySem.W.keepIn K (.ref f)=true):cj K x st:=⟨_,_,_,_,_,_,_,_,_,_,a,l,c,k⟩
theorem cj.cal {K:xx}{x:Str}{st:Stmt}(hf:cj K x st)(P:xX)(w:yv)(base:Heap){h:Heap}{mg:Str->Option xw}(X:K.In h)(G:h.Ns yh mg){lv:Nat}{ps:List Str}{sp:Sp}(ok:∀{f:Addr} {fd:yM},Fun K x x st f fd->bF P w K mg base CX0 lv f fd ps sp)
  (hb:∀(kV doc pm:xw) (an:Option Addr) (cdv ct:xw) (us:List xw),us.length=ps.length->bindArgs (PySem.W.fnOf x x (cE st) (bO st) (aq st) .none kV doc pm an cdv ct) ⟨us,[]⟩=pure (ps.zip us)):Cal P w K mg base lv x ps sp:=by
 obtain ⟨f,od,an,sl,oc,kV,dc,pm,cd,ct,a,l,c,k⟩:=hf
 have F:=nA l c k
 exact ⟨_,_,ok F,zc X G a,k,F.binds hb⟩
open PySem PySem.Spec PyProof.Rows
theorem cj.vZ {K:xx}{x:Str}{st:Stmt}(hf:cj K x st)(P:xX)(w:yv)(base:Heap){h:Heap}{mg:Str->Option xw}(X:K.In h)(G:h.Ns yh mg){lv:Nat}{ps:List Str}{sp:Sp}(ok:∀{f:Addr} {fd:yM},Fun K x x st f fd->bF P w K mg base (CX1 P w) lv f fd ps sp)
  (hb:∀(kV doc pm:xw) (an:Option Addr) (cdv ct:xw) (us:List xw),us.length=ps.length->bindArgs (PySem.W.fnOf x x (cE st) (bO st) (aq st) .none kV doc pm an cdv ct) ⟨us,[]⟩=pure (ps.zip us)):j7 P w K mg base lv x ps sp:=by
 obtain ⟨f,od,an,sl,oc,kV,dc,pm,cd,ct,a,l,c,k⟩:=hf
 have F:=nA l c k
 exact ⟨_,_,ok F,zc X G a,k,F.binds hb⟩
end L2
set_option maxHeartbeats 800000
namespace K68
open PySem L2
def top (i:Nat):Stmt:=PySem.Challenge.pw_ringfell_k68_least_orders.main.body.getD i (.Pass ⟨0,0,0,0⟩)
abbrev dw:Stmt:=top 14
abbrev jw:Stmt:=top 15
abbrev gc:Stmt:=top 18
abbrev da:Stmt:=top 19
abbrev de:Stmt:=top 20
abbrev fK:Stmt:=top 21
abbrev df:Stmt:=top 22
abbrev jx:Stmt:=top 23
abbrev dh:Stmt:=top 24
abbrev di:Stmt:=top 25
abbrev jy:Stmt:=top 27
abbrev nU:Stmt:=top 28
abbrev jA:Stmt:=top 29
abbrev jB:Stmt:=top 30
abbrev nV:Stmt:=top 31
abbrev lJ:Stmt:=top 32
abbrev lK:Stmt:=top 33
abbrev rO:Stmt:=top 34
abbrev iL:Stmt:=top 35
abbrev iM:Stmt:=top 36
abbrev dy:Stmt:=top 37
abbrev qb:Stmt:=top 38
structure Blt (mg:Str->Option xw):Prop where
 b_bool:mg "bool" = none
 b_int:mg "int" = none
 b_isinstance:mg "isinstance" = none
 b_len:mg "len" = none
 b_list:mg "list" = none
 b_max:mg "max" = none
 b_min:mg "min" = none
 b_range:mg "range" = none
 b_sorted:mg "sorted" = none
 b_sum:mg "sum" = none
 b_tuple:mg "tuple" = none
 b_zip:mg "zip" = none
 b_ValueError:mg "ValueError" = none
theorem t9:yN "bool" = some (.type "bool"):=by decide +kernel
theorem rP:yN "int" = some (.type "int"):=by decide +kernel
theorem ax:yN "isinstance" = some (.builtin "isinstance"):=by decide +kernel
theorem rQ:yN "len" = some (.builtin "len"):=by decide +kernel
theorem gI:yN "list" = some (.type "list"):=by decide +kernel
theorem v3:yN "max" = some (.builtin "max"):=by decide +kernel
theorem jC:yN "min" = some (.builtin "min"):=by decide +kernel
theorem gJ:yN "range" = some (.type "range"):=by decide +kernel
theorem cx:yN "sorted" = some (.builtin "sorted"):=by decide +kernel
theorem jD:yN "sum" = some (.builtin "sum"):=by decide +kernel
theorem bz:yN "tuple" = some (.type "tuple"):=by decide +kernel
theorem j8:yN "ValueError" = some (.type "ValueError"):=by decide +kernel
structure Cst (mg:Str->Option xw):Prop where
 c_MOST_ORDERED:∃t,mg "MOST_ORDERED" = some (.int 7 t)
theorem hu8 {A:yy}{k:Nat}(hr:bY k A):A.units+8<cLine:=y3 (Bc (by decide:8<=64) _) hr.units
structure Ow (H:Hp)(b:Addr)(m:Int)(ts:List (Addr×List Int)):Prop where
 at':∃t,H b=some (.tup [.int m,.ref t])/\H t=some (.tup (ts.map λu =>.ref u.1))
 tup:Tus H ts
 rng:∀u∈ts,∃x y,u.2=[x,y]/\0<=x/\x<m/\0<=y/\y<m
theorem Ow.same {H H':Hp}{b:Addr}{m:Int}{ts:List (Addr×List Int)}(W:Ow H b m ts)(s:az H H'):Ow H' b m ts:=by
 obtain ⟨t,e1,e2⟩:=W.at'
 exact ⟨⟨t,s _ _ e1,s _ _ e2⟩,W.tup.same s,W.rng⟩
theorem Ow.bu {n:Nat}{p:Addr}{H H':Hp}{b:Addr}{m:Int}{ts:List (Addr×List Int)}(W:Ow H b m ts)(u:Bu n p H H')(h:Pt n H p):Ow H' b m ts:=by
 obtain ⟨t,e1,e2⟩:=W.at'
 exact ⟨⟨t,u.tup h e1,u.tup h e2⟩,W.tup.bu u h,W.rng⟩
structure Od (m:Int)(os:List Int):Prop where
 nd:os.Nodup
 mem:∀v,v∈os↔0<=v/\v<m
 len:(os.length:Int)=m
def rgI (m:Nat):List Int:=(yP m).map λi:Nat=>(i:Int)
theorem cH {m:Nat}{v:Int}:v∈rgI m↔0<=v/\v<m:=by
 unfold rgI
 rw[yS]
 constructor
 ·rintro ⟨i,hi,rfl⟩
  have:=AL.mp hi
  omega
 ·intro h
  exact ⟨v.toNat,AL.mpr (by omega),by omega⟩
theorem mH:∀m:Nat,(rgI m).Pairwise (· < ·):=λm=>by
 unfold rgI
 rw[yG]
 exact (List.pairwise_lt_range (n:=m)).imp λ{a b} h=>by omega
theorem kQ (m:Nat):(rgI m).Nodup:=(mH m).imp λ{a b} h=>by omega
theorem aS (m:Nat):(rgI m).length=m:=by unfold rgI;simp
theorem mI {R:List Int}{m:Nat}(nd:R.Nodup)(h:∀v∈R,0<=v/\v<m):R.length<=m:=by
 have:=List.Nodup.length_le_of_subset nd (l₂:=rgI m) λv hv=>cH.mpr (h v hv)
 rwa [aS] at this
open PySem L2
@[irreducible] def lL (K:xx):Sp:=λvs H Q _=>∃(a:Addr) (ns:List Int) (k:Int),vs=[.ref a,.int k]/\SqL K H a (ns.map V.int)/\0<=k/\k<100/\∀(x y:Int) (p:Addr),H p=none->Q (.ref p) (upd H p (.lst ([x,y].map V.int)))
theorem gd {K:xx}{vs:List V}{H:Hp}{Q:VK}{E:XK}:lL K vs H Q E↔∃(a:Addr) (ns:List Int) (k:Int),vs=[.ref a,.int k]/\SqL K H a (ns.map V.int)/\0<=k/\k<100/\∀(x y:Int) (p:Addr),H p=none->Q (.ref p) (upd H p (.lst ([x,y].map V.int))):=by
 delta lL
 exact Ai
abbrev oD:Sp:=λvs H Q _=>∃(p:Addr) (m:Int),vs=[.ref p,.int m]/\Pt 2 H p/\0<m/\Wd m/\∀(r:Int) (H':Hp),0<=r->r<m->Bu 2 p H H'->Q (.int r) H'
@[irreducible] def hX:Sp:=oD
theorem aR {vs:List V}{H:Hp}{Q:VK}{E:XK}:hX vs H Q E↔oD vs H Q E:=by
 delta hX
 exact Ai
def lM:Sp:=λvs H Q _=>∃i:Int,vs=[.int i]/\Q (.bl true) H
theorem iD {vs:List V}{H:Hp}{Q:VK}{E:XK}:lM vs H Q E↔∃i:Int,vs=[.int i]/\Q (.bl true) H:=Ai
theorem bG {i:Int}(h0 : -100000<=i)(h1:i<=100000):Wd i:=by
 unfold Wd
 have:i.natAbs<=100000:=by omega
 exact y3 this (by decide +kernel)
theorem w64:Wd ((10:Int) ^ (64:Int).toNat):=by unfold Wd;decide +kernel
theorem w128:Wd ((10:Int) ^ (64:Int).toNat*(10:Int) ^ (64:Int).toNat):=by unfold Wd;decide +kernel
theorem w192:Wd ((10:Int) ^ (64:Int).toNat*(10:Int) ^ (64:Int).toNat*(10:Int) ^ (64:Int).toNat):=by unfold Wd;decide +kernel
theorem p256:(0:Int)<(10:Int) ^ (64:Int).toNat*(10:Int) ^ (64:Int).toNat*(10:Int) ^ (64:Int).toNat*(10:Int) ^ (64:Int).toNat:=by decide +kernel
theorem w60:Wd ((10:Int) ^ (60:Int).toNat):=by unfold Wd;decide +kernel
theorem p60:(0:Int)<(10:Int) ^ (60:Int).toNat:=by decide +kernel
section
variable  {P:xX}{w:yv}{K:xx}{mg:Str->Option xw}{base:Heap}{f T:Addr}{fd:yM}
theorem gK:aH ["script", "k", "cell", "digits"] ["script", "k"] (aq jy):=⟨rfl,rfl,rfl,by decide +kernel,rfl,by decide +kernel,by decide +kernel⟩
theorem uc (F:Fun K "_law_deal" "_law_deal" jy f fd)(B:Blt mg)(C:Cst mg):bF P w K mg base CX0 1 f fd ["script", "k"] (lL K):=by
 refine F.ok gK (λvs H Q E h =>?_) (λcdv A outer s H vs Q E hr h =>?_)
 ·obtain ⟨_,_,_,rfl,_⟩:=gd.mp h
  rfl
 obtain ⟨a,ns,k,rfl,hS,h0,h1,q⟩:=gd.mp h
 have TD:∃t,PSs (eE CX0 P w K mg base ["script", "k", "cell", "digits"] "_law_deal" (aq jy) f cdv A outer s H E).nox ((bO jy).drop 2) t/\∀(c:Int) (c3:Option V),t { nx:=λ_ H'=>Q .non H',rt:=Q } [some (.ref a),some (.int k),some (.int c),c3] H:=by
  refine ⟨_,(@ah _ _ _ _ _ (@au _ _ 3 _ _ _ _ gK.nd rfl (Or.inl rfl) ai rfl (by first | exact .inl rfl | exact .inr rfl | assumption))
  (@ah _ _ _ _ _ (@b8 _ _ _ _ _ _ _ _ (aM wD (pv 2) (@aF _ _ _ _ _ _ _ _ dM ai ai) (aU _)) (@ao _ _ _ (@au _ _ 3 _ _ _ _ gK.nd rfl (Or.inl rfl) (@aF _ _ _ _ _ _ _ _ vj (pv 2) (@aF _ _ _ _ _ _ _ _ dM ai ai)) rfl (by first | exact .inl rfl | exact .inr rfl | assumption))) ba)
  (@ao _ _ _ (@aX _ _ _ _ (@bJ _ _ _ _ (@aa _ _ _ _ _ (pv 3) (@aa _ _ _ _ _ (@aF _ _ _ _ _ _ _ _ f9 (@aF _ _ _ _ _ _ _ _ lq (@aF _ _ _ _ _ _ _ _ cf (@aF _ _ _ _ _ _ _ _ cf (@aF _ _ _ _ _ _ _ _ f9 (pv 2) ai) (@aF _ _ _ _ _ _ _ _ lq ai (pv 1))) ai) ai) ai) ag rfl) rfl)))))),λc c3 =>?_⟩
  have last:∀dg:Int,∃v,some (some (V.int dg))=some (some v)/\True:=λdg=>⟨_,rfl,trivial⟩
  refine ⟨_,rfl,_,_,rfl,rfl,⟨by decide,by decide,by decide⟩,_,_,rfl,rfl,_,rfl,cQ (λz =>?_) (λz =>?_)⟩
  ·refine ⟨_,rfl,_,_,rfl,rfl,⟨by decide,by decide,by decide⟩,_,_,rfl,rfl,?_⟩
   refine ⟨_,rfl,_,rfl,_,_,rfl,rfl,(by show (0:Int)<_;decide),_,rfl,_,_,rfl,rfl,.inl ⟨by decide,by decide⟩,_,_,rfl,rfl,_,_,rfl,rfl,_,_,rfl,rfl,.inr ⟨by decide,by decide⟩,_,_,rfl,rfl,(by show (0:Int)<_;decide),(by show 2<=xG;decide),λp hp=>q _ _ p hp⟩
  ·refine ⟨_,rfl,_,rfl,_,_,rfl,rfl,(by show (0:Int)<_;decide),_,rfl,_,_,rfl,rfl,.inl ⟨by decide,by decide⟩,_,_,rfl,rfl,_,_,rfl,rfl,_,_,rfl,rfl,.inr ⟨by decide,by decide⟩,_,_,rfl,rfl,(by show (0:Int)<_;decide),(by show 2<=xG;decide),λp hp=>q _ _ p hp⟩
 obtain ⟨tD,pD,gD⟩:=TD
 refine ⟨_,(@ah _ _ _ _ _ (@au _ _ 2 _ _ _ _ gK.nd rfl (Or.inl rfl) ai rfl (by first | exact .inl rfl | exact .inr rfl | assumption))
  (@ah _ _ _ _ _ (@b8 _ _ _ _ _ _ _ _ (aM qx (pv 1) (av gp rfl B.b_len rQ (@aa _ _ _ _ _ (pv 0) ag rfl)) (aU _)) (@ao _ _ _ (@au _ _ 2 _ _ _ _ gK.nd rfl (Or.inl rfl) (@aF _ _ _ _ _ _ _ _ f9 (@aE _ _ _ _ _ _ _ cB (pv 0) (pv 1) (λ_ _=>rfl)) (@aF _ _ _ _ _ _ _ _ lG (@aF _ _ _ _ _ _ _ _ lG (@aF _ _ _ _ _ _ _ _ lG (@aF _ _ _ _ _ _ _ _ dM ai ai) (@aF _ _ _ _ _ _ _ _ dM ai ai)) (@aF _ _ _ _ _ _ _ _ dM ai ai)) (@aF _ _ _ _ _ _ _ _ dM ai ai))) rfl (by first | exact .inl rfl | exact .inr rfl | assumption))) ba)
  pD)),?_⟩
 refine ⟨_,rfl,_,rfl,a,_,rfl,.inl hS,_,_,rfl,rfl,_,rfl,cQ (λc =>?_) (λc=>gD _ _)⟩
 have c':k<((ns.map V.int).length:Int):=of_decide_eq_true c
 rw[xt] at c'
 obtain ⟨v,_,hat⟩:=rb h0 c'
 exact ⟨_,rfl,_,rfl,a,_,k,_,rfl,rfl,hS,hat,_,_,rfl,rfl,⟨by decide,by decide,by decide⟩,_,_,rfl,rfl,⟨by decide,by decide,by decide⟩,_,_,rfl,rfl,⟨w64,w64⟩,_,_,rfl,rfl,⟨by decide,by decide,by decide⟩,_,_,rfl,rfl,⟨w128,w64⟩,
  _,_,rfl,rfl,⟨by decide,by decide,by decide⟩,_,_,rfl,rfl,⟨w192,w64⟩,_,_,rfl,rfl,p256,gD _ _⟩
end
section
variable  {P:xX}{w:yv}{K:xx}{mg:Str->Option xw}{base:Heap}{f T:Addr}{fd:yM}
theorem oE:aH ["pot", "many", "found"] ["pot", "many"] (aq nU):=⟨rfl,rfl,rfl,by decide +kernel,rfl,by decide +kernel,by decide +kernel⟩
theorem ud (F:Fun K "_law_pick" "_law_pick" nU f fd)(B:Blt mg)(C:Cst mg):bF P w K mg base CX0 1 f fd ["pot", "many"] hX:=by
 refine F.ok oE (λvs H Q E h =>?_) (λcdv A outer s H vs Q E hr h =>?_)
 ·obtain ⟨_,_,rfl,_⟩:=aR.mp h
  rfl
 obtain ⟨p,m,rfl,hp,h0,h1,q⟩:=aR.mp h
 refine ⟨_,(@ah _ _ _ _ _ (@b8 _ _ _ _ _ _ _ _ (aM qy (@aE _ _ _ _ _ _ _ cB (pv 0) ai (λ_ _=>rfl)) ai (aU _)) (@ah _ _ _ _ _ (@au _ _ 2 _ _ _ _ oE.nd rfl (Or.inl rfl) (@aF _ _ _ _ _ _ _ _ f9 (@aE _ _ _ _ _ _ _ cB (pv 0) ai (λ_ _=>rfl)) (pv 1)) rfl (by first | exact .inl rfl | exact .inr rfl | assumption))
   (@ah _ _ _ _ _ (@i5 _ _ _ _ _ _ (@aF _ _ _ _ _ _ _ _ q9 (@aE _ _ _ _ _ _ _ cB (pv 0) ai (λ_ _=>rfl)) (pv 1)) (i4 (pv 0) ai set_list) rfl rfl rfl)
   (@ao _ _ _ (@aX _ _ _ _ (pv 2))))) ba)
  (@ah _ _ _ _ _ (@i5 _ _ _ _ _ _ (@aF _ _ _ _ _ _ _ _ f9 (@aF _ _ _ _ _ _ _ _ cf (@aF _ _ _ _ _ _ _ _ lq (@aE _ _ _ _ _ _ _ cB (pv 0) ai (λ_ _=>rfl)) ai) ai) ai) (i4 (pv 0) ai set_list) rfl rfl rfl)
  (@ao _ _ _ (@aX _ _ _ _ (@aF _ _ _ _ _ _ _ _ f9 (@aF _ _ _ _ _ _ _ _ sP (@aF _ _ _ _ _ _ _ _ f9 (@aF _ _ _ _ _ _ _ _ lq (@aE _ _ _ _ _ _ _ cB (pv 0) ai (λ_ _=>rfl)) (@aE _ _ _ _ _ _ _ cB (pv 0) ai (λ_ _=>rfl))) ai) ai) (pv 1)))))),?_⟩
 have bt:=Bu.refl hp
 obtain ⟨xs,lx,ep⟩:=hp
 match xs,lx with
 | [x,y],_ =>
  refine ⟨_,rfl,p,_,0,_,rfl,rfl,SqL.of ep,rfl,_,_,rfl,rfl,_,rfl,cQ (λc =>?_) (λc =>?_)⟩
  ·refine ⟨_,rfl,p,_,0,_,rfl,rfl,SqL.of ep,rfl,_,rfl,_,_,rfl,rfl,h0,?_⟩
   refine ⟨_,rfl,p,_,0,_,rfl,rfl,SqL.of ep,rfl,_,rfl,_,_,rfl,rfl,⟨h0,h1⟩,_,rfl,p,_,0,0,rfl,rfl,ep,rfl,?_⟩
   refine ⟨_,rfl,?_⟩
   exact q _ _ (C4 _ (by omega)) (Ce _ h0) (bt.put (ys:=[x/m,y]) rfl)
  ·refine ⟨_,rfl,p,_,1,_,rfl,rfl,SqL.of ep,rfl,_,_,rfl,rfl,.inr ⟨by decide,by decide⟩,_,_,rfl,rfl,_,_,rfl,rfl,(by show (0:Int)<_;decide),_,rfl,p,_,1,1,rfl,rfl,ep,rfl,?_⟩
   dsimp only
   have b1:=C4 (y*69621+12345) (b:=2147483647) (by decide)
   have b2:=Ce (y*69621+12345) (b:=2147483647) (by decide)
   generalize (y*69621+12345)%2147483647=z at b1 b2 ⊢
   have e:((([x,y]:List Int).map V.int).set 1 (V.int z))=([x,z]:List Int).map V.int:=rfl
   rw[e]
   refine ⟨_,rfl,p,_,1,_,rfl,rfl,SqL.of af,rfl,_,rfl,p,_,1,_,rfl,rfl,SqL.of af,rfl,_,_,rfl,rfl,.inl ⟨by omega,by omega⟩,_,_,rfl,rfl,(by show (0:Int)<_;decide),_,_,rfl,rfl,⟨by decide,by decide⟩,_,rfl,_,_,rfl,rfl,h0,?_⟩
   exact q _ _ (C4 _ (by omega)) (Ce _ h0) (bt.put (ys:=[x,z]) rfl)
end
section
variable  {P:xX}{w:yv}{K:xx}{mg:Str->Option xw}{base:Heap}{f T:Addr}{fd:yM}
theorem rR:aH ["found"] ["found"] (aq lJ):=⟨rfl,rfl,rfl,by decide +kernel,rfl,by decide +kernel,by decide +kernel⟩
theorem rT (F:Fun K "_law_whole" "_law_whole" lJ f fd)(B:Blt mg)(C:Cst mg):bF P w K mg base CX0 1 f fd ["found"] lM:=by
 refine F.ok rR (λvs H Q E h =>?_) (λcdv A outer s H vs Q E hr h =>?_)
 ·obtain ⟨_,rfl,_⟩:=iD.mp h
  rfl
 obtain ⟨a,rfl,q⟩:=iD.mp h
 refine ⟨_,(@ao _ _ _ (@aX _ _ _ _ (lh (av cC rfl B.b_isinstance ax (@aa _ _ _ _ _ (pv 0) (@aa _ _ _ _ _ (fB (v :=.ty "int") rfl B.b_int rP rfl) ag rfl) rfl)) (lb (u9 (av cC rfl B.b_isinstance ax (@aa _ _ _ _ _ (pv 0) (@aa _ _ _ _ _ (fB (v :=.ty "bool") rfl B.b_bool t9 rfl) ag rfl) rfl))))))),?_⟩
 refine ⟨_,rfl,.int a, "int",_,true,rfl,.int a,rfl,_,rfl,eV ?_⟩
 exact ⟨_,rfl,.int a, "bool",_,false,rfl,.int a,rfl,_,rfl,q⟩
end
theorem Od.ins {k d:Nat}{os:List Int}(O:Od (k:Int) os)(hd:d<=os.length):Od ((k+1:Nat):Int) (os.take d++(k:Int) :: os.drop d):=by
 have hp:(os.take d++(k:Int) :: os.drop d).Perm ((k:Int) :: os):=by
  refine DZ.trans ?_
  rw[zU]
 have hk:(k:Int)∉os:=λz=>by have:=(O.mem k).mp z;omega
 refine ⟨hp.nodup_iff.mpr (zD.mpr ⟨hk,O.nd⟩),λv =>?_,?_⟩
 ·rw[hp.mem_iff,yj,O.mem]
  omega
 ·rw[hp.length_eq,yo]
  have:=O.len
  omega
theorem Od.nil:Od ((0:Nat):Int) []:=⟨BE,λv=>⟨λz=>(by cases z),λz=>(by omega)⟩,rfl⟩
theorem lN {n:Nat}{p la:Addr}{H H1:Hp}(hb:Bu n p H H1)(h:H1 la=none):H la=none:=by
 cases e:H la with
 | none=>rfl
 | some o =>
  by_cases z:la=p
  ·subst z
   obtain ⟨xs,_,e2⟩:=hb.pot
   rw[h] at e2
   cases e2
  ·rw[hb.st la o z e] at h
   cases h
abbrev kR:Sp:=λvs H Q _=>∃(p b:Addr) (m:Int) (ts:List (Addr×List Int)),vs=[.ref p,.ref b]/\Pt 2 H p/\Ow H b m ts/\ts.length<=300/\∀(l:Addr) (Ws:List Int) (H':Hp),Bu 2 p H H'->H l=none->l≠p->H' l=some (.lst (Ws.map V.int))->Ws.length=ts.length->Q (.ref l) H'
@[irreducible] def gL:Sp:=kR
theorem d7 {vs:List V}{H:Hp}{Q:VK}{E:XK}:gL vs H Q E↔kR vs H Q E:=by
 delta gL
 exact Ai
section
variable  {P:xX}{w:yv}{K:xx}{mg:Str->Option xw}{base:Heap}{f T:Addr}{fd:yM}
theorem cy:aH ["pot", "web", "way", "found", "arrow", "worth"] ["pot", "web"] (aq jB):=⟨rfl,rfl,rfl,by decide +kernel,rfl,by decide +kernel,by decide +kernel⟩
theorem qc (F:Fun K "_law_worths" "_law_worths" jB f fd)(B:Blt mg)(cLPick:Cal P w K mg base 1 "_law_pick" ["pot", "many"] hX)(C:Cst mg):bF P w K mg base CX0 2 f fd ["pot", "web"] gL:=by
 refine F.ok cy (λvs H Q E h =>?_) (λcdv A outer s H vs Q E hr h =>?_)
 ·obtain ⟨_,_,_,_,rfl,_⟩:=d7.mp h
  rfl
 obtain ⟨p,b,m,ts,rfl,hp,W,lt,q⟩:=d7.mp h
 refine ⟨_,(@ah _ _ _ _ _ (@au _ _ 2 _ _ _ _ cy.nd rfl (Or.inl rfl) (aD cLPick hr (by decide) rfl (@aa _ _ _ _ _ (pv 0) (@aa _ _ _ _ _ ai ag rfl) rfl)) rfl (by first | exact .inl rfl | exact .inr rfl | assumption))
  (@ah _ _ _ _ _ (@au _ _ 3 _ _ _ _ cy.nd rfl (Or.inl rfl) (@bJ _ _ _ _ ag) rfl (by first | exact .inl rfl | exact .inr rfl | assumption))
  (@ah _ _ _ _ _ (@bR _ _ _ _ _ _ _ _ yL rfl (@dt _ _ _ _ (@aE _ _ _ _ _ _ _ aK (pv 1) ai (λ_ _=>rfl))) (aB (i:=4) cy.nd rfl (Or.inl rfl))
   (@ah _ _ _ _ _ (@au _ _ 5 _ _ _ _ cy.nd rfl (Or.inl rfl) ai rfl (by first | exact .inl rfl | exact .inr rfl | assumption))
   (@ah _ _ _ _ _ (@b8 _ _ _ _ _ _ _ _ (aM eQ (pv 2) ai (aU _)) (@ao _ _ _ (@au _ _ 5 _ _ _ _ cy.nd rfl (Or.inl rfl) (aD cLPick hr (by decide) rfl (@aa _ _ _ _ _ (pv 0) (@aa _ _ _ _ _ ai ag rfl) rfl)) rfl (by first | exact .inl rfl | exact .inr rfl | assumption))) ba)
   (@ah _ _ _ _ _ (@b8 _ _ _ _ _ _ _ _ (aM eQ (pv 2) ai (aU _)) (@ao _ _ _ (@au _ _ 5 _ _ _ _ cy.nd rfl (Or.inl rfl) (@aE _ _ _ _ _ _ _ aK (@aY _ _ _ _ _ (@aa _ _ _ _ _ (@aF _ _ _ _ _ _ _ _ dM ai ai) (@aa _ _ _ _ _ (aD cLPick hr (by decide) rfl (@aa _ _ _ _ _ (pv 0) (@aa _ _ _ _ _ (@aF _ _ _ _ _ _ _ _ dM ai ai) ag rfl) rfl)) (@aa _ _ _ _ _ (@aF _ _ _ _ _ _ _ _ dM ai ai) ag rfl) rfl) rfl)) (aD cLPick hr (by decide) rfl (@aa _ _ _ _ _ (pv 0) (@aa _ _ _ _ _ ai ag rfl) rfl)) (λ_ _=>rfl)) rfl (by first | exact .inl rfl | exact .inr rfl | assumption))) ba)
   (@ao _ _ _ (bZ (eC yz yX yY bW (pv 3) (@aa _ _ _ _ _ (pv 5) ag rfl))))))) (λ_=>rfl))
  (@ao _ _ _ (@aX _ _ _ _ (pv 3)))))),?_⟩
 have b0:=Bu.refl hp
 refine ⟨_,rfl,aR.mpr ⟨p,3,rfl,hp,by decide,bG (by decide) (by decide),λwy H1 w0 w1 b1 =>?_⟩⟩
 refine ⟨(by show 0<=xG;decide),λl hl1 =>?_⟩
 have hl:=lN b1 hl1
 have np:l≠p:=hp.ne hl
 have bA:=b1.same (ae hl1 (.lst []))
 have el:upd H1 l (.lst []) l=some (.lst (([]:List Int).map V.int)):=af
 generalize upd H1 l (.lst [])=H2 at bA el
 obtain ⟨t,e1,e2⟩:=(W.bu bA hp).at'
 have e2':∀H',Bu 2 p H2 H'->H' t=some (.tup (ts.map λu =>.ref u.1)):=λH' u=>u.tup bA.pot e2
 refine ⟨_,rfl,b,_,1,_,rfl,rfl,SqT.of e1,rfl,t,rfl,⟨_,SqT.of e2⟩,iH (xs:=ts.map λu =>.ref u.1) (λi σ H'=>(∃c4 c5,σ=[some (.ref p),some (.ref b),some (.int wy),some (.ref l),c4,c5])/\Bu 2 p H H'/\H' t=some (.tup (ts.map λu =>.ref u.1))/\∃Ws:List Int,H' l=some (.lst (Ws.map V.int))/\Ws.length=i) ⟨⟨_,_,rfl⟩,bA,e2,[],el,rfl⟩ (λi σ H' _ k=>SqT.of k.2.2.1) ?_ ?_⟩
 ·rintro i x σ H3 hx ⟨⟨c4,c5,rfl⟩,b3,et3,Ws,ew,lw⟩
  have hi:i<ts.length:=by have:=(xB.mp hx).1;rwa [xt] at this
  have fin:∀(wo:Int) (H4:Hp) (c4:Option V),Bu 2 p H3 H4->(∃c4' c5,([some (.ref p),some (.ref b),some (.int wy),some (.ref l),c4,some (.int wo)]:St)=[some (.ref p),some (.ref b),some (.int wy),some (.ref l),c4',c5])/\Bu 2 p H (upd H4 l (.lst ((Ws++[wo]).map V.int)))/\upd H4 l (.lst ((Ws++[wo]).map V.int)) t=some (.tup (ts.map λu =>.ref u.1))/\∃Ws':List Int,upd H4 l (.lst ((Ws++[wo]).map V.int)) l=some (.lst (Ws'.map V.int))/\Ws'.length=i+1:=λwo H4 c4 b4=>by
   refine ⟨⟨_,_,rfl⟩,(b3.trans b4).cR hl np _,?_,_,af,by rw[xM,lw];rfl⟩
   have:H4 t=some (.tup (ts.map λu =>.ref u.1)):=b4.tup b3.pot et3
   have el4:=b4.st _ _ np ew
   rw[ak (dA this el4 (by intro z;cases z))]
   exact this
  have ap:∀wo:Int,(Ws.map V.int)++[.int wo]=(Ws++[wo]).map V.int:=λwo=>by rw[xH];rfl
  refine ⟨_,rfl,rfl,_,rfl,cQ (λz =>?_) (λz =>?_)⟩
  ·refine ⟨_,rfl,aR.mpr ⟨p,5,rfl,b3.pot,by decide,bG (by decide) (by decide),λd H4 d0 d1 b4 =>?_⟩⟩
   have wy1:wy=1:=by have:=of_decide_eq_true z;exact V.int.inj this
   refine ⟨_,rfl,rfl,_,rfl,cQ (λz =>?_) (λz =>?_)⟩
   ·have:=V.int.inj (of_decide_eq_true z);omega
   have el4:=b4.st _ _ np ew
   refine ⟨_,rfl,.inl ⟨rfl,_,SqL.of el4⟩,_,rfl,l,_,_,rfl,rfl,el4,by rw[xt,lw];exact bX (by omega),?_⟩
   rw[ap]
   exact fin _ _ _ b4
  ·refine ⟨_,rfl,rfl,_,rfl,cQ (λz =>?_) (λz =>?_)⟩
   ·refine ⟨_,_,rfl,rfl,⟨by decide,by decide,by decide⟩,_,rfl,_,_,rfl,rfl,⟨by decide,by decide,by decide⟩,aR.mpr ⟨p,_,rfl,b3.pot,p60,w60,λd H4 d0 d1 b4=>⟨_,_,rfl,rfl,⟨by decide,by decide,by decide⟩,(by show 3<=xG;decide),λt3 ht3 =>?_⟩⟩⟩
    have g5:=ae ht3 (.tup ([(10:Int) ^ (60:Int).toNat,d,(10:Int) ^ (30:Int).toNat].map V.int))
    have et5:upd H4 t3 (.tup ([(10:Int) ^ (60:Int).toNat,d,(10:Int) ^ (30:Int).toNat].map V.int)) t3=some (.tup ([(10:Int) ^ (60:Int).toNat,d,(10:Int) ^ (30:Int).toNat].map V.int)):=af
    have b5:=b4.same g5
    refine ⟨_,rfl,aR.mpr ⟨p,3,rfl,b5.pot,by decide,bG (by decide) (by decide),λd2 H6 f0 f1 b6 =>?_⟩⟩
    obtain ⟨v,_,ev⟩:=rb (xs:=[(10:Int) ^ (60:Int).toNat,d,(10:Int) ^ (30:Int).toNat]) f0 f1
    refine ⟨t3,_,d2,_,rfl,rfl,SqT.of (b6.tup b5.pot et5),ev,?_⟩
    have b7:=b5.trans b6
    have el4:=b7.st _ _ np ew
    refine ⟨_,rfl,.inl ⟨rfl,_,SqL.of el4⟩,_,rfl,l,_,_,rfl,rfl,el4,by rw[xt,lw];exact bX (by omega),?_⟩
    rw[ap]
    exact fin _ _ _ b7
   ·refine ⟨_,rfl,.inl ⟨rfl,_,SqL.of ew⟩,_,rfl,l,_,_,rfl,rfl,ew,by rw[xt,lw];exact bX (by omega),?_⟩
    have:=fin 1 H3 none (Bu.refl b3.pot)
    rw[ap]
    exact fin _ _ _ (Bu.refl b3.pot)
 ·rintro σ H3 ⟨⟨c4,c5,rfl⟩,b3,et3,Ws,ew,lw⟩
  rw[xt] at lw
  exact ⟨_,rfl,q l Ws H3 b3 hl np ew lw⟩
end
open PySem L2
def Rg (m:Int)(us:List (Addr×List Int)):Prop:=∀u∈us,∃x y,u.2=[x,y]/\0<=x/\x<m/\0<=y/\y<m
theorem Rg.snoc {m:Int}{us:List (Addr×List Int)}(h:Rg m us){t:Addr}{x y:Int}(x0:0<=x)(x1:x<m)(y0:0<=y)(y1:y<m):Rg m (us++[(t,[x,y])]):=λu hu=>by
 rcases xS.mp hu with z | z
 ·exact h u z
 ·rw[yd] at z;subst z;exact ⟨x,y,rfl,x0,x1,y0,y1⟩
def Ri (ts:List (Addr×List Int)):Prop:=ts.Pairwise λu v=>HT.lexLt u.2 v.2=true
def Ln (n k j:Nat)(us:List (Addr×List Int)):Prop:=us.length<=n/\Ri us/\∀u∈us,∃x y:Int,u.2=[x,y]/\(x<k\/x=k/\y<j)
theorem lex2 {a b c d:Int}(h:a<c\/a=c/\b<d):HT.lexLt [a,b] [c,d]=true:=by
 rw[HT.bb]
 rcases h with z | ⟨z,y⟩
 ·rw[if_neg (by omega)];exact decide_eq_true z
 ·rw[if_pos z,HT.bb,if_neg (by omega)];exact decide_eq_true y
theorem Ln.nil {n k j:Nat}:Ln n k j []:=⟨yE _,List.Pairwise.nil,λu hu=>by cases hu⟩
theorem Ln.stay {n k j:Nat}{us:List (Addr×List Int)}(h:Ln n k j us):Ln (n+1) k (j+1) us:=⟨by have:=h.1;omega,h.2.1,λu hu=>by
 obtain ⟨x,y,e,c⟩:=h.2.2 u hu
 exact ⟨x,y,e,by omega⟩⟩
theorem Ln.add {n k j:Nat}{us:List (Addr×List Int)}(h:Ln n k j us){t:Addr}:Ln (n+1) k (j+1) (us++[(t,[0+(k:Int),0+(j:Int)])]):=by
 refine ⟨by rw[xM];have:=h.1;show _+1<=_;omega,yH.mpr ⟨h.2.1,yR _ _,λu hu v hv =>?_⟩,λu hu =>?_⟩
 ·rw[yd] at hv
  obtain ⟨x,y,e,c⟩:=h.2.2 u hu
  rw[hv,e]
  exact lex2 (by omega)
 ·rcases xS.mp hu with z | z
  ·obtain ⟨x,y,e,c⟩:=h.2.2 u z
   exact ⟨x,y,e,by omega⟩
  ·rw[yd] at z
   exact ⟨_,_,by rw[z],by omega⟩
theorem Ln.on {n m k:Nat}{us:List (Addr×List Int)}(h:Ln n k m us):Ln n (k+1) 0 us:=⟨h.1,h.2.1,λu hu=>by
 obtain ⟨x,y,e,c⟩:=h.2.2 u hu
 exact ⟨x,y,e,by omega⟩⟩
abbrev kT:Sp:=λvs H Q _=>∃(p:Addr) (mo:Int),vs=[.ref p,.int mo]/\Pt 2 H p/\0<=mo/\mo<=10/\∀(b:Addr) (m:Nat) (ts:List (Addr×List Int)) (H':Hp),Bu 2 p H H'->Ow H' b (m:Int) ts->(m:Int)<=mo->ts.length<=200->Ri ts->Q (.ref b) H'
@[irreducible] def gM:Sp:=kT
theorem d8 {vs:List V}{H:Hp}{Q:VK}{E:XK}:gM vs H Q E↔kT vs H Q E:=by
 delta gM
 exact Ai
section
variable  {P:xX}{w:yv}{K:xx}{mg:Str->Option xw}{base:Heap}{f T:Addr}{fd:yM}
theorem bB:aH ["pot", "most", "many", "share", "loops", "order", "place", "arrows", "a", "b", "rises"] ["pot", "most"] (aq jA):=⟨rfl,rfl,rfl,by decide +kernel,rfl,by decide +kernel,by decide +kernel⟩
theorem qd (F:Fun K "_law_oneway" "_law_oneway" jA f fd)(B:Blt mg)(cLPick:Cal P w K mg base 1 "_law_pick" ["pot", "many"] hX)(C:Cst mg):bF P w K mg base CX0 2 f fd ["pot", "most"] gM:=by
 refine F.ok bB (λvs H Q E h =>?_) (λcdv A outer s H vs Q E hr h =>?_)
 ·obtain ⟨_,_,rfl,_⟩:=d8.mp h
  rfl
 obtain ⟨p,mo,rfl,hp,mo0,mo1,q⟩:=d8.mp h
 refine ⟨_,(@ah _ _ _ _ _ (@au _ _ 2 _ _ _ _ bB.nd rfl (Or.inl rfl) (aD cLPick hr (by decide) rfl (@aa _ _ _ _ _ (pv 0) (@aa _ _ _ _ _ (@aF _ _ _ _ _ _ _ _ cf (pv 1) ai) ag rfl) rfl)) rfl (by first | exact .inl rfl | exact .inr rfl | assumption))
  (@ah _ _ _ _ _ (@au _ _ 3 _ _ _ _ bB.nd rfl (Or.inl rfl) (aD cLPick hr (by decide) rfl (@aa _ _ _ _ _ (pv 0) (@aa _ _ _ _ _ ai ag rfl) rfl)) rfl (by first | exact .inl rfl | exact .inr rfl | assumption))
  (@ah _ _ _ _ _ (@au _ _ 4 _ _ _ _ bB.nd rfl (Or.inl rfl) (aD cLPick hr (by decide) rfl (@aa _ _ _ _ _ (pv 0) (@aa _ _ _ _ _ ai ag rfl) rfl)) rfl (by first | exact .inl rfl | exact .inr rfl | assumption))
  (@ah _ _ _ _ _ (@au _ _ 5 _ _ _ _ bB.nd rfl (Or.inl rfl) (@bJ _ _ _ _ ag) rfl (by first | exact .inl rfl | exact .inr rfl | assumption))
  (@ah _ _ _ _ _ (@bR _ _ _ _ _ _ _ _ yL rfl (bV rfl B.b_range (@aa _ _ _ _ _ (pv 2) ag rfl)) (aB (i:=6) bB.nd rfl (Or.inl rfl))
   (@ao _ _ _ (bZ (eC yz PySem.F.slot_list_insert PySem.F.type_list_insert pB (pv 5) (@aa _ _ _ _ _ (aD cLPick hr (by decide) rfl (@aa _ _ _ _ _ (pv 0) (@aa _ _ _ _ _ (@aF _ _ _ _ _ _ _ _ cf (pv 6) ai) ag rfl) rfl)) (@aa _ _ _ _ _ (pv 6) ag rfl) rfl)))) (λ_=>rfl))
  (@ah _ _ _ _ _ (@au _ _ 7 _ _ _ _ bB.nd rfl (Or.inl rfl) (@bJ _ _ _ _ ag) rfl (by first | exact .inl rfl | exact .inr rfl | assumption))
  (@ah _ _ _ _ _ (@bR _ _ _ _ _ _ _ _ yL rfl (bV rfl B.b_range (@aa _ _ _ _ _ (pv 2) ag rfl)) (aB (i:=8) bB.nd rfl (Or.inl rfl))
   (@ao _ _ _ (@bR _ _ _ _ _ _ _ _ yL rfl (bV rfl B.b_range (@aa _ _ _ _ _ (pv 2) ag rfl)) (aB (i:=9) bB.nd rfl (Or.inl rfl))
    (@ah _ _ _ _ _ (@au _ _ 10 _ _ _ _ bB.nd rfl (Or.inl rfl) (gi qx (eC yz Bo CA kK (pv 5) (@aa _ _ _ _ _ (pv 8) ag rfl)) (eC yz Bo CA kK (pv 5) (@aa _ _ _ _ _ (pv 9) ag rfl)) (aU _)) rfl (by first | exact .inl rfl | exact .inr rfl | assumption))
    (@ao _ _ _ (@b8 _ _ _ _ _ _ _ _ (aM eQ (pv 8) (pv 9) (aU _)) (@ao _ _ _ (@b8 _ _ _ _ _ _ _ _ (PW.pt (k9 (aM eQ (pv 4) ai (aU _)) (k8 (aM eQ (aD cLPick hr (by decide) rfl (@aa _ _ _ _ _ (pv 0) (@aa _ _ _ _ _ ai ag rfl) rfl)) ai (aU _))))) (@ao _ _ _ (bZ (eC yz yX yY bW (pv 7) (@aa _ _ _ _ _ (@aY _ _ _ _ _ (@aa _ _ _ _ _ (pv 8) (@aa _ _ _ _ _ (pv 9) ag rfl) rfl)) ag rfl)))) ba)) (@ao _ _ _ (@b8 _ _ _ _ _ _ _ _ (PW.pt (k9 (aM qx (aD cLPick hr (by decide) rfl (@aa _ _ _ _ _ (pv 0) (@aa _ _ _ _ _ ai ag rfl) rfl)) (@aF _ _ _ _ _ _ _ _ cf (pv 3) (aG o8 rfl B.b_int rP (@aa _ _ _ _ _ (pv 10) ag rfl))) (aU _)) (k8 (PW.pt (iY (aM qy (pv 3) ai (aU _)) (iX (cO (pv 10)))))))) (@ao _ _ _ (bZ (eC yz yX yY bW (pv 7) (@aa _ _ _ _ _ (@aY _ _ _ _ _ (@aa _ _ _ _ _ (pv 8) (@aa _ _ _ _ _ (pv 9) ag rfl) rfl)) ag rfl)))) ba))))) (λ_=>rfl))) (λ_=>rfl))
  (@ao _ _ _ (@aX _ _ _ _ (@aY _ _ _ _ _ (@aa _ _ _ _ _ (pv 2) (@aa _ _ _ _ _ (aG bh rfl B.b_tuple bz (@aa _ _ _ _ _ (pv 7) ag rfl)) ag rfl) rfl))))))))))),?_⟩
 refine ⟨_,rfl,_,rfl,_,_,rfl,rfl,aR.mpr ⟨p,mo+1,rfl,hp,by omega,bG (by omega) (by omega),λm' H1 m0 m1 u1 =>?_⟩⟩
 obtain ⟨m,rfl⟩:∃n:Nat,m'=n:=⟨m'.toNat,by omega⟩
 have hm:m<=10:=by omega
 have hmo:(m:Int)<=mo:=by omega
 refine ⟨_,rfl,aR.mpr ⟨p,5,rfl,u1.pot,by decide,bG (by decide) (by decide),λsh H2 s0 s1 u2 =>?_⟩⟩
 refine ⟨_,rfl,aR.mpr ⟨p,3,rfl,u2.pot,by decide,bG (by decide) (by decide),λlp H3 l0 l1 u3 =>?_⟩⟩
 have uA:=(u1.trans u2).trans u3
 refine ⟨(by show 0<=xG;decide),λlo hlo1 =>?_⟩
 have hlo:=lN uA hlo1
 have npo:lo≠p:=hp.ne hlo
 have uB:=uA.same (ae hlo1 (.lst []))
 have elo:upd H3 lo (.lst []) lo=some (.lst (([]:List Int).map V.int)):=af
 generalize upd H3 lo (.lst [])=H4 at uB elo
 refine ⟨_,rfl,(m:Int),rfl,by omega,by omega,cK (λk σ H'=>(∃c6 c7 c8 c9 c10,σ=[some (.ref p),some (.int mo),some (.int m),some (.int sh),some (.int lp),some (.ref lo),c6,c7,c8,c9,c10])/\Bu 2 p H H'/\∃os,H' lo=some (.lst (os.map V.int))/\Od (k:Int) os) ⟨⟨_,_,_,_,_,rfl⟩,uB,[],elo,Od.nil⟩ ?_ ?_⟩
 ·rintro k σ H5 hk ⟨⟨c6,c7,c8,c9,c10,rfl⟩,b5,os,eo,O⟩
  have hk':(k:Int)<40:=by omega
  have lo':=O.len
  refine ⟨_,rfl,.inl ⟨rfl,_,SqL.of eo⟩,_,rfl,_,rfl,_,_,rfl,rfl,aR.mpr ⟨p,0+(k:Int)+1,rfl,b5.pot,by omega,bG (by omega) (by omega),λd H6 d0 d1 b6 =>?_⟩⟩
  obtain ⟨n,rfl⟩:∃n:Nat,d=n:=⟨d.toNat,by omega⟩
  have eo3:=b6.st _ _ npo eo
  refine ⟨_,rfl,lo,_,(n:Int),_,rfl,rfl,eo3,by omega,by rw[xt];omega,by rw[xt];exact bX (by omega),?_⟩
  refine ⟨⟨_,_,_,_,_,rfl⟩,(b5.trans b6).cR hlo npo _,os.take n++(k:Int) :: os.drop n,?_,O.ins (by omega)⟩
  have e0:(0+(k:Int))=k:=by omega
  rw[af,e0,yD,xH,xR,List.map_take,List.map_drop]
 rintro σ H5 ⟨⟨c6,c7,c8,c9,c10,rfl⟩,b5,os,eo,O⟩
 rw[yD] at O
 have lno:=O.len
 refine ⟨(by show 0<=xG;decide),λla hla1 =>?_⟩
 have hla:=lN b5 hla1
 have np:la≠p:=hp.ne hla
 have nlo:lo≠la:=aj eo hla1
 have m6:Mkg 2 p la H (upd H5 la (.lst [])) []:=⟨b5.same (ae hla1 _),af,(λu hu=>by cases hu),λu hu=>by cases hu⟩
 have eo6:=(ae hla1 (.lst [])) _ _ eo
 generalize upd H5 la (.lst [])=H6 at m6 eo6
 refine ⟨_,rfl,(m:Int),rfl,by omega,by omega,cK (λk σ H'=>(∃c8 c9 c10,σ=[some (.ref p),some (.int mo),some (.int m),some (.int sh),some (.int lp),some (.ref lo),c6,some (.ref la),c8,c9,c10])/\H' lo=some (.lst (os.map V.int))/\∃us,Mkg 2 p la H H' us/\Rg m us/\Ln (m*k) k 0 us) ⟨⟨_,_,_,rfl⟩,eo6,[],m6,λu hu=>(by cases hu),Ln.nil⟩ ?_ ?_⟩
 ·rintro k σ H7 hk ⟨⟨c8,c9,c10,rfl⟩,eo7,us,m7,rg,lu⟩
  have hk':(k:Int)<m:=by omega
  have km:m*k<=100:=yf (Ex hm (show k<=10 by omega)) (by decide)
  refine ⟨_,rfl,(m:Int),rfl,by omega,by omega,cK (λj σ H'=>(∃c9 c10,σ=[some (.ref p),some (.int mo),some (.int m),some (.int sh),some (.int lp),some (.ref lo),c6,some (.ref la),some (.int (0+(k:Int))),c9,c10])/\H' lo=some (.lst (os.map V.int))/\∃us,Mkg 2 p la H H' us/\Rg m us/\Ln (m*k+j) k j us) ⟨⟨_,_,rfl⟩,eo7,us,m7,rg,lu⟩ ?_ ?_⟩
  ·rintro j σ H8 hj ⟨⟨c9,c10,rfl⟩,eo8,us,m8,rg,lu⟩
   have hj':(j:Int)<m:=by omega
   have lu0:=lu.1
   refine ⟨_,rfl,.inl ⟨rfl,_,SqL.of eo8⟩,_,rfl,lo,os,0+(k:Int),rfl,rfl,eo8,(O.mem _).mpr ⟨by omega,by omega⟩,by omega,_,rfl,.inl ⟨rfl,_,SqL.of eo8⟩,_,rfl,lo,os,0+(j:Int),rfl,rfl,eo8,(O.mem _).mpr ⟨by omega,by omega⟩,by omega,_,_,rfl,rfl,?_⟩
   generalize decide (((os.idxOf (0+(k:Int)):Nat):Int)<((os.idxOf (0+(j:Int)):Nat):Int))=ri
   have stay:∀H9,Bu 2 p H8 H9->(H9 lo=some (.lst (os.map V.int))/\Mkg 2 p la H H9 us):=λH9 u=>⟨u.st _ _ npo eo8,m8.bu' np u⟩
   refine ⟨_,rfl,_,rfl,rfl,_,rfl,cQ (λz =>?_) (λz =>?_)⟩
   ·refine ⟨_,rfl,rfl,_,rfl,cQ (λz =>?_) (λz =>?_)⟩
    ·refine ⟨_,rfl,aR.mpr ⟨p,3,rfl,m8.bu.pot,by decide,bG (by decide) (by decide),λd3 H9 f0 f1 b9=>⟨rfl,_,rfl,cQ (λz =>?_) (λz =>?_)⟩⟩⟩
     ·obtain ⟨eoX,mX⟩:=stay H9 b9
      refine ⟨_,rfl,.inl ⟨rfl,_,SqL.of mX.at'⟩,_,rfl,_,rfl,(by show 2<=xG;decide),λt ht =>?_⟩
      have m9:=mX.add hla np ht (0+(k:Int)) (0+(j:Int))
      have eo9:upd (upd H9 t (.tup [.int (0+(k:Int)),.int (0+(j:Int))])) la (.lst ((us.map λu=>V.ref u.1)++[.ref t])) lo=some (.lst (os.map V.int)):=by rw[ak nlo];exact (ae ht _) _ _ eoX
      refine ⟨la,_,_,rfl,rfl,(ae ht _) _ _ mX.at',by rw[xt];exact bX (by omega),?_⟩
      exact ⟨⟨_,_,rfl⟩,eo9,_,m9,rg.snoc (by omega) (by omega) (by omega) (by omega),lu.add⟩
     ·obtain ⟨eoX,mX⟩:=stay H9 b9
      exact ⟨⟨_,_,rfl⟩,eoX,us,mX,rg,lu.stay⟩
    ·exact dO ⟨⟨_,_,rfl⟩,eo8,us,m8,rg,lu.stay⟩
   ·refine ⟨_,rfl,aR.mpr ⟨p,5,rfl,m8.bu.pot,by decide,bG (by decide) (by decide),λd5 H9 f0 f1 b9 =>?_⟩⟩
    obtain ⟨eoX,mX⟩:=stay H9 b9
    refine ⟨_,rfl,_,rfl,.inr ⟨_,rfl,_,_,rfl,rfl,_,_,rfl,rfl,_,rfl,cQ (λz =>?_) (λz =>?_)⟩⟩
    ·refine ⟨_,rfl,_,_,rfl,rfl,_,rfl,cQ (λz =>?_) (λz =>?_)⟩
     ·skip
      refine eV ⟨_,rfl,.inl ⟨rfl,_,SqL.of mX.at'⟩,_,rfl,_,rfl,(by show 2<=xG;decide),λt ht =>?_⟩
      have m9:=mX.add hla np ht (0+(k:Int)) (0+(j:Int))
      have eo9:upd (upd H9 t (.tup [.int (0+(k:Int)),.int (0+(j:Int))])) la (.lst ((us.map λu=>V.ref u.1)++[.ref t])) lo=some (.lst (os.map V.int)):=by rw[ak nlo];exact (ae ht _) _ _ eoX
      refine ⟨la,_,_,rfl,rfl,(ae ht _) _ _ mX.at',by rw[xt];exact bX (by omega),?_⟩
      exact ⟨⟨_,_,rfl⟩,eo9,_,m9,rg.snoc (by omega) (by omega) (by omega) (by omega),lu.add⟩
     ·refine ⟨_,rfl,_,rfl,cQ (λz =>?_) (λz =>?_)⟩
      ·skip
       refine ⟨_,rfl,.inl ⟨rfl,_,SqL.of mX.at'⟩,_,rfl,_,rfl,(by show 2<=xG;decide),λt ht =>?_⟩
       have m9:=mX.add hla np ht (0+(k:Int)) (0+(j:Int))
       have eo9:upd (upd H9 t (.tup [.int (0+(k:Int)),.int (0+(j:Int))])) la (.lst ((us.map λu=>V.ref u.1)++[.ref t])) lo=some (.lst (os.map V.int)):=by rw[ak nlo];exact (ae ht _) _ _ eoX
       refine ⟨la,_,_,rfl,rfl,(ae ht _) _ _ mX.at',by rw[xt];exact bX (by omega),?_⟩
       exact ⟨⟨_,_,rfl⟩,eo9,_,m9,rg.snoc (by omega) (by omega) (by omega) (by omega),lu.add⟩
      ·exact ⟨⟨_,_,rfl⟩,eoX,us,mX,rg,lu.stay⟩
    ·exact dO ⟨⟨_,_,rfl⟩,eoX,us,mX,rg,lu.stay⟩
  ·rintro σ H8 ⟨⟨c9,c10,rfl⟩,eo8,us,m8,rg,lu⟩
   rw[yD] at lu
   exact ⟨⟨_,_,_,rfl⟩,eo8,us,m8,rg,by rw[Nat.mul_succ];exact lu.on⟩
 ·rintro σ H7 ⟨⟨c8,c9,c10,rfl⟩,eo7,us,m7,rg,lu⟩
  rw[yD] at lu
  have lu0:=lu.1
  have mm:m*m<=100:=yf (Ex hm hm) (by decide)
  refine ⟨_,rfl,_,rfl,la,_,rfl,.inl ⟨SqL.of m7.at',λl3 hl3=>⟨(by show 2<=xG;decide),λb hb =>?_⟩⟩⟩
  have gA:=(ae hl3 (.tup (us.map λt =>.ref t.1))).trans (ae hb (.tup [.int m,.ref l3]))
  exact q b m us _ (m7.bu.same gA) ⟨⟨l3,af,(ae hb _) _ _ af⟩,λu hu=>gA _ _ (m7.tu u hu),rg⟩ hmo (by omega) lu.2.1
end
theorem xq {us:List (Addr×List Int)}(h:Ri us):(us.map (·.2)).Nodup:=by
 refine yG.mpr (h.imp λ{a b} z e =>?_)
 rw[e,Srt.lex_irrefl] at z
 cases z
open PySem L2
def SS (x:List Int):Prop:=x.Pairwise (· < ·)
theorem rU:∀{x y:List Int},SS x->SS y->(∀v,v∈x↔v∈y)->x=y
 | [],[],_,_,_=>rfl
 | [],b :: y,_,_,h=>absurd ((h b).mpr xT) (by simp)
 | a :: x,[],_,_,h=>absurd ((h a).mp xT) (by simp)
 | a :: x,b :: y,hx,hy,h=>by
  have hx':=Aq.mp hx
  have hy':=Aq.mp hy
  have e:a=b:=by
   have m1:=(h a).mp xT
   have m2:=(h b).mpr xT
   rcases yj.mp m1 with z | z
   ·exact z
   ·rcases yj.mp m2 with z2 | z2
    ·exact z2.symm
    ·have:=hy'.1 a z;have:=hx'.1 b z2;omega
  subst e
  congr 1
  refine rU hx'.2 hy'.2 λv=>⟨λhv =>?_,λhv =>?_⟩
  ·rcases yj.mp ((h v).mp (xO _ hv)) with z | z
   ·have:=hx'.1 v hv;omega
   ·exact z
  ·rcases yj.mp ((h v).mpr (xO _ hv)) with z | z
   ·have:=hy'.1 v hv;omega
   ·exact z
theorem cT {x:List Int}(h:SS x):x.Nodup:=h.imp λz=>by omega
theorem fL {x:List Int}(f:Int->Bool)(h:SS x):SS (x.filter f):=EL f h
def sbs (ns:List Int):List (List Int):=ns.foldl (λf v=>f++f.map (· ++ [v])) [[]]
theorem dF (ns:List Int)(v:Int):sbs (ns++[v])=sbs ns++(sbs ns).map (· ++ [v]):=by
 unfold sbs
 rw[List.foldl_append]
 rfl
theorem snoc_cases {α:Type}{C:List α -> Prop}(h0:C [])(h1:∀l a,C l->C (l++[a]))(l:List α):C l:=by
 have:∀(n:Nat),C (l.take n):=by
  intro n
  induction n with
  | zero=>exact h0
  | succ n ih =>
   rw[ye]
   cases l[n]? with
   | none=>rw[Option.toList,yC];exact ih
   | some a=>exact h1 _ a ih
 have:=this l.length
 rwa [List.take_length] at this
theorem iN {x:List Int}{v:Int}:SS (x++[v])↔SS x/\∀u∈x,u<v:=by
 unfold SS
 rw[yH]
 constructor
 ·exact λ⟨a,_,c⟩=>⟨a,λu hu=>c u hu v xT⟩
 ·exact λ⟨a,c⟩=>⟨a,yR _ _,λu hu w hw=>by rw[yd.mp hw];exact c u hu⟩
theorem gN (ns:List Int):(sbs ns).length=2 ^ ns.length:=by
 refine snoc_cases (C:=λns=>(sbs ns).length=2 ^ ns.length) rfl (λl a ih =>?_) ns
 rw[dF,xM,xt,ih,xM,y6,Nat.pow_succ]
 omega
theorem lP {ns:List Int}:SS ns->∀x,x∈sbs ns↔SS x/\∀v∈x,v∈ns:=by
 refine snoc_cases (C:=λns=>SS ns->∀x,x∈sbs ns↔SS x/\∀v∈x,v∈ns) ?_ ?_ ns
 ·intro _ x
  show x∈[[]]↔_
  rw[yd]
  constructor
  ·rintro rfl
   exact ⟨List.Pairwise.nil,λv hv=>hv⟩
  ·rintro ⟨_,h⟩
   cases x with
   | nil=>rfl
   | cons a x=>cases h a xT
 ·intro l a ih hs x
  obtain ⟨sl,la⟩:=iN.mp hs
  rw[dF,xS,yS]
  constructor
  ·rintro (h | ⟨y,h,rfl⟩)
   ·obtain ⟨h1,h2⟩:=(ih sl x).mp h
    exact ⟨h1,λv hv=>zI _ (h2 v hv)⟩
   ·obtain ⟨h1,h2⟩:=(ih sl y).mp h
    refine ⟨iN.mpr ⟨h1,λu hu=>la u (h2 u hu)⟩,λv hv =>?_⟩
    rcases xS.mp hv with z | z
    ·exact zI _ (h2 v z)
    ·exact yg _ z
  ·rintro ⟨h1,h2⟩
   by_cases c:a∈x
   ·right
    have sx:=fL (λv=>decide (v≠a)) h1
    have mx:∀v,v∈x.filter (λv=>decide (v≠a))↔v∈x/\v≠a:=λv=>by rw[yQ];simp
    have hl:∀v∈x.filter (λv=>decide (v≠a)),v∈l:=λv hv=>by
     obtain ⟨z1,z2⟩:=(mx v).mp hv
     rcases xS.mp (h2 v z1) with z | z
     ·exact z
     ·exact absurd (yd.mp z) z2
    refine ⟨_,(ih sl _).mpr ⟨sx,hl⟩,?_⟩
    refine rU (iN.mpr ⟨sx,λu hu=>la u (hl u hu)⟩) h1 λv =>?_
    rw[xS,mx,yd]
    constructor
    ·rintro (z | z)
     ·exact z.1
     ·exact z ▸ c
    ·intro z
     by_cases e:v=a
     ·exact .inr e
     ·exact .inl ⟨z,e⟩
   ·left
    refine (ih sl x).mpr ⟨h1,λv hv =>?_⟩
    rcases xS.mp (h2 v hv) with z | z
    ·exact z
    ·exact absurd (yd.mp z ▸ hv) c
theorem rV {ns:List Int}:SS ns->(sbs ns).Nodup:=by
 refine snoc_cases (C:=λns=>SS ns->(sbs ns).Nodup) (λ_=>by show [[]].Nodup;simp) (λl a ih hs =>?_) ns
 obtain ⟨sl,la⟩:=iN.mp hs
 rw[dF,Cy]
 refine ⟨ih sl,?_,?_⟩
 ·exact yG.mpr ((ih sl).imp λ{x y} ne e=>ne (List.append_cancel_right e))
 ·rintro x hx y hy rfl
  obtain ⟨z,_,rfl⟩:=yS.mp hy
  have:=((lP sl _).mp hx).2 a (yg _ xT)
  have:=la a this
  omega
theorem lQ:∀(ns x:List Int),x∈sbs ns->x.length<=ns.length:=by
 intro ns
 refine snoc_cases (C:=λns=>∀x,x∈sbs ns->x.length<=ns.length) (λx hx =>?_) (λl a ih x hx =>?_) ns
 ·rw[yd.mp (show x∈[[]] from hx)];exact xC _
 ·rw[dF,xS] at hx
  rw[xM,y6]
  rcases hx with z | z
  ·have:=ih x z;omega
  ·obtain ⟨y,hy,rfl⟩:=yS.mp z
   have:=ih y hy
   rw[xM,y6]
   omega
theorem mJ {H:Hp}{ts:List (Addr×List Int)}{u:Addr×List Int}(t:Tus H ts)(h:H u.1=some (.tup (u.2.map V.int))):Tus H (ts++[u]):=λv hv=>by
 rcases xS.mp hv with z | z
 ·exact t v z
 ·rw[yd.mp z];exact h
theorem filS {α:Type}{f:α -> Bool}{l:List α}{i:Nat}{x:α}(e:l[i]? = some x):(l.take (i+1)).filter f=(l.take i).filter f++if f x=true then [x] else []:=by
 rw[ye,e,AQ]
 congr 1
 show List.filter f [x]=_
 rw[BM]
 split <;> rfl
theorem oF {α β:Type}{f:α -> Bool}{g:α -> β}{l:List α}{i:Nat}{x:α}(e:l[i]? = some x):((l.take (i+1)).filter f).map g=((l.take i).filter f).map g++if f x=true then [g x] else []:=by
 rw[filS e,xH]
 congr 1
 split <;> rfl
theorem cA {n:Nat}(h:n<=5000):n<xG:=y3 h (by decide)
theorem cU {n:Nat}(h:n<=5000):n<=xG:=Ao (cA h)
abbrev jE:Sp:=λvs H Q _=>∃(a:Addr) (ns:List Int),vs=[.ref a]/\H a=some (.tup (ns.map V.int))/\ns.length<=9/\∀(l:Addr) (us:List (Addr×List Int)) (H':Hp),az H H'->H l=none->H' l=some (.lst (us.map λu =>.ref u.1))->Tus H' us->(us.map (·.2)).Perm (sbs ns)->(us.map (·.2)).Pairwise (λx y=>x.length<=y.length)->Q (.ref l) H'
@[irreducible] def fM:Sp:=jE
theorem dz {vs:List V}{H:Hp}{Q:VK}{E:XK}:fM vs H Q E↔jE vs H Q E:=by
 delta fM
 exact Ai
section
variable  {P:xX}{w:yv}{K:xx}{mg:Str->Option xw}{base:Heap}{f T:Addr}{fd:yM}
theorem fN:aH ["places", "sets", "place"] ["places"] (aq jw):=⟨rfl,rfl,rfl,by decide +kernel,rfl,by decide +kernel,by decide +kernel⟩
theorem fT:(["one", "place"]:List Str).Nodup:=by decide +kernel
theorem qe (F:Fun K "all_sets" "all_sets" jw f fd)(B:Blt mg)(C:Cst mg):bF P w K mg base CX0 1 f fd ["places"] fM:=by
 refine F.ok fN (λvs H Q E h =>?_) (λcdv A outer s H vs Q E hr h =>?_)
 ·obtain ⟨_,_,rfl,_⟩:=dz.mp h
  rfl
 obtain ⟨a,ns,rfl,ha,h7,q⟩:=dz.mp h
 refine ⟨_,(@ah _ _ _ _ _ (@au _ _ 1 _ _ _ _ fN.nd rfl (Or.inl rfl) (@bJ _ _ _ _ (@aa _ _ _ _ _ (@aY _ _ _ _ _ ag) ag rfl)) rfl (by first | exact .inl rfl | exact .inr rfl | assumption))
  (@ah _ _ _ _ _ (@bR _ _ _ _ _ _ _ _ yL rfl (@dt _ _ _ _ (pv 0)) (aB (i:=2) fN.nd rfl (Or.inr rfl))
   (@ao _ _ _ (@au _ _ 1 _ _ _ _ fN.nd rfl (Or.inl rfl) (@aF _ _ _ _ _ _ _ _ lB (pv 1) (bP ["one", "place"] [none,some 2] rfl (@fC _ _ _ _ (pv 1)) rfl (λ_ _ _ _ _=>(aB (i:=0) fT rfl (Or.inl rfl))) (λ_ _ _ _ _=>dQ) (λ_ _ _ _ _=>(@aF _ _ _ _ _ _ _ _ (kN (K:=K)) (pv 0) (@aY _ _ _ _ _ (@aa _ _ _ _ _ (pv 1) ag rfl)))))) rfl (by first | exact .inl rfl | exact .inr rfl | assumption))) (λ_=>rfl))
  (@ao _ _ _ (@aX _ _ _ _ (gC rfl B.b_sorted rfl B.b_len cx (pv 1)))))),?_⟩
 refine ⟨(by show 0<=xG;decide),λt0 ht0=>⟨(by show 1<=xG;decide),λl0 hl0 =>?_⟩⟩
 have s0:=(ae ht0 (.tup [])).trans (ae hl0 (.lst [.ref t0]))
 have e0:upd (upd H t0 (.tup [])) l0 (.lst [.ref t0]) l0=some (.lst (([(t0,[])]:List (Addr×List Int)).map λu =>.ref u.1)):=af
 have et:Tus (upd (upd H t0 (.tup [])) l0 (.lst [.ref t0])) [(t0,[])]:=λu hu=>by
  rw[yd.mp hu]
  exact (ae hl0 _) _ _ af
 generalize upd (upd H t0 (.tup [])) l0 (.lst [.ref t0])=H0 at s0 e0 et
 refine ⟨_,rfl,a,rfl,⟨_,SqT.of (s0 _ _ ha)⟩,iH (xs:=ns.map V.int) (λi σ H'=>(∃l us c2,σ=[some (.ref a),some (.ref l),c2]/\H' l=some (.lst (us.map λu =>.ref u.1))/\Tus H' us/\us.map (·.2)=sbs (ns.take i))/\az H H') ⟨⟨l0,[(t0,[])],_,rfl,e0,et,rfl⟩,s0⟩ (λi σ H' _ k=>SqT.of (k.2 _ _ ha)) ?_ ?_⟩
 ·rintro i x σ H' hx ⟨⟨l,us,c2,rfl,el,tus,em⟩,s1⟩
  obtain ⟨v,ev,rfl⟩:=eD hx
  have hi:i<ns.length:=(xB.mp ev).1
  have lus:us.length<=256:=by
   have:=congrArg List.length em
   rw[xt,gN,yw] at this
   have:2 ^ (min i ns.length)<=2 ^ 8:=z9 (by decide) (by omega)
   omega
  have l50:∀u∈us,u.2.length<=9:=λu hu=>by
   have h1:u.2∈sbs (ns.take i):=em ▸ y9 hu
   exact yf (lQ _ _ h1) (yf (B5 _ _) (by omega))
  refine ⟨_,rfl,_,rfl,l,rfl,⟨_,SqL.of el⟩,dR (xs:=us.map λu =>.ref u.1) (λk zs H2=>az H' H2/\∃rs:List (Addr×List Int),zs=(rs.map λu=>V.ref u.1)/\Tus H2 rs/\rs.map (·.2)=(us.take k).map λu=>u.2++[v]) ⟨az.refl _,[],rfl,(λu hu=>by cases hu),rfl⟩ (by rw[xt];exact cU (by omega)) (λk zs H2 _ h=>SqL.of (h.1 _ _ el)) ?_ ?_⟩
  ·rintro k x zs H2 hx hy ⟨s2,rs,rfl,tr,er⟩ R1 R0 r1 r0
   obtain ⟨u,eu,rfl⟩:=fi hx
   have mu:=xD eu
   refine eV ⟨_,rfl,_,rfl,(by show 1<=xG;decide),λt ht =>?_⟩
   have g3:=ae ht (.tup [V.int v])
   refine js.one (ys:=[V.int v]) (g3 _ _ (s2 _ _ (tus u mu))) af (by rw[xt];have:=l50 u mu;exact cU (by show _+1<=_;omega)) λq1 H3 s3 eq1 =>?_
   refine r1 _ _ ⟨(s2.trans g3).trans s3,rs++[(q1,u.2++[v])],by rw[xH];rfl,mJ ((tr.same g3).same s3) (by rw[xH];exact eq1),?_⟩
   rw[xH,er,uG eu];rfl
  ·rintro zs H2 hy ⟨s2,rs,rfl,tr,er⟩ r hr'
   rw[xt,gu] at er
   have lr:rs.length=us.length:=by
    have:=congrArg List.length er
    rwa [xt,xt] at this
   have g3:=ae hr' (.lst (rs.map λu=>V.ref u.1))
   refine ⟨l,r,_,_,rfl,rfl,SqL.of (g3 _ _ (s2 _ _ el)),SqL.of af,by rw[xt,xt];exact cU (by omega),λl3 hl3 =>?_⟩
   have g4:=g3.trans (ae hl3 (.lst ((us.map λu=>V.ref u.1)++(rs.map λu=>V.ref u.1))))
   have s4:=s2.trans g4
   refine ⟨⟨l3,us++rs,_,rfl,by rw[af,xH],λu hu =>?_,?_⟩,s1.trans s4⟩
   ·rcases xS.mp hu with z | z
    ·exact s4 _ _ (tus u z)
    ·exact g4 _ _ (tr u z)
   ·rw[xH,er,em,ye,ev]
    show _=sbs (ns.take i++[v])
    rw[dF, <- em,yt];rfl
 ·rintro σ H' ⟨⟨l,us,c2,rfl,el,tus,em⟩,s1⟩
  rw[xt,gu] at em
  refine ⟨_,rfl,l,us,rfl,.inl (SqL.of el),λt ht=>SqT.of (tus t ht),λl2 out hl2 pm so =>?_⟩
  exact q l2 out _ (s1.trans (ae hl2 _)) (s1.free hl2) af (λt ht=>(ae hl2 _) _ _ (tus t (pm.mem_iff.mp ht))) (em ▸ pm.map (·.2)) (yG.mpr so)
end
abbrev jF:Sp:=λvs H Q _=>∃(a:Addr) (xs:List Int) (k:Int),vs=[.ref a,.int k]/\H a=some (.tup (xs.map V.int))/\xs.length<=100/\∀(l:Addr) (H':Hp),az H H'->H' l=some (.tup ((xs.filter λx=>decide (x≠k)).map V.int))->Q (.ref l) H'
@[irreducible] def cN:Sp:=jF
theorem bN {vs:List V}{H:Hp}{Q:VK}{E:XK}:cN vs H Q E↔jF vs H Q E:=by
 delta cN
 exact Ai
section
variable  {P:xX}{w:yv}{K:xx}{mg:Str->Option xw}{base:Heap}{f T:Addr}{fd:yM}
theorem jG:aH ["places", "place"] ["places", "place"] (aq dw):=⟨rfl,rfl,rfl,by decide +kernel,rfl,by decide +kernel,by decide +kernel⟩
theorem cV:(["other", "place"]:List Str).Nodup:=by decide +kernel
theorem jH (F:Fun K "without_place" "without_place" dw f fd)(B:Blt mg)(C:Cst mg):bF P w K mg base CX0 1 f fd ["places", "place"] cN:=by
 refine F.ok jG (λvs H Q E h =>?_) (λcdv A outer s H vs Q E hr h =>?_)
 ·obtain ⟨_,_,_,rfl,_⟩:=bN.mp h
  rfl
 obtain ⟨a,xs,k,rfl,ha,hx,q⟩:=bN.mp h
 refine ⟨_,(@ao _ _ _ (@aX _ _ _ _ (aG bh rfl B.b_tuple bz (@aa _ _ _ _ _ (bP ["other", "place"] [none,some 1] rfl (@dt _ _ _ _ (pv 0)) rfl (λ_ _ _ _ _=>(aB (i:=0) cV rfl (Or.inl rfl))) (λ_ _ _ _ _=>(jg (aM qw (pv 0) (pv 1) (aU _)))) (λ_ _ _ _ _=>(pv 0))) ag rfl)))),?_⟩
 refine ⟨_,rfl,a,rfl,⟨_,SqT.of ha⟩,cw (xs:=xs.map V.int) (λi zs H'=>H'=H/\zs=((xs.take i).filter λx=>decide (x≠k)).map V.int) ⟨rfl,rfl⟩ (by rw[xt];exact small (by omega)) (λi zs H' _ k=>by rw[k.1];exact SqT.of ha) ?_ ?_⟩
 ·rintro i v zs H' hv hy ⟨rfl,rfl⟩ R1 R0 r1 r0
  obtain ⟨j,ek,rfl⟩:=eD hv
  refine ⟨_,rfl,_,rfl,rfl,_,rfl,?_⟩
  have e:(!decide (V.int j=V.int k))=decide (j≠k):=by
   by_cases c:j=k
   ·subst c;simp
   ·simp[c]
  rw[e]
  refine cQ (λz=>⟨_,rfl,r1 _ _ ⟨rfl,?_⟩⟩) (λz=>r0 _ ⟨rfl,?_⟩)
  ·rw[oF ek,if_pos z]
  ·rw[oF ek,if_neg z,yC]
 ·rintro zs H' hy ⟨rfl,rfl⟩ l hl
  rw[xt,gu]
  refine ⟨l,_,rfl,.inl ⟨SqL.of af,λt ht =>?_⟩⟩
  exact q t _ ((ae hl _).trans (ae ht _)) af
end
open PySem L2
def wsum (f:List Int->Bool):List (List Int×Int)->Int
 | []=>0
 | e :: t=>(if f e.1=true then e.2 else 0)+wsum f t
theorem jJ (f:List Int->Bool):∀a b:List (List Int×Int),wsum f (a++b)=wsum f a+wsum f b
 | [],b=>by show wsum f b=0+wsum f b;omega
 | e :: t,b=>by
  show _+wsum f (t++b)=(_+wsum f t)+_
  rw[jJ f t b];omega
theorem ia {f:List Int->Bool}:∀{Z:List (List Int×Int)},(∀e∈Z,f e.1=false)->wsum f Z=0
 | [],_=>rfl
 | e :: t,h=>by
  show (if f e.1=true then e.2 else 0)+wsum f t=0
  rw[h e xT,if_neg xN,ia λx hx=>h x (xO _ hx)];rfl
theorem jK {f g:List Int->Bool}:∀{Z:List (List Int×Int)},(∀e∈Z,f e.1=g e.1)->wsum f Z=wsum g Z
 | [],_=>rfl
 | e :: t,h=>by
  show (if f e.1=true then e.2 else 0)+wsum f t=(if g e.1=true then e.2 else 0)+wsum g t
  rw[h e xT,jK λx hx=>h x (xO _ hx)]
def rwt (Z:List (List Int×Int))(p q:Int):Int:=wsum (λt=>decide (t=[p,q])) Z
theorem gO (f g:Int->Int):∀L:List Int,(L.map λo=>f o+g o).sum=(L.map f).sum+(L.map g).sum
 | []=>rfl
 | a :: t=>by
  rw[xR,xR,xR,zv,zv,zv,gO f g t];omega
theorem lR {b w:Int}{P:Int->Prop}[DecidablePred P](hP:∀o,P o↔o=b):∀{L:List Int},L.Nodup->(L.map λo=>if P o then w else 0).sum=if b∈L then w else 0
 | [],_=>rfl
 | a :: t,nd=>by
  obtain ⟨na,nt⟩:=zD.mp nd
  rw[xR,zv,lR hP nt]
  by_cases c:a=b
  ·subst c
   rw[if_pos ((hP a).mpr rfl),if_neg na,if_pos xT];omega
  ·rw[if_neg (λz=>c ((hP a).mp z))]
   by_cases d:b∈t
   ·rw[if_pos d,if_pos (xO _ d)];omega
   ·rw[if_neg d,if_neg (λz=>(yj.mp z).elim (λy=>c y.symm) d)];rfl
theorem dG:∀L:List Int,(L.map λ_=>(0:Int)).sum=0
 | []=>rfl
 | a :: t=>by rw[xR,zv,dG t];rfl
theorem oG {L:List Int}(nd:L.Nodup){p:Int}:∀{Z:List (List Int×Int)},(∀e∈Z,∃a b:Int,e.1=[a,b])->(L.map (rwt Z p)).sum=wsum (λt=>decide (t.getD 0 0=p) && decide (t.getD 1 0∈L)) Z
 | [],_=>dG L
 | e :: t,h=>by
  obtain ⟨a,b,ee⟩:=h e xT
  have ih:=oG nd (p:=p) (Z:=t) λx hx=>h x (xO _ hx)
  show (L.map λo=>(if decide (e.1=[p,o])=true then e.2 else 0)+rwt t p o).sum=(if _=true then e.2 else 0)+_
  rw[gO,ih,ee]
  congr 1
  show _=if (decide (a=p) && decide (b∈L))=true then e.2 else 0
  by_cases c:a=p
  ·subst c
   rw[lR (b:=b) (λo =>?_) nd,decide_eq_true rfl,Bool.true_and]
   ·by_cases d:b∈L
    ·rw[if_pos d,if_pos (decide_eq_true d)]
    ·rw[if_neg d,if_neg (λz=>d (of_decide_eq_true z))]
   ·rw[decide_eq_true_iff]
    constructor
    ·intro h;cases h;rfl
    ·rintro rfl;rfl
  ·rw[decide_eq_false c,El,if_neg xN]
   rw[show (λo=>if decide ([a,b]=[p,o])=true then e.2 else 0)=λ_=>(0:Int) from funext λo=>if_neg (λz=>c (by have:=of_decide_eq_true z;cases this;rfl))]
   exact dG L
theorem mK {m:Nat}:∀{Z:List (List Int×Int)},(∀e∈Z,∃a b:Int,e.1=[a,b]/\0<=a/\a<m/\0<=b/\b<m)->((rgI m).map λp=>rwt Z p p).sum=wsum (λt=>decide (t.getD 0 0=t.getD 1 0)) Z
 | [],_=>dG _
 | e :: t,h=>by
  obtain ⟨a,b,ee,a0,a1,_⟩:=h e xT
  have ih:=mK (m:=m) (Z:=t) λx hx=>h x (xO _ hx)
  show ((rgI m).map λo=>(if decide (e.1=[o,o])=true then e.2 else 0)+rwt t o o).sum=(if _=true then e.2 else 0)+_
  rw[gO,ih,ee]
  congr 1
  show _=if decide (a=b)=true then e.2 else 0
  by_cases c:a=b
  ·subst c
   rw[lR (b:=a) (λo =>?_) (kQ m),if_pos (cH.mpr ⟨a0,a1⟩),if_pos (decide_eq_true rfl)]
   rw[decide_eq_true_iff]
   constructor
   ·intro h;cases h;rfl
   ·rintro rfl;rfl
  ·rw[decide_eq_false c,if_neg xN]
   rw[show (λo=>if decide ([a,b]=[o,o])=true then e.2 else 0)=λ_=>(0:Int) from funext λo=>if_neg (λz=>c (by have:=of_decide_eq_true z;cases this;rfl))]
   exact dG _
structure Rows (H2 H':Hp)(as:List Addr)(vs:List (List Int)):Prop where
 len:vs.length=as.length
 row:∀(j:Nat) a v,as[j]? = some a->vs[j]? = some v->H' a=some (.lst (v.map V.int))
 stay:∀b u,b∉as->H2 b=some u->H' b=some u
theorem Rows.cell {H2 H':Hp}{as:List Addr}{vs:List (List Int)}(R:Rows H2 H' as vs)(nd:as.Nodup){j k:Nat}{a:Addr}{v:List Int}(ea:as[j]? = some a)(ev:vs[j]? = some v)(x:Int) :
  Rows H2 (upd H' a (.lst ((v.map V.int).set k (V.int x)))) as (vs.set j (v.set k x)):=by
 have hj:j<vs.length:=(xB.mp ev).1
 refine ⟨by rw[B0];exact R.len,λi b u eb eu =>?_,λb u hb e =>?_⟩
 ·by_cases h:i=j
  ·subst h
   rw[ea] at eb;cases eb
   rw[zq hj] at eu;cases eu
   rw[af,List.map_set]
  ·rw[zY (zj h)] at eu
   have ne:b≠a:=λz=>by
    subst z
    have hi:i<as.length:=(xB.mp eb).1
    exact h ((BB hi nd).mp (eb.trans ea.symm))
   rw[ak ne]
   exact R.row i b u eb eu
 ·have ne:b≠a:=λz=>hb (z ▸ xD ea)
  rw[ak ne]
  exact R.stay b u hb e
theorem mL:∀n:Nat,(yJ n [V.int 0]).flatten=(yJ n (0:Int)).map V.int
 | 0=>rfl
 | n+1=>by rw[zM,zN,mL n,zM];rfl
theorem bE {m j:Nat}(h:j<m):(rgI m)[j]? = some (j:Int):=by
 unfold rgI
 rw[xI,List.getElem?_range h];rfl
theorem mM (Z:List (List Int×Int))(a b w p q:Int):rwt (Z++[([a,b],w)]) p q=rwt Z p q+if a=p/\b=q then w else 0:=by
 unfold rwt
 rw[jJ]
 congr 1
 show (if decide ([a,b]=[p,q])=true then w else 0)+0=_
 by_cases c:a=p/\b=q
 ·obtain ⟨rfl,rfl⟩:=c
  rw[if_pos (decide_eq_true rfl),if_pos ⟨rfl,rfl⟩];omega
 ·rw[if_neg (λz=>c (by have:=of_decide_eq_true z;cases this;exact ⟨rfl,rfl⟩)),if_neg c];rfl
theorem rW {m a b:Nat}(ha:a<m)(hb:b<m){Z:List (List Int×Int)}(n:∀e∈Z,e.1≠[(a:Int),(b:Int)])(w:Int) :
  ((rgI m).map λp=>(rgI m).map (rwt Z p)).set a (((rgI m).map (rwt Z (a:Int))).set b w)=(rgI m).map λp=>(rgI m).map (rwt (Z++[([(a:Int),(b:Int)],w)]) p):=by
 have z:rwt Z a b=0:=ia λe he=>decide_eq_false (n e he)
 apply Cu
 intro j
 by_cases hj:j<m
 ·rw[xI,bE hj]
  by_cases c:a=j
  ·subst c
   rw[zq (by rw[xt,aS];exact ha)]
   show some _=some _
   congr 1
   apply Cu
   intro k
   by_cases hk:k<m
   ·rw[xI,bE hk]
    show _=some (rwt (Z++_) (a:Int) (k:Int))
    rw[mM]
    by_cases d:b=k
    ·subst d
     rw[zq (by rw[xt,aS];exact hb),if_pos ⟨rfl,rfl⟩,z]
     congr 1;omega
    ·rw[zY d,xI,bE hk,if_neg (λy=>d (by omega))]
     show some (rwt Z a k)=_
     congr 1;omega
   ·rw[AY (by rw[B0,xt,aS];omega),AY (by rw[xt,aS];omega)]
  ·rw[zY c,xI,bE hj]
   show some _=some _
   congr 1
   refine Ah λq _ =>?_
   rw[mM,if_neg (λy=>c (by omega))];omega
 ·rw[AY (by rw[B0,xt,aS];omega),AY (by rw[xt,aS];omega)]
def sqO (b:Bool)(xs:List V):HO:=if b=true then .lst xs else .tup xs
theorem rX {K:xx}{b:Bool}{H:Hp}{a:Addr}{xs:List V}(h:H a=some (sqO b xs)):SqB K b H a xs:=by
 unfold sqO at h
 cases b with
 | true=>exact SqL.of h
 | false=>exact SqT.of h
abbrev uL:Sp:=λvs H Q _=>∃(r l:Addr) (bw:Bool) (m:Nat) (ts:List (Addr×List Int)) (ws:List Int),vs=[.ref r,.ref l]/\Ow H r (m:Int) ts/\m<=7/\ts.length<=200/\(ts.map (·.2)).Nodup/\H l=some (sqO bw (ws.map V.int))/\ws.length=ts.length/\∀(l':Addr) (as:List Addr) (H':Hp),az H H'->H' l'=some (.lst (as.map V.ref))->as.length=m->(∀(j:Nat) a,as[j]? = some a->H' a=some (.lst (((rgI m).map (rwt ((ts.map (·.2)).zip ws) (j:Int))).map V.int)))->Q (.ref l') H'
@[irreducible] def rY:Sp:=uL
theorem gP {vs:List V}{H:Hp}{Q:VK}{E:XK}:rY vs H Q E↔uL vs H Q E:=by
 delta rY
 exact Ai
section
variable  {P:xX}{w:yv}{K:xx}{mg:Str->Option xw}{base:Heap}{f T:Addr}{fd:yM}
theorem dj:aH ["web", "worths", "rows", "arrow", "worth"] ["web", "worths"] (aq gc):=⟨rfl,rfl,rfl,by decide +kernel,rfl,by decide +kernel,by decide +kernel⟩
theorem eI:(["place", "web"]:List Str).Nodup:=by decide +kernel
theorem mO (F:Fun K "worth_rows" "worth_rows" gc f fd)(B:Blt mg)(C:Cst mg):bF P w K mg base CX0 1 f fd ["web", "worths"] rY:=by
 refine F.ok dj (λvs H Q E h =>?_) (λcdv A outer s H vs Q E hr h =>?_)
 ·obtain ⟨_,_,_,_,_,_,rfl,_⟩:=gP.mp h
  rfl
 obtain ⟨r,l,bw,m,ts,ws,rfl,W,m5,tl,nd,el,lw,q⟩:=gP.mp h
 refine ⟨_,(@ah _ _ _ _ _ (ji (i:=2) ["place", "web"] [none,some 0] rfl dj.nd rfl rfl (bV rfl B.b_range (@aa _ _ _ _ _ (@aE _ _ _ _ _ _ _ aK (pv 0) ai (λ_ _=>rfl)) ag rfl)) rfl (λ_ _ _ _ _=>(aB (i:=0) eI rfl (Or.inl rfl))) (λ_ _ _ _ _=>dQ) (λ_ _ _ _ _=>(@aF _ _ _ _ _ _ _ _ vv (@bJ _ _ _ _ (@aa _ _ _ _ _ ai ag rfl)) (@aE _ _ _ _ _ _ _ (dS (K:=K)) (pv 1) ai (λ_ _=>rfl)))))
  (@ah _ _ _ _ _ (@bR _ _ _ _ _ _ _ _ yL rfl (iK false bw rfl B.b_zip (@aa _ _ _ _ _ (@aE _ _ _ _ _ _ _ aK (pv 0) ai (λ_ _=>rfl)) (@aa _ _ _ _ _ (pv 1) ag rfl) rfl)) (i0 rfl (bM (aB (i:=3) dj.nd rfl (Or.inl rfl)) (bM (aB (i:=4) dj.nd rfl (Or.inl rfl)) gh)))
   (@ao _ _ _ (@i5 _ _ _ _ _ _ (pv 4) (i4 (@aE _ _ _ _ _ _ _ cB (pv 2) (@aE _ _ _ _ _ _ _ aK (pv 3) ai (λ_ _=>rfl)) (λ_ _=>rfl)) (@aE _ _ _ _ _ _ _ aK (pv 3) ai (λ_ _=>rfl)) set_list) rfl rfl rfl)) (λ_=>rfl))
  (@ao _ _ _ (@aX _ _ _ _ (pv 2))))),?_⟩
 obtain ⟨t,e1,e2⟩:=W.at'
 refine ⟨_,rfl,r,_,0,_,rfl,rfl,SqT.of e1,rfl,(m:Int),rfl,by omega,by omega,?_⟩
 rw[yD]
 refine iw (λi ys H'=>az H H'/\∃as:List Addr,ys=as.map V.ref/\as.length=i/\as.Nodup/\∀a∈as,H a=none/\H' a=some (.lst ((yJ m (0:Int)).map V.int))) ⟨az.refl _,[],rfl,rfl,BE,λa ha=>(by cases ha)⟩ (small (by omega)) ?_ ?_
 ·rintro i ys H1 hi hy ⟨s1,as,rfl,la,na,ha⟩ R1 R0 r1 r0
  refine eV ⟨(by show 1<=xG;decide),λl0 hl0 =>?_⟩
  have g2:=ae hl0 (.lst [.int 0])
  have e0:upd H1 l0 (.lst [.int 0]) l0=some (.lst [.int 0]):=af
  generalize upd H1 l0 (.lst [.int 0])=H2 at g2 e0
  have s12:=s1.trans g2
  refine ⟨_,rfl,r,_,0,_,rfl,rfl,SqT.of (s12 _ _ e1),rfl,l0,(m:Int),_,rfl,rfl,e0,by omega,by omega,(by rw[yD];exact small (by show 1*m<=1000;omega)),λp hp =>?_⟩
  rw[yD,mL]
  have g3:=ae hp (.lst ((yJ m (0:Int)).map V.int))
  refine r1 _ _ ⟨s12.trans g3,as++[p],by rw[xH];rfl,by rw[xM,la];rfl,?_,λa ha' =>?_⟩
  ·refine Cy.mpr ⟨na,zD.mpr ⟨List.not_mem_nil,BE⟩,λx hx y hy e =>?_⟩
   have hy:=yd.mp hy
   rw[e,hy] at hx
   have:=g2 _ _ (ha p hx).2
   rw[hp] at this;cases this
  ·rcases xS.mp ha' with y | y
   ·exact ⟨(ha a y).1,g3 _ _ (g2 _ _ (ha a y).2)⟩
   ·rw[yd.mp y]
    exact ⟨s12.free hp,af⟩
 rintro ys H1 hy ⟨s1,as,rfl,la,na,ha⟩ lr hlr
 have g2:=ae hlr (.lst (as.map V.ref))
 have er:upd H1 lr (.lst (as.map V.ref)) lr=some (.lst (as.map V.ref)):=af
 have nlr:lr∉as:=λh=>by
  have:=(ha lr h).2
  rw[hlr] at this;cases this
 have ha2:∀a∈as,H a=none/\upd H1 lr (.lst (as.map V.ref)) a=some (.lst ((yJ m (0:Int)).map V.int)):=λa h=>⟨(ha a h).1,g2 _ _ (ha a h).2⟩
 generalize upd H1 lr (.lst (as.map V.ref))=H2 at g2 er ha2
 have s2:=s1.trans g2
 have e12:=s2 _ _ e1
 have e22:=s2 _ _ e2
 have el2:=s2 _ _ el
 have lz:(ts.map λu=>V.ref u.1).length=ts.length:=xt _
 have lzw:(ws.map V.int).length=ts.length:=by rw[xt,lw]
 have nas:∀{c:Addr} {o:HO},H c=some o->c∉as:=λe h=>by rw[(ha2 _ h).1] at e;cases e
 have R0:Rows H2 H2 as ((rgI m).map λp=>(rgI m).map (rwt (((ts.map (·.2)).zip ws).take 0) p)):=by
  refine ⟨by rw[xt,aS,la],λj a v eja ejv =>?_,λb u _ e=>e⟩
  have hj:j<m:=by have:=(xB.mp eja).1;omega
  rw[xI,bE hj] at ejv
  rw[<- ym ejv,(ha2 a (xD eja)).2]
  congr 3
  apply BL
  ·rw[CY,xt,aS]
  ·intro k h1 h2
   rw[List.getElem_replicate,List.getElem_map];rfl
 refine ⟨_,rfl,r,_,1,_,rfl,rfl,SqT.of e12,rfl,_,rfl,t,l,rfl,⟨_,SqT.of e22⟩,⟨_,rX el2⟩,mF (c:=false) (d:=bw) (xs:=ts.map λu =>.ref u.1) (ys:=ws.map V.int) ts.length (by rw[lz];exact xC _) (by rw[lzw];exact xC _) (.inl lz.symm) (λi σ H'=>(∃c3 c4,σ=[some (.ref r),some (.ref l),some (.ref lr),c3,c4])/\Rows H2 H' as ((rgI m).map λp=>(rgI m).map (rwt (((ts.map (·.2)).zip ws).take i) p))) ⟨⟨_,_,rfl⟩,R0⟩ (λi σ H' _ k=>⟨SqT.of (k.2.stay _ _ (nas e2) e22),rX (k.2.stay _ _ (nas el) el2)⟩) ?_ ?_⟩
 ·rintro i x y σ H3 T hx hy' hT ⟨⟨c3,c4,rfl⟩,R⟩
  obtain ⟨u,hu,rfl⟩:=fi hx
  obtain ⟨w',ew,rfl⟩:=eD hy'
  have mu:=xD hu
  have hi:=(xB.mp hu).1
  obtain ⟨x',y',e3,x0,x1,y0,y1⟩:=W.rng u mu
  obtain ⟨xa,rfl⟩:∃k:Nat,x'=k:=⟨x'.toNat,by omega⟩
  obtain ⟨yb,rfl⟩:∃k:Nat,y'=k:=⟨y'.toNat,by omega⟩
  have hxa:xa<m:=by omega
  have hyb:yb<m:=by omega
  have gT:=ae hT (.tup [.ref u.1,.int w'])
  have eT:upd H3 T (.tup [.ref u.1,.int w']) T=some (.tup [.ref u.1,.int w']):=af
  have hu3:=R.stay _ _ (nas (W.tup u mu)) (s2 _ _ (W.tup u mu))
  rw[e3] at hu3
  have hu4:=gT _ _ hu3
  have er4:=gT _ _ (R.stay _ _ nlr er)
  have nT:T∉as:=λh=>by
   obtain ⟨j,ej⟩:=yF.mp h
   have hj:=(xB.mp ej).1
   have:=R.row j T _ ej (by rw[xI,bE (by omega)];rfl)
   rw[hT] at this;cases this
  have R4:Rows H2 (upd H3 T (.tup [.ref u.1,.int w'])) as ((rgI m).map λp=>(rgI m).map (rwt (((ts.map (·.2)).zip ws).take i) p)):=⟨R.len,λj a v h1 h2=>gT _ _ (R.row j a v h1 h2),λb o nb e=>gT _ _ (R.stay b o nb e)⟩
  generalize upd H3 T (.tup [.ref u.1,.int w'])=H4 at gT eT hu4 er4 R4
  refine ⟨T,_,rfl,SqT.of eT,rfl,_,_,rfl,_,_,rfl,rfl,?_⟩
  obtain ⟨a,ea⟩:∃a,as[xa]? = some a:=⟨_,xP (by omega)⟩
  have ev:((rgI m).map λp=>(rgI m).map (rwt (((ts.map (·.2)).zip ws).take i) p))[xa]? = some ((rgI m).map (rwt (((ts.map (·.2)).zip ws).take i) (xa:Int))):=by rw[xI,bE hxa];rfl
  have hrow:=R4.row xa a _ ea ev
  have lrow:(((rgI m).map (rwt (((ts.map (·.2)).zip ws).take i) (xa:Int))).map V.int).length=m:=by rw[xt,xt,aS]
  have tk:((ts.map (·.2)).zip ws).take (i+1)=((ts.map (·.2)).zip ws).take i++[([(xa:Int),(yb:Int)],w')]:=by
   rw[ye,show ((ts.map (·.2)).zip ws)[i]? = some ([(xa:Int),(yb:Int)],w') from ?_]
   ·rfl
   ·rw[zh]
    exact ⟨by rw[xI,hu, <- e3];rfl,ew⟩
  have nw:∀e∈((ts.map (·.2)).zip ws).take i,e.1≠[(xa:Int),(yb:Int)]:=λe he z=>by
   obtain ⟨j,ej⟩:=yF.mp he
   have lj:=(xB.mp ej).1
   rw[yw] at lj
   rw[zx (by omega)] at ej
   have e5:=(zh.mp ej).1
   have e6:(ts.map (·.2))[i]? = some [(xa:Int),(yb:Int)]:=by rw[xI,hu, <- e3];rfl
   rw[z] at e5
   have:=(BB (show j<(ts.map (·.2)).length by rw[xt];omega) nd).mp (e5.trans e6.symm)
   omega
  refine ⟨_,rfl,_,rfl,_,rfl,u.1,_,0,_,rfl,rfl,SqT.of hu4,rfl,lr,_,(xa:Int),_,rfl,rfl,SqL.of er4,cX (by rw[xI,ea];rfl),_,rfl,u.1,_,1,_,rfl,rfl,SqT.of hu4,rfl,a,_,(yb:Int),yb,rfl,rfl,hrow,?_,⟨_,_,rfl⟩,?_⟩
  ·rw[lrow]
   unfold ixN
   simp
   omega
  ·rw[tk, <- rW hxa hyb nw w']
   exact R4.cell na ea ev w'
 ·rintro σ H3 ⟨⟨c3,c4,rfl⟩,R⟩
  rw[xW (by rw[AA,xt];omega)] at R
  refine ⟨_,rfl,q lr as H3 (λc o e=>R.stay _ _ (nas e) (s2 _ _ e)) (R.stay _ _ nlr er) la λj a ej =>?_⟩
  have hj:=(xB.mp ej).1
  exact R.row j a _ ej (by rw[xI,bE (by omega)];rfl)
end
open PySem L2
def kvE (es:List (List Int×Int)):List (List Key×V):=es.map λe=>(e.1.map Sum.inl,V.int e.2)
theorem oH {a b:List Int}(h:(a.map Sum.inl:List Key)=b.map Sum.inl):a=b:=(DB (λx y e=>by injection e)).mp h
theorem bQ (S:List Int):∀es:List (List Int×Int),fc (kvE es) (S.map Sum.inl)=(es.lookup S).map V.int
 | []=>rfl
 | e :: t=>by
  have ih:=bQ S t
  show fc ((e.1.map Sum.inl,V.int e.2) :: kvE t) (S.map Sum.inl)=_
  rw[yx]
  by_cases c:e.1=S
  ·rw[fe (by show e.1.map Sum.inl=_;rw[c]),show (S == e.1)=true from by rw[c];exact beq_self_eq_true _];rfl
  ·rw[fg (λz=>c (oH z)),ih,show (S == e.1)=false from beq_eq_false_iff_ne.mpr (λz=>c z.symm)]
theorem lU {es:List (List Int×Int)}{S:List Int}(h:es.lookup S=none)(v:Int):putK (kvE es) (S.map Sum.inl) (V.int v)=kvE (es++[(S,v)]):=by
 rw[mB _ (by rw[bQ,h];rfl)]
 unfold kvE
 rw[xH];rfl
theorem cI {f:List Int->Int}{S:List Int}:∀{L:List (List Int)},S∈L->(L.map λS=>(S,f S)).lookup S=some (f S)
 | [],h=>by cases h
 | a :: t,h=>by
  rw[xR,yx]
  by_cases c:S=a
  ·rw[c,show (a == a)=true from beq_self_eq_true _]
  ·rw[show (S == a)=false from beq_eq_false_iff_ne.mpr c]
   exact cI ((yj.mp h).resolve_left c)
theorem iO {f:List Int->Int}{S:List Int}:∀{L:List (List Int)},S∉L->(L.map λS=>(S,f S)).lookup S=none
 | [],_=>rfl
 | a :: t,h=>by
  rw[xR,yx,show (S == a)=false from beq_eq_false_iff_ne.mpr (λz=>h (z ▸ xT))]
  exact iO λz=>h (xO _ z)
def mnL:List Int->Int
 | []=>0
 | [a]=>a
 | a :: b :: t=>if mnL (b :: t)<a then mnL (b :: t) else a
theorem jL:∀{xs:List Int},xs≠[]->mnL xs∈xs/\∀b∈xs,mnL xs<=b
 | [],h=>absurd rfl h
 | [a],_=>⟨xT,λb hb=>by rw[yd.mp hb];exact Int.le_refl _⟩
 | a :: b :: t,_=>by
  obtain ⟨h1,h2⟩:=jL (xs:=b :: t) (by simp)
  show (if mnL (b :: t)<a then mnL (b :: t) else a)∈a :: b :: t/\∀c∈a :: b :: t,(if mnL (b :: t)<a then mnL (b :: t) else a)<=c
  by_cases c:mnL (b :: t)<a
  ·rw[if_pos c]
   refine ⟨xO _ h1,λx hx =>?_⟩
   rcases yj.mp hx with y | y
   ·omega
   ·exact h2 x y
  ·rw[if_neg c]
   refine ⟨xT,λx hx =>?_⟩
   rcases yj.mp hx with y | y
   ·omega
   ·have:=h2 x y;omega
theorem iP {xs:List Int}{M:Int}(h:M∈xs)(h':∀b∈xs,M<=b):M=mnL xs:=by
 obtain ⟨h1,h2⟩:=jL (xs:=xs) (λe=>by rw[e] at h;cases h)
 have:=h' _ h1
 have:=h2 _ h
 omega
def led (Z:List (List Int×Int))(p:Int)(S:List Int):Int:=wsum (λt=>decide (t.getD 0 0=p) && (decide (t.getD 1 0∈S) && decide (t.getD 1 0≠p))) Z
def lp (Z:List (List Int×Int)):Int:=wsum (λt=>decide (t.getD 0 0=t.getD 1 0)) Z
def wo (S:List Int)(p:Int):List Int:=S.filter λx=>decide (x≠p)
def lwF (Z:List (List Int×Int)):Nat->List Int->Int
 | 0,_=>lp Z
 | n+1,S=>if S=[] then lp Z else mnL (S.map λp=>lwF Z n (wo S p)+led Z p S)
def LW (Z:List (List Int×Int))(S:List Int):Int:=lwF Z S.length S
theorem fm {S:List Int}(nd:S.Nodup){p:Int}(h:p∈S):(wo S p).length+1=S.length:=by
 have e:wo S p=S.erase p:=by
  unfold wo
  rw[nd.erase_eq_filter]
  exact BC λx _=>by by_cases c:x=p <;> simp[c]
 have:=List.length_pos_of_mem h
 rw[e,List.length_erase_of_mem h];omega
theorem v5 (Z:List (List Int×Int)):LW Z []=lp Z:=rfl
theorem iQ (Z:List (List Int×Int)){S:List Int}(nd:S.Nodup)(ne:S≠[]):LW Z S=mnL (S.map λp=>LW Z (wo S p)+led Z p S):=by
 obtain ⟨n,hn⟩:∃n,S.length=n+1:=⟨S.length-1,by have:=AI.mpr ne;omega⟩
 unfold LW
 rw[hn]
 show (if S=[] then lp Z else _)=_
 rw[if_neg ne]
 congr 1
 refine Ah λp hp =>?_
 have:=fm nd hp
 rw[show (wo S p).length=n by omega]
theorem jM {Z:List (List Int×Int)}(pr:∀e∈Z,∃a b:Int,e.1=[a,b]){S:List Int}(nd:S.Nodup)(p:Int):((wo S p).map (rwt Z p)).sum=led Z p S:=by
 rw[oG (L:=wo S p) (nd.filter _) pr]
 unfold led
 refine jK λe _ =>?_
 congr 1
 rw[zC,decide_eq_true_iff,yO,decide_eq_true_iff,decide_eq_true_iff]
 unfold wo
 rw[yQ,decide_eq_true_iff]
structure Grd (H:Hp)(rl:Addr)(m:Nat)(Z:List (List Int×Int))(as:List Addr):Prop where
 at':H rl=some (.lst (as.map V.ref))
 len:as.length=m
 row:∀(j:Nat) a,as[j]? = some a->H a=some (.lst (((rgI m).map (rwt Z (j:Int))).map V.int))
theorem Grd.same {H H':Hp}{rl:Addr}{m:Nat}{Z:List (List Int×Int)}{as:List Addr}(g:Grd H rl m Z as)(s:az H H'):Grd H' rl m Z as:=⟨s _ _ g.at',g.len,λj a e=>s _ _ (g.row j a e)⟩
abbrev uM:Sp:=λvs H Q _=>∃(rl dd pl:Addr) (m:Nat) (as:List Addr) (Z es:List (List Int×Int)) (S:List Int) (p L:Int),vs=[.ref rl,.ref dd,.ref pl,.int p]/\Grd H rl m Z as/\H dd=some (.dT (kvE es))/\H pl=some (.tup (S.map V.int))/\S.length<=9/\(∀v∈S,0<=v/\v<m)/\0<=p/\p<m/\es.lookup (wo S p)=some L/\∀H',az H H'->Q (.int (L+((wo S p).map (rwt Z p)).sum)) H'
@[irreducible] def ue:Sp:=uM
theorem jN {vs:List V}{H:Hp}{Q:VK}{E:XK}:ue vs H Q E↔uM vs H Q E:=by
 delta ue
 exact Ai
section
variable  {P:xX}{w:yv}{K:xx}{mg:Str->Option xw}{base:Heap}{f T:Addr}{fd:yM}
theorem gQ:aH ["rows", "least", "places", "place", "rest"] ["rows", "least", "places", "place"] (aq da):=⟨rfl,rfl,rfl,by decide +kernel,rfl,by decide +kernel,by decide +kernel⟩
theorem cD:(["other", "rows", "place"]:List Str).Nodup:=by decide +kernel
theorem lV (F:Fun K "last_weight" "last_weight" da f fd)(B:Blt mg)(cWithoutPlace:Cal P w K mg base 1 "without_place" ["places", "place"] cN)(C:Cst mg):bF P w K mg base CX0 2 f fd ["rows", "least", "places", "place"] ue:=by
 refine F.ok gQ (λvs H Q E h =>?_) (λcdv A outer s H vs Q E hr h =>?_)
 ·obtain ⟨_,_,_,_,_,_,_,_,_,_,rfl,_⟩:=jN.mp h
  rfl
 obtain ⟨rl,dd,pl,m,as,Z,es,S,p,L,rfl,G,ed,ep,l9,rg,p0,p1,eL,q⟩:=jN.mp h
 have hu:(eE CX0 P w K mg base ["rows", "least", "places", "place", "rest"] "last_weight" (aq da) f cdv A outer s H E).nox.A.units+1<cLine:=iq hr
 refine ⟨_,(@ah _ _ _ _ _ (@au _ _ 4 _ _ _ _ gQ.nd rfl (Or.inl rfl) (aD cWithoutPlace hr (by decide) rfl (@aa _ _ _ _ _ (pv 2) (@aa _ _ _ _ _ (pv 3) ag rfl) rfl)) rfl (by first | exact .inl rfl | exact .inr rfl | assumption))
  (@ao _ _ _ (@aX _ _ _ _ (@aF _ _ _ _ _ _ _ _ cf (cg hu (pv 1) (pv 4) (λ_ _=>rfl)) (av (eZ hr.hd) rfl B.b_sum jD (@aa _ _ _ _ _ (bP ["other", "rows", "place"] [none,some 0,some 3] rfl (@dt _ _ _ _ (pv 4)) rfl (λ_ _ _ _ _=>(aB (i:=0) cD rfl (Or.inl rfl))) (λ_ _ _ _ _=>dQ) (λ_ _ _ _ _=>(@aE _ _ _ _ _ _ _ (dD (K:=K)) (@aE _ _ _ _ _ _ _ (dD (K:=K)) (pv 1) (pv 2) (λ_ _=>rfl)) (pv 0) (λ_ _=>rfl)))) ag rfl)))))),?_⟩
 refine ⟨_,rfl,_,rfl,bN.mpr ⟨pl,S,p,rfl,ep,by omega,λrs H1 s1 er =>?_⟩⟩
 have er:H1 rs=some (.tup ((wo S p).map V.int)):=er
 have er':H1 rs=some (.tup (((wo S p).map (Sum.inl:Int->Key)).map kV)):=by rw[yt];exact er
 have hw:∀v∈wo S p,0<=v/\v<m:=λv hv=>rg v (yQ.mp hv).1
 have lw9:(wo S p).length<=9:=yf (AZ _ _) l9
 have G1:=G.same s1
 obtain ⟨pn,rfl⟩:∃k:Nat,p=k:=⟨p.toNat,by omega⟩
 obtain ⟨a,ea⟩:∃a,as[pn]? = some a:=⟨_,xP (by rw[G.len];omega)⟩
 have hrow:=G1.row pn a ea
 refine ⟨_,rfl,_,rfl,dd,.int L,rfl,by have:=fR.t (s1 _ _ ed) er';rw[bQ,eL] at this;exact this,?_⟩
 refine ⟨_,rfl,rs,rfl,⟨_,SqT.of er⟩,cw (xs:=(wo S pn).map V.int) (λi ys H'=>H'=H1/\ys=(((wo S pn).take i).map (rwt Z (pn:Int))).map V.int) ⟨rfl,rfl⟩ (by rw[xt];exact small (by omega)) (λi ys H' _ k=>by rw[k.1];exact SqT.of er) ?_ ?_⟩
 ·rintro i x ys H2 hx hy ⟨eH,rfl⟩ R1 R0 r1 r0
  obtain ⟨v,ev,rfl⟩:=eD hx
  obtain ⟨v0,v1⟩:=hw v (xD ev)
  obtain ⟨vn,rfl⟩:∃k:Nat,v=k:=⟨v.toNat,by omega⟩
  rw[eH]
  refine eV ⟨_,rfl,_,rfl,rl,_,(pn:Int),_,rfl,rfl,SqL.of G1.at',cX (by rw[xI,ea];rfl),_,rfl,a,_,(vn:Int),_,rfl,rfl,SqL.of hrow,cX (by rw[xI,xI,bE (by omega)];rfl),r1 _ _ ⟨rfl,?_⟩⟩
  rw[ye,ev,xH,xH];rfl
 ·rintro ys H2 hy ⟨eH,rfl⟩ l hl
  rw[eH] at hl ⊢
  rw[xt,xW (xC _)]
  exact ⟨l,_,rfl,af,_,_,rfl,rfl,q _ (s1.trans (ae hl _))⟩
end
open PySem L2
theorem ib (m:Nat):SS (rgI m):=mH m
theorem bH {α:Type}{l:List α}{i:Nat}{x:α}(e:l[i]? = some x):i<l.length:=(xB.mp e).1
structure Sz (m:Nat)(Ls:List (List Int)):Prop where
 pm:Ls.Perm (sbs (rgI m))
 so:Ls.Pairwise λx y=>x.length<=y.length
theorem Sz.mem {m:Nat}{Ls:List (List Int)}(z:Sz m Ls){S:List Int}:S∈Ls↔SS S/\∀v∈S,0<=v/\v<m:=by
 rw[z.pm.mem_iff,lP (ib m)]
 exact and_congr_right λ_=>⟨λh v hv=>cH.mp (h v hv),λh v hv=>cH.mpr (h v hv)⟩
theorem Sz.len {m:Nat}{Ls:List (List Int)}(z:Sz m Ls):Ls.length=2 ^ m:=by rw[z.pm.length_eq,gN,aS]
theorem Sz.v7 {m:Nat}{Ls:List (List Int)}(z:Sz m Ls){S:List Int}(h:S∈Ls):S.length<=m:=by
 have:=lQ _ _ (z.pm.mem_iff.mp h)
 rwa [aS] at this
theorem Sz.nd {m:Nat}{Ls:List (List Int)}(z:Sz m Ls):Ls.Nodup:=z.pm.nodup_iff.mpr (rV (ib m))
theorem Sz.new {m:Nat}{Ls:List (List Int)}(z:Sz m Ls){i:Nat}{S:List Int}(e:Ls[i]? = some S):S∉Ls.take i:=λh=>by
 obtain ⟨j,hj⟩:=z0 h
 have h1:=bH hj
 rw[yw] at h1
 rw[zx (by omega)] at hj
 have:=(BB (bH hj) z.nd).mp (hj.trans e.symm)
 omega
theorem Sz.early {m:Nat}{Ls:List (List Int)}(z:Sz m Ls){i:Nat}{S:List Int}(e:Ls[i]? = some S){p:Int}(hp:p∈S):wo S p∈Ls.take i:=by
 obtain ⟨s1,s2⟩:=z.mem.mp (xD e)
 have hm:wo S p∈Ls:=z.mem.mpr ⟨fL _ s1,λv hv=>s2 v (yQ.mp hv).1⟩
 have hl:=fm (cT s1) hp
 obtain ⟨j,hj⟩:=z0 hm
 have lj:=bH hj
 have li:=bH e
 by_cases c:j<i
 ·refine xD (i:=j) ?_
  rw[zx c];exact hj
 ·exfalso
  by_cases d:j=i
  ·subst d
   rw[hj] at e
   rw[ym e] at hl;omega
  ·have:=Aw.mp z.so i j li lj (by omega)
   rw[(xB.mp e).2,(xB.mp hj).2] at this
   omega
def Sb (H:Hp)(d:Addr)(H':Hp):Prop:=∀a o,H a=some o->a≠d->H' a=some o
theorem Sb.trans {H H1 H2:Hp}{d:Addr}(b:Sb H d H1)(s:az H1 H2):Sb H d H2:=λa o e n=>s _ _ (b a o e n)
theorem Sb.set {H H1:Hp}{d:Addr}(b:Sb H d H1)(o:HO):Sb H d (upd H1 d o):=λa o' e n=>by rw[ak n];exact b a o' e n
theorem Sb.grd {H H1:Hp}{d:Addr}(b:Sb H d H1){rl:Addr}{m:Nat}{Z:List (List Int×Int)}{as:List Addr}(g:Grd H rl m Z as)(n1:rl≠d)(n2:∀a∈as,a≠d):Grd H1 rl m Z as:=⟨b _ _ g.at' n1,g.len,λj a e=>b _ _ (g.row j a e) (n2 a (xD e))⟩
def bp (Z:List (List Int×Int))(Ls:List (List Int)):List (List Int×Int):=Ls.map λS=>(S,LW Z S)
theorem rZ {Z:List (List Int×Int)}{Ls:List (List Int)}{m i:Nat}{S:List Int}(z:Sz m Ls)(e:Ls[i]? = some S):putK (kvE (bp Z (Ls.take i))) (S.map Sum.inl) (V.int (LW Z S))=kvE (bp Z (Ls.take (i+1))):=by
 unfold bp
 rw[lU (iO (z.new e)),ye,e,xH];rfl
abbrev uN:Sp:=λvs H Q _=>∃(rl:Addr) (m:Nat) (as:List Addr) (Z:List (List Int×Int)),vs=[.int m,.ref rl]/\Grd H rl m Z as/\m<=7/\(∀e∈Z,∃a b:Int,e.1=[a,b]/\0<=a/\a<m/\0<=b/\b<m)/\∀(dd:Addr) (Ls:List (List Int)) (H':Hp),az H H'->Sz m Ls->H' dd=some (.dT (kvE (bp Z Ls)))->Q (.ref dd) H'
@[irreducible] def r6:Sp:=uN
theorem gR {vs:List V}{H:Hp}{Q:VK}{E:XK}:r6 vs H Q E↔uN vs H Q E:=by
 delta r6
 exact Ai
section
variable  {P:xX}{w:yv}{K:xx}{mg:Str->Option xw}{base:Heap}{f T:Addr}{fd:yM}
theorem d9:aH ["many", "rows", "least", "places"] ["many", "rows"] (aq de):=⟨rfl,rfl,rfl,by decide +kernel,rfl,by decide +kernel,by decide +kernel⟩
theorem dH:(["place", "rows"]:List Str).Nodup:=by decide +kernel
theorem bL:(["place", "rows", "least", "places"]:List Str).Nodup:=by decide +kernel
theorem lW (F:Fun K "set_weights" "set_weights" de f fd)(B:Blt mg)(cAllSets:Cal P w K mg base 1 "all_sets" ["places"] fM)(cLastWeight:Cal P w K mg base 2 "last_weight" ["rows", "least", "places", "place"] ue)(C:Cst mg):bF P w K mg base CX0 3 f fd ["many", "rows"] r6:=by
 refine F.ok d9 (λvs H Q E h =>?_) (λcdv A outer s H vs Q E hr h =>?_)
 ·obtain ⟨_,_,_,_,rfl,_⟩:=gR.mp h
  rfl
 obtain ⟨rl,m,as,Z,rfl,G,m5,pr,q⟩:=gR.mp h
 have hu:(eE CX0 P w K mg base ["many", "rows", "least", "places"] "set_weights" (aq de) f cdv A outer s H E).nox.A.units+1<cLine:=iq hr
 refine ⟨_,(@ah _ _ _ _ _ (@au _ _ 2 _ _ _ _ d9.nd rfl (Or.inr rfl) gy rfl (by first | exact .inl rfl | exact .inr rfl | assumption))
  (@ah _ _ _ _ _ (@bR _ _ _ _ _ _ _ _ yL rfl (@fC _ _ _ _ (aD cAllSets hr (by decide) rfl (@aa _ _ _ _ _ (aG (cZ hr.hd) rfl B.b_tuple bz (@aa _ _ _ _ _ (aG cY rfl B.b_range gJ (@aa _ _ _ _ _ (pv 0) ag rfl)) ag rfl)) ag rfl))) (aB (i:=3) d9.nd rfl (Or.inr rfl))
   (@ao _ _ _ (@b8 _ _ _ _ _ _ _ _ (aM (tU hr) (pv 3) (@aY _ _ _ _ _ ag) (aU _)) (@ao _ _ _ (fJ hu (pv 2) (pv 3) (av (eZ hr.hd) rfl B.b_sum jD (@aa _ _ _ _ _ (bP ["place", "rows"] [none,some 1] rfl (bV rfl B.b_range (@aa _ _ _ _ _ (pv 0) ag rfl)) rfl (λ_ _ _ _ _=>(aB (i:=0) dH rfl (Or.inl rfl))) (λ_ _ _ _ _=>dQ) (λ_ _ _ _ _=>(@aE _ _ _ _ _ _ _ (dD (K:=K)) (@aE _ _ _ _ _ _ _ (dD (K:=K)) (pv 1) (pv 0) (λ_ _=>rfl)) (pv 0) (λ_ _=>rfl)))) ag rfl)) rfl)) (@ao _ _ _ (fJ hu (pv 2) (pv 3) (av (hJ rfl) rfl B.b_min jC (@aa _ _ _ _ _ (bP ["place", "rows", "least", "places"] [none,some 1,some 2,some 3] rfl (@dt _ _ _ _ (pv 3)) rfl (λ_ _ _ _ _=>(aB (i:=0) bL rfl (Or.inl rfl))) (λ_ _ _ _ _=>dQ) (λ_ _ _ _ _=>(aD cLastWeight hr (by decide) rfl (@aa _ _ _ _ _ (pv 1) (@aa _ _ _ _ _ (pv 2) (@aa _ _ _ _ _ (pv 3) (@aa _ _ _ _ _ (pv 0) ag rfl) rfl) rfl) rfl)))) ag rfl)) rfl)))) (λ_=>rfl))
  (@ao _ _ _ (@aX _ _ _ _ (pv 2))))),?_⟩
 refine λdd hdd =>?_
 have g0:=ae hdd (.dT [])
 have e0:upd H dd (.dT []) dd=some (.dT []):=af
 generalize upd H dd (.dT [])=H0 at g0 e0
 refine ⟨_,rfl,(m:Int),rfl,λrg hrg=>⟨rg,m,rfl,af,by omega,λtl htl =>?_⟩⟩
 have g1:=(ae hrg (.rng 0 m)).trans (ae htl (.tup ((yP m).map λi=>V.int (i:Nat))))
 have e1:upd (upd H0 rg (.rng 0 m)) tl (.tup ((yP m).map λi=>V.int (i:Nat))) tl=some (.tup ((rgI m).map V.int)):=by rw[af];unfold rgI;rw[yt];rfl
 generalize upd (upd H0 rg (.rng 0 m)) tl (.tup ((yP m).map λi=>V.int (i:Nat)))=H1 at g1 e1
 refine dz.mpr ⟨tl,rgI m,rfl,e1,by rw[aS];omega,λl us H2 s2 hl el tu pm so =>?_⟩
 have z:Sz m (us.map (·.2)):=⟨pm,so⟩
 have s01:=g1.trans s2
 have ed2:=s01 _ _ e0
 have gH2:=g0.trans s01
 have G2:=G.same gH2
 have nrl:rl≠dd:=aj G.at' hdd
 have nas:∀a∈as,a≠dd:=λa ha=>by
  obtain ⟨j,hj⟩:=z0 ha
  exact aj (G.row j a hj) hdd
 have nl:l≠dd:=λh=>by
  rw[h,g1 _ _ e0] at hl;cases hl
 have nus:∀u∈us,u.1≠dd:=λu hu h=>by
  have:=tu u hu
  rw[h,ed2] at this;cases this
 have lus:us.length<=128:=by
  have:=z.len
  rw[xt] at this
  have:2 ^ m<=2 ^ 7:=z9 (by decide) m5
  omega
 refine ⟨l,rfl,⟨_,SqL.of el⟩,i7 (xs:=us.map λu =>.ref u.1) (λi σ H'=>(∃c3,σ=[some (.int m),some (.ref rl),some (.ref dd),c3])/\Sb H2 dd H'/\H' dd=some (.dT (kvE (bp Z ((us.map (·.2)).take i))))) ⟨⟨_,rfl⟩,λa o e _=>e,ed2⟩ (λi σ H' _ k=>SqL.of (k.2.1 _ _ el nl)) ?_ ?_⟩
 ·rintro i x σ H' hx ⟨⟨c3,rfl⟩,sb,ed⟩
  obtain ⟨u,eu,rfl⟩:=fi hx
  have mu:=xD eu
  have eS:(us.map (·.2))[i]? = some u.2:=by rw[xI,eu];rfl
  have mS:=xD eS
  obtain ⟨sS,rS⟩:=z.mem.mp mS
  have tu1:=sb _ _ (tu u mu) (nus u mu)
  have tk:∀{H3:Hp},az H' H3->H3 u.1=some (.tup (((u.2.map (Sum.inl:Int->Key))).map kV)):=λs=>by
   rw[s _ _ tu1,yt];rfl
  have li:(kvE (bp Z ((us.map (·.2)).take i))).length<xG:=by
   unfold kvE bp
   rw[xt,xt,yw,xt];exact cA (by omega)
  have fin:∀{H3:Hp},az H' H3->∃H4,gZ H3 dd (.ref u.1) (.int (LW Z u.2)) H4/\Sb H2 dd H4/\H4 dd=some (.dT (kvE (bp Z ((us.map (·.2)).take (i+1))))):=λ{H3} s=>⟨_,gZ.t (s _ _ ed) (tk s) li,(sb.trans s).set _,by rw[af,rZ z eS]⟩
  refine ⟨_,rfl,(by show 0<=xG;decide),λt0 ht0=>⟨u.1,t0,u.2,[],rfl,rfl,SqT.of ((ae ht0 _) _ _ tu1),SqT.of af,?_⟩⟩
  have g3:=ae ht0 (.tup [])
  generalize upd H' t0 (.tup [])=H3 at g3
  have G3:Grd H3 rl m Z as:=(sb.grd G2 nrl nas).same g3
  refine ⟨_,rfl,cQ (λc =>?_) (λc =>?_)⟩
  ·have c:=of_decide_eq_true c
   refine ⟨_,rfl,(m:Int),rfl,by omega,by omega,?_⟩
   rw[yD]
   refine iw (λk ys H4=>H4=H3/\ys=(((rgI m).take k).map λp=>rwt Z p p).map V.int) ⟨rfl,rfl⟩ (small (by omega)) ?_ ?_
   ·rintro k ys H4 hk hy ⟨rfl,rfl⟩ R1 R0 r1 r0
    obtain ⟨a,ea⟩:∃a,as[k]? = some a:=⟨_,xP (by rw[G.len];omega)⟩
    rw[show (0:Int)+(k:Int)=k by omega]
    refine eV ⟨_,rfl,_,rfl,rl,_,(k:Int),_,rfl,rfl,SqL.of G3.at',cX (by rw[xI,ea];rfl),_,rfl,a,_,(k:Int),_,rfl,rfl,SqL.of (G3.row k a ea),cX (by rw[xI,xI,bE (by omega)];rfl),r1 _ _ ⟨rfl,?_⟩⟩
    rw[ye,bE hk,xH,xH];rfl
   ·rintro ys H4 hy ⟨rfl,rfl⟩ l4 hl4
    rw[xW (by rw[aS];exact xC _)]
    obtain ⟨H5,dp,sb5,ed5⟩:=fin (g3.trans (ae hl4 _))
    refine ⟨l4,_,rfl,af,_,rfl,_,rfl,dd,H5,rfl,?_,⟨_,rfl⟩,sb5,ed5⟩
    rw[mK pr,show wsum (λt=>decide (t.getD 0 0=t.getD 1 0)) Z=LW Z u.2 by rw[c];rfl]
    exact dp
  ·have c:u.2≠[]:=λe=>c (decide_eq_true e)
   refine ⟨_,rfl,u.1,rfl,⟨_,SqT.of (g3 _ _ tu1)⟩,cw (xs:=u.2.map V.int) (λk ys H4=>az H3 H4/\ys=((u.2.take k).map λp=>LW Z (wo u.2 p)+led Z p u.2).map V.int) ⟨az.refl _,rfl⟩ (by rw[xt];have:=z.v7 mS;exact small (by omega)) (λk ys H4 _ h=>SqT.of (h.1 _ _ (g3 _ _ tu1))) ?_ ?_⟩
   ·rintro k x ys H4 hx hy ⟨s4,rfl⟩ R1 R0 r1 r0
    obtain ⟨v,ev,rfl⟩:=eD hx
    have mv:=xD ev
    obtain ⟨v0,v1⟩:=rS v mv
    refine eV ⟨_,rfl,_,rfl,_,rfl,_,rfl,jN.mpr ⟨rl,dd,u.1,m,as,Z,bp Z ((us.map (·.2)).take i),u.2,v,LW Z (wo u.2 v),rfl,G3.same s4,s4 _ _ (g3 _ _ ed),s4 _ _ (g3 _ _ tu1),by have:=z.v7 mS;omega,rS,v0,v1,cI (z.early eS mv),λH5 s5=>r1 _ _ ⟨s4.trans s5,?_⟩⟩⟩
    rw[jM (λe he=>let ⟨a,b,h,_⟩:=pr e he;⟨a,b,h⟩) (cT sS),ye,ev,xH,xH];rfl
   ·rintro ys H4 hy ⟨s4,rfl⟩ l4 hl4
    rw[xt,xW (xC _)]
    refine ⟨l4,_,rfl,SqL.of af,λe=>c (Ag.mp e),λM m1 m2 =>?_⟩
    obtain ⟨H5,dp,sb5,ed5⟩:=fin ((g3.trans s4).trans (ae hl4 _))
    refine ⟨_,rfl,_,rfl,dd,H5,rfl,?_,⟨_,rfl⟩,sb5,ed5⟩
    rw[iP m1 m2, <- iQ Z (cT sS) c]
    exact dp
 ·rintro σ H' ⟨⟨c3,rfl⟩,sb,ed⟩
  rw[xt,xW (by rw[xt];exact xC _)] at ed
  exact ⟨_,rfl,q dd _ H' (λa o e=>sb a o (gH2 _ _ e) (aj e hdd)) z ed⟩
end
open PySem L2
def bwt (Z:List (List Int×Int)):List Int->Int
 | []=>0
 | p :: o=>(o.map λq=>rwt Z q p).sum+bwt Z o
theorem jP (Z:List (List Int×Int))(p:Int):∀o:List Int,bwt Z (o++[p])=bwt Z o+(o.map (rwt Z p)).sum
 | []=>rfl
 | a :: o=>by
  show ((o++[p]).map λq=>rwt Z q a).sum+bwt Z (o++[p])=((o.map λq=>rwt Z q a).sum+bwt Z o)+(rwt Z p a+(o.map (rwt Z p)).sum)
  rw[jP Z p o,xH,List.sum_append]
  show _+(rwt Z p a+0)+_=_
  omega
theorem fq {a b:List Int}(h:a.Perm b)(f:Int->Int):(a.map f).sum=(b.map f).sum:=by
 induction h with
 | nil=>rfl
 | cons x _ ih=>rw[xR,xR,zv,zv,ih]
 | swap x y l=>rw[xR,xR,xR,xR,zv,zv,zv,zv];omega
 | trans _ _ h1 h2=>exact h1.trans h2
theorem oI {S o:List Int}{p:Int}(nd:S.Nodup)(h:(p :: o).Perm S):o.Perm (wo S p):=by
 have e:wo S p=S.erase p:=by
  unfold wo
  rw[nd.erase_eq_filter]
  exact BC λx _=>by by_cases c:x=p <;> simp[c]
 rw[e]
 have:=h.erase p
 rwa [List.erase_cons_head] at this
theorem lX {S:List Int}{p:Int}(nd:S.Nodup)(h:p∈S):(p :: wo S p).Perm S:=by
 have e:wo S p=S.erase p:=by
  unfold wo
  rw[nd.erase_eq_filter]
  exact BC λx _=>by by_cases c:x=p <;> simp[c]
 rw[e]
 exact (List.perm_cons_erase h).symm
theorem oJ {S:List Int}(nd:S.Nodup)(p:Int):(wo S p).Nodup:=nd.filter _
section
variable  {Z:List (List Int×Int)}(pr:∀e∈Z,∃a b:Int,e.1=[a,b])
include pr
theorem r9:∀(n:Nat) {S o:List Int},S.length=n->S.Nodup->o.Perm S->LW Z S<=lp Z+bwt Z o
 | 0,S,o,hn,_,pm=>by
  have:S=[]:=AH.mp hn
  subst this
  rw[pm.eq_nil]
  show lp Z<=lp Z+0
  omega
 | n+1,S,o,hn,nd,pm=>by
  have ne:S≠[]:=λh=>by rw[h] at hn;cases hn
  have on:o≠[]:=λh=>ne (by rw[h] at pm;exact pm.nil_eq.symm)
  obtain ⟨o',p,rfl⟩:∃o' p,o=o'++[p]:=⟨o.dropLast,o.getLast on,(List.dropLast_concat_getLast on).symm⟩
  have pS:p∈S:=pm.mem_iff.mp (by simp)
  have pm':o'.Perm (wo S p):=oI nd ((zV (l₁:=[p]) (l₂:=o')).trans pm)
  have ih:=r9 n (by have:=fm nd pS;omega) (oJ nd p) pm'
  rw[jP,fq pm',jM pr nd,iQ Z nd ne]
  have:=(jL (xs:=S.map λp=>LW Z (wo S p)+led Z p S) (by simpa using ne)).2 _ (y9 pS)
  omega
theorem sd:∀(n:Nat) {S:List Int},S.length=n->S.Nodup->∃o:List Int,o.Perm S/\LW Z S=lp Z+bwt Z o
 | 0,S,hn,_=>by
  have:S=[]:=AH.mp hn
  subst this
  exact ⟨[],.refl _,by show lp Z=lp Z+0;omega⟩
 | n+1,S,hn,nd=>by
  have ne:S≠[]:=λh=>by rw[h] at hn;cases hn
  have h:=(jL (xs:=S.map λp=>LW Z (wo S p)+led Z p S) (by simpa using ne)).1
  rw[<- iQ Z nd ne] at h
  obtain ⟨p,pS,e⟩:=yS.mp h
  obtain ⟨o,pm,eo⟩:=sd n (S:=wo S p) (by have:=fm nd pS;omega) (oJ nd p)
  refine ⟨o++[p],zV.trans ((pm.cons p).trans (lX nd pS)),?_⟩
  rw[jP,fq pm,jM pr nd, <- e,eo]
  omega
def fst (Z:List (List Int×Int))(C:List Int)(p:Int):Int:=LW Z (wo C p)+((wo C p).map λq=>rwt Z q p).sum
theorem se {C:List Int}(nd:C.Nodup){p:Int}(h:p∈C):LW Z C<=fst Z C p:=by
 obtain ⟨o,pm,eo⟩:=sd pr _ (S:=wo C p) rfl (oJ nd p)
 have:=r9 pr _ rfl nd ((pm.cons p).trans (lX nd h))
 unfold fst
 rw[eo, <- fq pm]
 show LW Z C<=_
 have e:bwt Z (p :: o)=(o.map λq=>rwt Z q p).sum+bwt Z o:=rfl
 omega
theorem sf {C:List Int}(nd:C.Nodup)(ne:C≠[]):∃p∈C,fst Z C p=LW Z C:=by
 obtain ⟨o,pm,eo⟩:=sd pr _ (S:=C) rfl nd
 cases o with
 | nil=>exact absurd pm.nil_eq.symm ne
 | cons p o =>
  have pC:p∈C:=pm.mem_iff.mp xT
  have pm':=oI nd pm
  have le:=r9 pr _ rfl (oJ nd p) pm'
  have ge:=se pr nd pC
  refine ⟨p,pC,Int.le_antisymm ?_ ge⟩
  unfold fst
  rw[eo, <- fq pm']
  have e:bwt Z (p :: o)=(o.map λq=>rwt Z q p).sum+bwt Z o:=rfl
  omega
end
def ck (Z:List (List Int×Int))(C:List Int):List Int:=C.filter λp=>decide (fst Z C p=LW Z C)
def foF (Z:List (List Int×Int)):Nat->List Int->List Int
 | 0,_=>[]
 | n+1,C=>mnL (ck Z C) :: foF Z n (wo C (mnL (ck Z C)))
def fo (Z:List (List Int×Int))(C:List Int):List Int:=foF Z C.length C
theorem oK {Z:List (List Int×Int)}(pr:∀e∈Z,∃a b:Int,e.1=[a,b]){C:List Int}(nd:C.Nodup)(ne:C≠[]):ck Z C≠[]:=λh=>by
 obtain ⟨p,pC,e⟩:=sf pr nd ne
 have:p∈ck Z C:=yQ.mpr ⟨pC,decide_eq_true e⟩
 rw[h] at this;cases this
theorem oM {Z:List (List Int×Int)}(pr:∀e∈Z,∃a b:Int,e.1=[a,b]){C:List Int}(nd:C.Nodup)(ne:C≠[]):mnL (ck Z C)∈C/\fst Z C (mnL (ck Z C))=LW Z C:=by
 have:=(jL (oK pr nd ne)).1
 obtain ⟨a,b⟩:=yQ.mp this
 exact ⟨a,of_decide_eq_true b⟩
theorem oN {Z:List (List Int×Int)}(pr:∀e∈Z,∃a b:Int,e.1=[a,b]){C:List Int}(nd:C.Nodup)(ne:C≠[]):fo Z C=mnL (ck Z C) :: fo Z (wo C (mnL (ck Z C))):=by
 obtain ⟨n,hn⟩:∃n,C.length=n+1:=⟨C.length-1,by have:=AI.mpr ne;omega⟩
 have:=fm nd (oM pr nd ne).1
 unfold fo
 rw[hn,show (wo C (mnL (ck Z C))).length=n by omega];rfl
theorem ic (Z:List (List Int×Int))(C:List Int):(fo Z C).length=C.length:=by
 unfold fo
 generalize C.length=n
 induction n generalizing C with
 | zero=>rfl
 | succ n ih=>show (foF Z n _).length+1=n+1;rw[ih]
def cm (m:Nat)(S:List Int):List Int:=(rgI m).filter λp=>decide (p∉S)
def into (Z:List (List Int×Int))(C S:List Int):Int:=(C.map λc=>led Z c S).sum
def lft (Z:List (List Int×Int))(m:Nat)(S:List Int):Int:=LW Z (cm m S)-lp Z+into Z (cm m S) S
theorem uf {Z:List (List Int×Int)}{S T:List Int}{c p:Int}(hT:∀v,v∈T↔v∈S\/v=p)(hp:p∉S)(cp:c≠p)(pr:∀e∈Z,∃a b:Int,e.1=[a,b]):led Z c T=led Z c S+rwt Z c p:=by
 unfold led rwt
 induction Z with
 | nil=>rfl
 | cons e t ih =>
  obtain ⟨a,b,eab⟩:=pr e xT
  have ih:=ih λx hx=>pr x (xO _ hx)
  show (if _ then e.2 else 0)+wsum _ t=((if _ then e.2 else 0)+wsum _ t)+((if _ then e.2 else 0)+wsum _ t)
  rw[ih,eab]
  show (if (decide (a=c) && (decide (b∈T) && decide (b≠c)))=true then e.2 else 0)+(_+_)=(if (decide (a=c) && (decide (b∈S) && decide (b≠c)))=true then e.2 else 0)+_+((if decide ([a,b]=[c,p])=true then e.2 else 0)+_)
  by_cases ca:a=c
  ·by_cases cb:b=p
   ·have bS:b∉S:=cb ▸ hp
    have bT:b∈T:=(hT b).mpr (.inr cb)
    have bc:b≠c:=λh=>cp (h ▸ cb)
    have e2:([a,b]:List Int)=[c,p]:=by rw[ca,cb]
    rw[if_pos (by simp[ca,bT,bc]),if_neg (by simp[bS]),if_pos (by simpa using e2)]
    omega
   ·have iff:b∈T↔b∈S:=(hT b).trans ⟨λh=>h.resolve_right cb,.inl⟩
    have e2:([a,b]:List Int)≠[c,p]:=λh=>cb (by injection h with _ h;injection h)
    rw[if_neg (show ¬ decide ([a,b]=[c,p])=true by simpa using e2)]
    by_cases bS:b∈S
    ·have bT:=iff.mpr bS
     by_cases bc:b=c
     ·rw[if_neg (by simp[bc]),if_neg (by simp[bc])];omega
     ·rw[if_pos (by simp[ca,bT,bc]),if_pos (by simp[ca,bS,bc])];omega
    ·have bT:b∉T:=λh=>bS (iff.mp h)
     rw[if_neg (by simp[bT]),if_neg (by simp[bS])];omega
  ·have e2:([a,b]:List Int)≠[c,p]:=λh=>ca (by injection h)
   rw[if_neg (by simp[ca]),if_neg (by simp[ca]),if_neg (show ¬ decide ([a,b]=[c,p])=true by simpa using e2)]
   omega
theorem uO (m:Nat)(S:List Int):(cm m S).Nodup:=(kQ m).filter _
theorem sg {m:Nat}{S:List Int}{p:Int}:p∈cm m S↔(0<=p/\p<m)/\p∉S:=by unfold cm;rw[yQ,cH,decide_eq_true_iff]
theorem si {m:Nat}{S T:List Int}{p:Int}(hT:∀v,v∈T↔v∈S\/v=p):cm m T=wo (cm m S) p:=by
 unfold cm wo
 rw[List.filter_filter]
 refine BC λx _ =>?_
 rw[zC,yO,decide_eq_true_iff,decide_eq_true_iff,decide_eq_true_iff,hT]
 constructor
 ·intro h;exact ⟨λz=>h (.inr z),λz=>h (.inl z)⟩
 ·rintro ⟨a,b⟩ (z | z)
  ·exact b z
  ·exact a z
theorem sj {Z:List (List Int×Int)}(pr:∀e∈Z,∃a b:Int,e.1=[a,b]){m:Nat}{S T:List Int}{p:Int}(hp:p∈cm m S)(hT:∀v,v∈T↔v∈S\/v=p):led Z p S+lft Z m T=fst Z (cm m S) p+(into Z (cm m S) S-lp Z):=by
 have pS:=(sg.mp hp).2
 unfold lft fst into
 rw[si hT]
 have e1:((wo (cm m S) p).map λc=>led Z c T)=(wo (cm m S) p).map λc=>led Z c S+rwt Z c p:=Ah λc hc=>uf hT pS (of_decide_eq_true (yQ.mp hc).2) pr
 have e2:=fq (lX (uO m S) hp) λc=>led Z c S
 rw[xR,zv] at e2
 rw[e1,gO (λc=>led Z c S) λc=>rwt Z c p, <- e2]
 omega
theorem ug (Z:List (List Int×Int))(m:Nat):lft Z m []+lp Z=LW Z (rgI m):=by
 have e:cm m []=rgI m:=by unfold cm;rw[Dm];intro a _;simp
 have z:into Z (rgI m) []=0:=by
  unfold into
  rw[show ((rgI m).map λc=>led Z c [])=(rgI m).map λ_=>(0:Int) from Ah λc _=>ia λe _=>by simp]
  exact dG _
 unfold lft
 rw[e,z];omega
theorem v8 (m:Nat):cm m []=rgI m:=by unfold cm;rw[Dm];intro a _;simp
open PySem L2
theorem iI (a b:Int):decide (V.int a=V.int b)=decide (a=b):=by
 by_cases c:a=b
 ·rw[c,decide_eq_true rfl,decide_eq_true rfl]
 ·rw[decide_eq_false (λz=>c (V.int.inj z)),decide_eq_false c]
theorem az.cR {H H':Hp}{l:Addr}(s:az H H')(hl:H l=none)(o:HO):az H (upd H' l o):=λb u e=>by rw[ak (aj e hl)];exact s b u e
theorem sk {i:Nat}{v:V}{σ:St}{H:Hp}{Q:St->Hp->Prop}(h:Q (σ.set i (some v)) H):eN i v σ H Q:=h
theorem v9 {a b:TS}{D:Ends}{σ:St}{H:Hp}(h:a { D with nx:=b D } σ H):wm a b D σ H:=h
def t3 (σ:St)(H:Hp):Nat:=match σ with
 | _ :: _ :: _ :: some (.ref y) :: _=>match H y with
  | some (.tup xs)=>xs.length
  | _=>0
 | _=>0
theorem uP {c0 c1 c2:Option V}{y:Addr}{r:St}{H:Hp}{xs:List V}(e:H y=some (.tup xs)):t3 (c0 :: c1 :: c2 :: some (.ref y) :: r) H=xs.length:=by
 unfold t3
 dsimp only
 rw[e]
abbrev sq:Sp:=λvs H Q _=>∃(rl dd pl:Addr) (m:Nat) (as:List Addr) (Z es:List (List Int×Int)) (S:List Int) (p L L2:Int),vs=[.ref rl,.ref dd,.ref pl,.int p]/\Grd H rl m Z as/\H dd=some (.dT (kvE es))/\H pl=some (.tup (S.map V.int))/\S.length<=9/\(∀v∈S,0<=v/\v<m)/\0<=p/\p<m/\es.lookup (wo S p)=some L/\es.lookup S=some L2/\∀H',az H H'->Q (.bl (decide (L+((wo S p).map λq=>rwt Z q p).sum=L2))) H'
@[irreducible] def oO:Sp:=sq
theorem ie {vs:List V}{H:Hp}{Q:VK}{E:XK}:oO vs H Q E↔sq vs H Q E:=by
 delta oO
 exact Ai
section
variable  {P:xX}{w:yv}{K:xx}{mg:Str->Option xw}{base:Heap}{f T:Addr}{fd:yM}
theorem jQ:aH ["rows", "least", "places", "place", "rest"] ["rows", "least", "places", "place"] (aq fK):=⟨rfl,rfl,rfl,by decide +kernel,rfl,by decide +kernel,by decide +kernel⟩
theorem cJ:(["other", "rows", "place"]:List Str).Nodup:=by decide +kernel
theorem nW (F:Fun K "can_begin" "can_begin" fK f fd)(B:Blt mg)(cWithoutPlace:Cal P w K mg base 1 "without_place" ["places", "place"] cN)(C:Cst mg):bF P w K mg base CX0 2 f fd ["rows", "least", "places", "place"] oO:=by
 refine F.ok jQ (λvs H Q E h =>?_) (λcdv A outer s H vs Q E hr h =>?_)
 ·obtain ⟨_,_,_,_,_,_,_,_,_,_,_,rfl,_⟩:=ie.mp h
  rfl
 obtain ⟨rl,dd,pl,m,as,Z,es,S,p,L,L2,rfl,G,ed,ep,l9,rg,p0,p1,eL,eL2,q⟩:=ie.mp h
 have hu:(eE CX0 P w K mg base ["rows", "least", "places", "place", "rest"] "can_begin" (aq fK) f cdv A outer s H E).nox.A.units+1<cLine:=iq hr
 refine ⟨_,(@ah _ _ _ _ _ (@au _ _ 4 _ _ _ _ jQ.nd rfl (Or.inl rfl) (aD cWithoutPlace hr (by decide) rfl (@aa _ _ _ _ _ (pv 2) (@aa _ _ _ _ _ (pv 3) ag rfl) rfl)) rfl (by first | exact .inl rfl | exact .inr rfl | assumption))
  (@ao _ _ _ (@aX _ _ _ _ (gi eQ (@aF _ _ _ _ _ _ _ _ cf (cg hu (pv 1) (pv 4) (λ_ _=>rfl)) (av (eZ hr.hd) rfl B.b_sum jD (@aa _ _ _ _ _ (bP ["other", "rows", "place"] [none,some 0,some 3] rfl (@dt _ _ _ _ (pv 4)) rfl (λ_ _ _ _ _=>(aB (i:=0) cJ rfl (Or.inl rfl))) (λ_ _ _ _ _=>dQ) (λ_ _ _ _ _=>(@aE _ _ _ _ _ _ _ (dD (K:=K)) (@aE _ _ _ _ _ _ _ (dD (K:=K)) (pv 1) (pv 0) (λ_ _=>rfl)) (pv 2) (λ_ _=>rfl)))) ag rfl))) (cg hu (pv 1) (pv 2) (λ_ _=>rfl)) (aU _))))),?_⟩
 refine ⟨_,rfl,_,rfl,bN.mpr ⟨pl,S,p,rfl,ep,by omega,λrs H1 s1 er =>?_⟩⟩
 have er:H1 rs=some (.tup ((wo S p).map V.int)):=er
 have er':H1 rs=some (.tup (((wo S p).map (Sum.inl:Int->Key)).map kV)):=by rw[yt];exact er
 have ep':H pl=some (.tup ((S.map (Sum.inl:Int->Key)).map kV)):=by rw[yt];exact ep
 have hw:∀v∈wo S p,0<=v/\v<m:=λv hv=>rg v (yQ.mp hv).1
 have lw9:(wo S p).length<=9:=yf (AZ _ _) l9
 have G1:=G.same s1
 obtain ⟨pn,rfl⟩:∃k:Nat,p=k:=⟨p.toNat,by omega⟩
 refine ⟨_,rfl,_,rfl,dd,.int L,rfl,by have:=fR.t (s1 _ _ ed) er';rw[bQ,eL] at this;exact this,?_⟩
 refine ⟨_,rfl,rs,rfl,⟨_,SqT.of er⟩,cw (xs:=(wo S pn).map V.int) (λi ys H'=>H'=H1/\ys=(((wo S pn).take i).map λq=>rwt Z q (pn:Int)).map V.int) ⟨rfl,rfl⟩ (by rw[xt];exact small (by omega)) (λi ys H' _ k=>by rw[k.1];exact SqT.of er) ?_ ?_⟩
 ·rintro i x ys H2 hx hy ⟨eH,rfl⟩ R1 R0 r1 r0
  obtain ⟨v,ev,rfl⟩:=eD hx
  obtain ⟨v0,v1⟩:=hw v (xD ev)
  obtain ⟨vn,rfl⟩:∃k:Nat,v=k:=⟨v.toNat,by omega⟩
  obtain ⟨a,ea⟩:∃a,as[vn]? = some a:=⟨_,xP (by rw[G.len];omega)⟩
  have hrow:=G1.row vn a ea
  rw[eH]
  refine eV ⟨_,rfl,_,rfl,rl,_,(vn:Int),_,rfl,rfl,SqL.of G1.at',cX (by rw[xI,ea];rfl),_,rfl,a,_,(pn:Int),_,rfl,rfl,SqL.of hrow,cX (by rw[xI,xI,bE (by omega)];rfl),r1 _ _ ⟨rfl,?_⟩⟩
  rw[ye,ev,xH,xH];rfl
 ·rintro ys H2 hy ⟨eH,rfl⟩ l hl
  rw[eH] at hl ⊢
  rw[xt,xW (xC _)]
  have g2:=ae hl (.lst (((wo S (pn:Int)).map λq=>rwt Z q (pn:Int)).map V.int))
  refine ⟨l,_,rfl,af,_,_,rfl,rfl,_,rfl,_,rfl,dd,.int L2,rfl,by have:=fR.t (g2 _ _ (s1 _ _ ed)) (g2 _ _ (s1 _ _ ep'));rw[bQ,eL2] at this;exact this,rfl,?_⟩
  rw[iI]
  exact q _ (s1.trans g2)
end
abbrev uQ:Sp:=λvs H Q _=>∃(rl dd:Addr) (m:Nat) (as:List Addr) (Z:List (List Int×Int)) (Ls:List (List Int)),vs=[.int m,.ref rl,.ref dd]/\Grd H rl m Z as/\H dd=some (.dT (kvE (bp Z Ls)))/\Sz m Ls/\m<=7/\(∀e∈Z,∃a b:Int,e.1=[a,b])/\∀(l:Addr) (H':Hp),az H H'->H l=none->H' l=some (.lst ((fo Z (rgI m)).map V.int))->Q (.ref l) H'
@[irreducible] def uh:Sp:=uQ
theorem jR {vs:List V}{H:Hp}{Q:VK}{E:XK}:uh vs H Q E↔uQ vs H Q E:=by
 delta uh
 exact Ai
section
variable  {P:xX}{w:yv}{K:xx}{mg:Str->Option xw}{base:Heap}{f T:Addr}{fd:yM}
theorem cq:aH ["many", "rows", "least", "rest", "order", "place"] ["many", "rows", "least"] (aq df):=⟨rfl,rfl,rfl,by decide +kernel,rfl,by decide +kernel,by decide +kernel⟩
theorem bU:(["place", "rows", "least", "rest"]:List Str).Nodup:=by decide +kernel
theorem lY (F:Fun K "first_order" "first_order" df f fd)(B:Blt mg)(cWithoutPlace:Cal P w K mg base 1 "without_place" ["places", "place"] cN)(cCanBegin:Cal P w K mg base 2 "can_begin" ["rows", "least", "places", "place"] oO)(C:Cst mg):bF P w K mg base CX0 3 f fd ["many", "rows", "least"] uh:=by
 refine F.ok cq (λvs H Q E h =>?_) (λcdv A outer s H vs Q E hr h =>?_)
 ·obtain ⟨_,_,_,_,_,_,rfl,_⟩:=jR.mp h
  rfl
 obtain ⟨rl,dd,m,as,Z,Ls,rfl,G,ed,z,m7,pr,q⟩:=jR.mp h
 have hu:(eE CX0 P w K mg base ["many", "rows", "least", "rest", "order", "place"] "first_order" (aq df) f cdv A outer s H E).nox.A.units+1<cLine:=iq hr
 refine ⟨_,(@ah _ _ _ _ _ (@au _ _ 3 _ _ _ _ cq.nd rfl (Or.inr rfl) (aG (cZ hr.hd) rfl B.b_tuple bz (@aa _ _ _ _ _ (aG cY rfl B.b_range gJ (@aa _ _ _ _ _ (pv 0) ag rfl)) ag rfl)) rfl (by first | exact .inl rfl | exact .inr rfl | assumption))
  (@ah _ _ _ _ _ (@au _ _ 4 _ _ _ _ cq.nd rfl (Or.inl rfl) (@bJ _ _ _ _ ag) rfl (by first | exact .inl rfl | exact .inr rfl | assumption))
  (@ah _ _ _ _ _ (qp yL (qz (pv 3) (λ_=>rfl))
   (@ah _ _ _ _ _ (@au _ _ 5 _ _ _ _ cq.nd rfl (Or.inl rfl) (av (hJ rfl) rfl B.b_min jC (@aa _ _ _ _ _ (bP ["place", "rows", "least", "rest"] [none,some 1,some 2,some 3] rfl (@dt _ _ _ _ (pv 3)) rfl (λ_ _ _ _ _=>(aB (i:=0) bU rfl (Or.inl rfl))) (λ_ _ _ _ _=>(jg (cO (aD cCanBegin hr (by decide) rfl (@aa _ _ _ _ _ (pv 1) (@aa _ _ _ _ _ (pv 2) (@aa _ _ _ _ _ (pv 3) (@aa _ _ _ _ _ (pv 0) ag rfl) rfl) rfl) rfl))))) (λ_ _ _ _ _=>(pv 0))) ag rfl)) rfl (by first | exact .inl rfl | exact .inr rfl | assumption))
   (@ah _ _ _ _ _ (bZ (eC yz yX yY bW (pv 4) (@aa _ _ _ _ _ (pv 5) ag rfl)))
   (@ao _ _ _ (@au _ _ 3 _ _ _ _ cq.nd rfl (Or.inr rfl) (aD cWithoutPlace hr (by decide) rfl (@aa _ _ _ _ _ (pv 3) (@aa _ _ _ _ _ (pv 5) ag rfl) rfl)) rfl (by first | exact .inl rfl | exact .inr rfl | assumption))))))
  (@ao _ _ _ (@aX _ _ _ _ (pv 4)))))),?_⟩
 refine ⟨_,rfl,(m:Int),rfl,λrg hrg=>⟨rg,m,rfl,af,by omega,λtl htl =>?_⟩⟩
 have g1:=(ae hrg (.rng 0 m)).trans (ae htl (.tup ((yP m).map λi=>V.int (i:Nat))))
 have e1:upd (upd H rg (.rng 0 m)) tl (.tup ((yP m).map λi=>V.int (i:Nat))) tl=some (.tup ((rgI m).map V.int)):=by rw[af];unfold rgI;rw[yt];rfl
 generalize upd (upd H rg (.rng 0 m)) tl (.tup ((yP m).map λi=>V.int (i:Nat)))=H1 at g1 e1
 refine ⟨(by show 0<=xG;decide),λol hol =>?_⟩
 have hol0:=g1.free hol
 have s2:=g1.trans (ae hol (.lst []))
 have e2:=(ae hol (.lst [])) _ _ e1
 have eo:upd H1 ol (.lst []) ol=some (.lst (([]:List Int).map V.int)):=af
 generalize upd H1 ol (.lst [])=H2 at s2 e2 eo
 refine sk ?_
 dsimp only
 refine v9 ?_
 refine qu (λσ H'=>∃(p:Addr) (c5:Option V) (C O:List Int),σ=[some (.int m),some (.ref rl),some (.ref dd),some (.ref p),some (.ref ol),c5]/\az H H'/\H' p=some (.tup (C.map V.int))/\SS C/\(∀v∈C,0<=v/\v<m)/\H' ol=some (.lst (O.map V.int))/\O++fo Z C=fo Z (rgI m)) (λσ H'=>t3 σ H')
  ⟨tl,none,rgI m,[],rfl,s2,e2,ib m,λv hv=>cH.mp hv,eo,rfl⟩ ?_ ?_
 ·rintro σ H3 ⟨p,c5,C,O,rfl,s3,ep,sC,rC,eo3,eO⟩
  have m0:=uP (c0:=some (.int m)) (c1:=some (.ref rl)) (c2:=some (.ref dd)) (r:=[some (.ref ol),c5]) ep
  have nC:=cT sC
  have lC:C.length<=m:=mI nC rC
  refine ⟨_,rfl,_,.inr (.inl ⟨_,SqT.of ep,rfl⟩),?_⟩
  by_cases cz:C=[]
  ·subst cz
   refine dO ⟨_,rfl,q ol H3 s3 hol0 ?_⟩
   rw[<- eO,show fo Z []=[] from rfl,yC]
   exact eo3
  rw[show (!(C.map V.int).isEmpty)=true by cases C with | nil=>exact absurd rfl cz | cons a t=>rfl]
  have inL:∀{S:List Int},SS S->(∀v∈S,0<=v/\v<m)->(bp Z Ls).lookup S=some (LW Z S):=λsS rS=>cI (f:=LW Z) (z.mem.mpr ⟨sS,rS⟩)
  refine eV ⟨_,rfl,p,rfl,⟨_,SqT.of ep⟩,cw (xs:=C.map V.int) (λi ys H'=>az H3 H'/\ys=((C.take i).filter λv=>decide (fst Z C v=LW Z C)).map V.int) ⟨az.refl _,rfl⟩ (by rw[xt];exact small (by omega)) (λi ys H' _ k=>SqT.of (k.1 _ _ ep)) ?_ ?_⟩
  ·rintro i x ys H4 hx hy ⟨s4,rfl⟩ R1 R0 r1 r0
   obtain ⟨v,ev,rfl⟩:=eD hx
   obtain ⟨v0,v1⟩:=rC v (xD ev)
   have tk:((C.take (i+1)).filter λv=>decide (fst Z C v=LW Z C))=((C.take i).filter λv=>decide (fst Z C v=LW Z C))++if fst Z C v=LW Z C then [v] else []:=by
    rw[ye,ev,AQ]
    congr 1
    by_cases c:fst Z C v=LW Z C <;> simp[c]
   have s34:=s3.trans s4
   refine ⟨_,rfl,_,rfl,_,rfl,_,rfl,ie.mpr ⟨rl,dd,p,m,as,Z,bp Z Ls,C,v,LW Z (wo C v),LW Z C,rfl,G.same s34,s34 _ _ ed,s4 _ _ ep,by omega,rC,v0,v1,inL (fL _ sC) (λu hu=>rC u (yQ.mp hu).1),inL sC rC,λH5 s5 =>?_⟩⟩
   show ∃k,_/\_
   refine ⟨_,rfl,cQ (λc =>?_) λc =>?_⟩
   ·have c:fst Z C v=LW Z C:=of_decide_eq_true c
    exact ⟨_,rfl,r1 _ _ ⟨s4.trans s5,by rw[tk,if_pos c,xH];rfl⟩⟩
   ·have c:¬ fst Z C v=LW Z C:=λh=>c (decide_eq_true h)
    exact r0 _ ⟨s4.trans s5,by rw[tk,if_neg c,yC]⟩
  ·rintro ys H4 hy ⟨s4,rfl⟩ bl hbl
   rw[xt,xW (xC _),show (C.filter λv=>decide (fst Z C v=LW Z C))=ck Z C from rfl]
   have g5:=ae hbl (.lst ((ck Z C).map V.int))
   have eb:upd H4 bl (.lst ((ck Z C).map V.int)) bl=some (.lst ((ck Z C).map V.int)):=af
   have s5:=s4.trans g5
   refine ⟨bl,ck Z C,rfl,SqL.of eb,oK pr nC cz,λM hM mn =>?_⟩
   generalize upd H4 bl (.lst ((ck Z C).map V.int))=H5 at g5 eb s5
   have eM:=iP hM mn
   subst eM
   obtain ⟨MC,_⟩:=oM pr nC cz
   have eo5:=s5 _ _ eo3
   have lO:O.length<=m:=by
    have:=congrArg List.length eO
    rw[xM,ic,ic,aS] at this
    omega
   refine ⟨_,rfl,.inl ⟨rfl,_,SqL.of eo5⟩,_,rfl,ol,_,_,rfl,rfl,eo5,by rw[xt];exact cA (by omega),?_⟩
   have ep6:upd H5 ol (.lst (O.map V.int++[.int (mnL (ck Z C))])) p=some (.tup (C.map V.int)):=by rw[ak (dA (s5 _ _ ep) eo5 (by intro z;cases z))];exact s5 _ _ ep
   have eo6:upd H5 ol (.lst (O.map V.int++[.int (mnL (ck Z C))])) ol=some (.lst ((O++[mnL (ck Z C)]).map V.int)):=by rw[af,xH];rfl
   have s6:=az.cR (s3.trans s5) hol0 (.lst (O.map V.int++[.int (mnL (ck Z C))]))
   generalize upd H5 ol (.lst (O.map V.int++[.int (mnL (ck Z C))]))=H6 at ep6 eo6 s6
   refine ⟨_,rfl,_,rfl,bN.mpr ⟨p,C,mnL (ck Z C),rfl,ep6,by omega,λp7 H7 s7 e7=>⟨⟨p7,_,wo C (mnL (ck Z C)),O++[mnL (ck Z C)],rfl,s6.trans s7,e7,fL _ sC,λv hv=>rC v (yQ.mp hv).1,s7 _ _ eo6,?_⟩,?_⟩⟩⟩
   ·rw[yr]
    show O++(mnL (ck Z C) :: fo Z (wo C (mnL (ck Z C))))=_
    rw[<- oN pr nC cz];exact eO
   ·have m1:=uP (c0:=some (.int m)) (c1:=some (.ref rl)) (c2:=some (.ref dd)) (r:=[some (.ref ol),some (.int (mnL (ck Z C)))]) e7
    have lw:=fm nC MC
    show t3 [some (.int m),some (.ref rl),some (.ref dd),some (.ref p7),some (.ref ol),some (.int (mnL (ck Z C)))] H7<t3 [some (.int m),some (.ref rl),some (.ref dd),some (.ref p),some (.ref ol),c5] H3
    rw[m0,m1]
    show ((wo C (mnL (ck Z C))).map V.int).length<_
    rw[xt,xt]
    omega
 ·rintro σ H Q Q' h ⟨v,e,k,t,q⟩
  exact ⟨v,e,k,t,h _ _ q⟩
end
open PySem L2
theorem kU (ps:List Int):(ps.map V.int).all gm=true:=by
 rw[EI,AJ]
 intro x _
 rfl
abbrev mP:Sp:=λvs H Q _=>∃(m:Nat),vs=[.int m]/\m<=7/\∀(l:Addr) (us:List (Addr×List Int)) (H':Hp),az H H'->H' l=some (.lst (us.map λu =>.ref u.1))->Tus H' us->us.map (·.2)=sbs (rgI m)->Q (.ref l) H'
@[irreducible] def gS:Sp:=mP
theorem dk {vs:List V}{H:Hp}{Q:VK}{E:XK}:gS vs H Q E↔mP vs H Q E:=by
 delta gS
 exact Ai
section
variable  {P:xX}{w:yv}{K:xx}{mg:Str->Option xw}{base:Heap}{f T:Addr}{fd:yM}
theorem iR:aH ["many", "found", "place"] ["many"] (aq nV):=⟨rfl,rfl,rfl,by decide +kernel,rfl,by decide +kernel,by decide +kernel⟩
theorem ft:(["places", "place"]:List Str).Nodup:=by decide +kernel
theorem uj (F:Fun K "_law_sets" "_law_sets" nV f fd)(B:Blt mg)(C:Cst mg):bF P w K mg base CX0 1 f fd ["many"] gS:=by
 refine F.ok iR (λvs H Q E h =>?_) (λcdv A outer s H vs Q E hr h =>?_)
 ·obtain ⟨_,rfl,_⟩:=dk.mp h
  rfl
 obtain ⟨m,rfl,m5,q⟩:=dk.mp h
 refine ⟨_,(@ah _ _ _ _ _ (@au _ _ 1 _ _ _ _ iR.nd rfl (Or.inl rfl) (@bJ _ _ _ _ (@aa _ _ _ _ _ (@aY _ _ _ _ _ ag) ag rfl)) rfl (by first | exact .inl rfl | exact .inr rfl | assumption))
  (@ah _ _ _ _ _ (@bR _ _ _ _ _ _ _ _ yL rfl (bV rfl B.b_range (@aa _ _ _ _ _ (pv 0) ag rfl)) (aB (i:=2) iR.nd rfl (Or.inr rfl))
   (@ao _ _ _ (@au _ _ 1 _ _ _ _ iR.nd rfl (Or.inl rfl) (@aF _ _ _ _ _ _ _ _ lB (pv 1) (bP ["places", "place"] [none,some 2] rfl (@fC _ _ _ _ (pv 1)) rfl (λ_ _ _ _ _=>(aB (i:=0) ft rfl (Or.inl rfl))) (λ_ _ _ _ _=>dQ) (λ_ _ _ _ _=>(@aF _ _ _ _ _ _ _ _ (kN (K:=K)) (pv 0) (@aY _ _ _ _ _ (@aa _ _ _ _ _ (pv 1) ag rfl)))))) rfl (by first | exact .inl rfl | exact .inr rfl | assumption))) (λ_=>rfl))
  (@ao _ _ _ (@aX _ _ _ _ (pv 1))))),?_⟩
 refine ⟨(by show 0<=xG;decide),λt0 ht0=>⟨(by show 1<=xG;decide),λl0 hl0 =>?_⟩⟩
 have s0:=(ae ht0 (.tup [])).trans (ae hl0 (.lst [.ref t0]))
 have e0:upd (upd H t0 (.tup [])) l0 (.lst [.ref t0]) l0=some (.lst (([(t0,[])]:List (Addr×List Int)).map λu =>.ref u.1)):=af
 have et:Tus (upd (upd H t0 (.tup [])) l0 (.lst [.ref t0])) [(t0,[])]:=λu hu=>by
  rw[yd.mp hu]
  exact (ae hl0 _) _ _ af
 generalize upd (upd H t0 (.tup [])) l0 (.lst [.ref t0])=H0 at s0 e0 et
 refine ⟨_,rfl,(m:Int),rfl,by omega,by omega,?_⟩
 rw[yD]
 refine cK (λi σ H'=>(∃l us c2,σ=[some (.int m),some (.ref l),c2]/\H' l=some (.lst (us.map λu =>.ref u.1))/\Tus H' us/\us.map (·.2)=sbs ((rgI m).take i))/\az H H') ⟨⟨l0,[(t0,[])],_,rfl,e0,et,rfl⟩,s0⟩ ?_ ?_
 ·rintro i σ H' hi ⟨⟨l,us,c2,rfl,el,tus,em⟩,s1⟩
  obtain ⟨v,hv⟩:∃v:Int,v=0+(i:Int):=⟨_,rfl⟩
  have ev:(rgI m)[i]? = some v:=by rw[hv,bE hi];congr 1;omega
  rw[<- hv]
  have lus:us.length<=256:=by
   have:=congrArg List.length em
   rw[xt,gN,yw,aS] at this
   have:2 ^ (min i m)<=2 ^ 8:=z9 (by decide) (by omega)
   omega
  have l50:∀u∈us,u.2.length<=9:=λu hu=>by
   have h1:u.2∈sbs ((rgI m).take i):=em ▸ y9 hu
   exact yf (lQ _ _ h1) (yf (B5 _ _) (by omega))
  refine ⟨_,rfl,_,rfl,l,rfl,⟨_,SqL.of el⟩,dR (xs:=us.map λu =>.ref u.1) (λk zs H2=>az H' H2/\∃rs:List (Addr×List Int),zs=(rs.map λu=>V.ref u.1)/\Tus H2 rs/\rs.map (·.2)=(us.take k).map λu=>u.2++[v]) ⟨az.refl _,[],rfl,(λu hu=>by cases hu),rfl⟩ (by rw[xt];exact cU (by omega)) (λk zs H2 _ h=>SqL.of (h.1 _ _ el)) ?_ ?_⟩
  ·rintro k x zs H2 hx hy ⟨s2,rs,rfl,tr,er⟩ R1 R0 r1 r0
   obtain ⟨u,eu,rfl⟩:=fi hx
   have mu:=xD eu
   refine eV ⟨_,rfl,_,rfl,(by show 1<=xG;decide),λt ht =>?_⟩
   have g3:=ae ht (.tup [V.int v])
   refine js.one (ys:=[V.int v]) (g3 _ _ (s2 _ _ (tus u mu))) af (by rw[xt];have:=l50 u mu;exact cU (by show _+1<=_;omega)) λq1 H3 s3 eq1 =>?_
   refine r1 _ _ ⟨(s2.trans g3).trans s3,rs++[(q1,u.2++[v])],by rw[xH];rfl,mJ ((tr.same g3).same s3) (by rw[xH];exact eq1),?_⟩
   rw[xH,er,uG eu];rfl
  ·rintro zs H2 hy ⟨s2,rs,rfl,tr,er⟩ r hr'
   rw[xt,gu] at er
   have lr:rs.length=us.length:=by
    have:=congrArg List.length er
    rwa [xt,xt] at this
   have g3:=ae hr' (.lst (rs.map λu=>V.ref u.1))
   refine ⟨l,r,_,_,rfl,rfl,SqL.of (g3 _ _ (s2 _ _ el)),SqL.of af,by rw[xt,xt];exact cU (by omega),λl3 hl3 =>?_⟩
   have g4:=g3.trans (ae hl3 (.lst ((us.map λu=>V.ref u.1)++(rs.map λu=>V.ref u.1))))
   have s4:=s2.trans g4
   refine ⟨⟨l3,us++rs,_,rfl,by rw[af,xH],λu hu =>?_,?_⟩,s1.trans s4⟩
   ·rcases xS.mp hu with z | z
    ·exact s4 _ _ (tus u z)
    ·exact g4 _ _ (tr u z)
   ·rw[xH,er,em,ye,ev]
    show _=sbs ((rgI m).take i++[v])
    rw[dF, <- em,yt];rfl
 ·rintro σ H' ⟨⟨l,us,c2,rfl,el,tus,em⟩,s1⟩
  rw[xW (by rw[aS];exact xC _)] at em
  exact ⟨_,rfl,q l us H' s1 el tus em⟩
end
abbrev sr:Sp:=λvs H Q _=>∃(r l pl:Addr) (m:Nat) (ts:List (Addr×List Int)) (ws:List Int) (p:Int) (S:List Int),vs=[.ref r,.ref l,.int p,.ref pl]/\Ow H r (m:Int) ts/\H l=some (.lst (ws.map V.int))/\ws.length=ts.length/\H pl=some (.tup (S.map V.int))/\∀H':Hp,az H H'->Q (.int (led ((ts.map (·.2)).zip ws) p S)) H'
@[irreducible] def mQ:Sp:=sr
theorem fO {vs:List V}{H:Hp}{Q:VK}{E:XK}:mQ vs H Q E↔sr vs H Q E:=by
 delta mQ
 exact Ai
section
variable  {P:xX}{w:yv}{K:xx}{mg:Str->Option xw}{base:Heap}{f T:Addr}{fd:yM}
theorem jS:aH ["web", "worths", "place", "places", "total", "arrow", "worth"] ["web", "worths", "place", "places"] (aq rO):=⟨rfl,rfl,rfl,by decide +kernel,rfl,by decide +kernel,by decide +kernel⟩
theorem wb (F:Fun K "_law_led" "_law_led" rO f fd)(B:Blt mg)(C:Cst mg):bF P w K mg base CX0 1 f fd ["web", "worths", "place", "places"] mQ:=by
 refine F.ok jS (λvs H Q E h =>?_) (λcdv A outer s H vs Q E hr h =>?_)
 ·obtain ⟨_,_,_,_,_,_,_,_,rfl,_⟩:=fO.mp h
  rfl
 obtain ⟨r,l,pl,m,ts,ws,p,S,rfl,W,el,lw,ep,q⟩:=fO.mp h
 refine ⟨_,(@ah _ _ _ _ _ (@au _ _ 4 _ _ _ _ jS.nd rfl (Or.inl rfl) ai rfl (by first | exact .inl rfl | exact .inr rfl | assumption))
  (@ah _ _ _ _ _ (@bR _ _ _ _ _ _ _ _ yL rfl (iK false true rfl B.b_zip (@aa _ _ _ _ _ (@aE _ _ _ _ _ _ _ aK (pv 0) ai (λ_ _=>rfl)) (@aa _ _ _ _ _ (pv 1) ag rfl) rfl)) (i0 rfl (bM (aB (i:=5) jS.nd rfl (Or.inl rfl)) (bM (aB (i:=6) jS.nd rfl (Or.inl rfl)) gh)))
   (@ao _ _ _ (@b8 _ _ _ _ _ _ _ _ (PW.pt (k9 (aM eQ (@aE _ _ _ _ _ _ _ aK (pv 5) ai (λ_ _=>rfl)) (pv 2) (aU _)) (k9 (aM pk (@aE _ _ _ _ _ _ _ aK (pv 5) ai (λ_ _=>rfl)) (pv 3) rfl) (k8 (aM qw (@aE _ _ _ _ _ _ _ aK (pv 5) ai (λ_ _=>rfl)) (pv 2) (aU _)))))) (@ao _ _ _ (@au _ _ 4 _ _ _ _ jS.nd rfl (Or.inl rfl) (@aF _ _ _ _ _ _ _ _ cf (pv 4) (pv 6)) rfl (by first | exact .inl rfl | exact .inr rfl | assumption))) ba)) (λ_=>rfl))
  (@ao _ _ _ (@aX _ _ _ _ (pv 4))))),?_⟩
 obtain ⟨t,e1,e2⟩:=W.at'
 have lz:(ts.map λu=>V.ref u.1).length=ts.length:=xt _
 have lzw:(ws.map V.int).length=ts.length:=by rw[xt,lw]
 refine ⟨_,rfl,r,_,1,_,rfl,rfl,SqT.of e1,rfl,_,rfl,t,l,rfl,⟨_,SqT.of e2⟩,⟨_,SqL.of el⟩,mF (c:=false) (d:=true) (xs:=ts.map λu =>.ref u.1) (ys:=ws.map V.int) ts.length (by rw[lz];exact xC _) (by rw[lzw];exact xC _) (.inl lz.symm) (λi σ H'=>(∃c3 c4,σ=[some (.ref r),some (.ref l),some (.int p),some (.ref pl),some (.int (led (((ts.map (·.2)).zip ws).take i) p S)),c3,c4])/\az H H') ⟨⟨_,_,rfl⟩,az.refl _⟩ (λi σ H' _ k=>⟨SqT.of (k.2 _ _ e2),SqL.of (k.2 _ _ el)⟩) ?_ ?_⟩
 ·rintro i x y σ H3 T hx hy' hT ⟨⟨c3,c4,rfl⟩,s3⟩
  obtain ⟨u,hu,rfl⟩:=fi hx
  obtain ⟨w',ew,rfl⟩:=eD hy'
  have mu:=xD hu
  obtain ⟨x',y',e3,x0,x1,y0,y1⟩:=W.rng u mu
  have gT:=ae hT (.tup [.ref u.1,.int w'])
  have eT:upd H3 T (.tup [.ref u.1,.int w']) T=some (.tup [.ref u.1,.int w']):=af
  generalize upd H3 T (.tup [.ref u.1,.int w'])=H4 at gT eT
  have s4:=s3.trans gT
  have hu4:=s4 _ _ (W.tup u mu)
  rw[e3] at hu4
  have tk:led (((ts.map (·.2)).zip ws).take (i+1)) p S=led (((ts.map (·.2)).zip ws).take i) p S+if x'=p/\y'∈S/\y'≠p then w' else 0:=by
   rw[ye,show ((ts.map (·.2)).zip ws)[i]? = some ([x',y'],w') from ?_]
   ·unfold led
    rw[jJ]
    congr 1
    show (if (decide (x'=p) && (decide (y'∈S) && decide (y'≠p)))=true then w' else 0)+0=_
    rw[Int.add_zero]
    congr 1
    rw[yO,yO,decide_eq_true_iff,decide_eq_true_iff,decide_eq_true_iff]
   ·rw[zh]
    exact ⟨by rw[xI,hu, <- e3];rfl,ew⟩
  refine ⟨T,_,rfl,SqT.of eT,rfl,_,_,rfl,_,_,rfl,rfl,?_⟩
  have ep4:=s4 _ _ ep
  have no:¬ (x'=p/\y'∈S/\y'≠p)->∃c3 c4,[some (V.ref r),some (.ref l),some (.int p),some (.ref pl),some (.int (led (((ts.map (·.2)).zip ws).take i) p S)),some (V.ref u.1),some (V.int w')]=[some (V.ref r),some (.ref l),some (.int p),some (.ref pl),some (.int (led (((ts.map (·.2)).zip ws).take (i+1)) p S)),c3,c4]:=λh=>by
   rw[tk,if_neg h,Int.add_zero];exact ⟨_,_,rfl⟩
  refine ⟨_,rfl,u.1,_,0,_,rfl,rfl,SqT.of hu4,rfl,_,rfl,rfl,_,rfl,cQ (λc1 =>?_) (λc1=>dO ⟨no λh=>c1 (decide_eq_true (by rw[h.1])),s4⟩)⟩
  refine ⟨_,rfl,u.1,_,1,_,rfl,rfl,SqT.of hu4,rfl,_,rfl,pl,_,rfl,.inr (SqT.of ep4),rfl,kU S,_,rfl,cQ (λc2 =>?_) (λc2=>dO ⟨no λh=>c2 ?_,s4⟩)⟩
  ·refine ⟨_,rfl,u.1,_,1,_,rfl,rfl,SqT.of hu4,rfl,_,rfl,rfl,_,rfl,cQ (λc3 =>?_) (λc3=>⟨no λh=>c3 ?_,s4⟩)⟩
   ·have c2:inV (.int y') (S.map V.int)=true:=c2
    rw[tV] at c2
    have hc:x'=p/\y'∈S/\y'≠p:=⟨V.int.inj (of_decide_eq_true c1),of_decide_eq_true c2,λe=>by rw[e] at c3;simp at c3⟩
    refine ⟨_,rfl,_,rfl,_,_,rfl,rfl,⟨some (.ref u.1),some (.int w'),?_⟩,s4⟩
    rw[tk,if_pos hc];rfl
   ·simp[h.2.2]
  ·show inV (.int y') (S.map V.int)=true
   rw[tV];exact decide_eq_true h.2.1
 ·rintro σ H3 ⟨⟨c3,c4,rfl⟩,s3⟩
  rw[xW (by rw[AA,xt];omega)]
  exact ⟨_,rfl,q H3 s3⟩
end
open PySem L2
def lpw (Z:List (List Int×Int)):List Int:=(Z.filter λe=>decide (e.1.getD 0 0=e.1.getD 1 0)).map (·.2)
theorem lZ:∀Z:List (List Int×Int),(lpw Z).sum=lp Z
 | []=>rfl
 | e :: t=>by
  have ih:=lZ t
  unfold lpw lp at *
  show _=(if decide (e.1.getD 0 0=e.1.getD 1 0)=true then e.2 else 0)+wsum _ t
  rw[BM]
  by_cases c:decide (e.1.getD 0 0=e.1.getD 1 0)=true
  ·rw[if_pos c,if_pos c,xR,zv,ih]
  ·rw[if_neg c,if_neg c,ih];omega
theorem mR:∀{a b:List (List Int×Int)},a.Perm b->(a.Pairwise λx y=>Srt.qLt y x=false)->(b.Pairwise λx y=>Srt.qLt y x=false)->a=b:=λ{a b} pm ha hb =>
 pm.eq_of_pairwise (λx y _ _ h1 h2=>Srt.hW _ _ h2 h1) ha hb
theorem ig {Z:List (List Int×Int)}{m:Nat}{Ls:List (List Int)}(z:Sz m Ls):(bp Z Ls).Perm (bp Z (sbs (rgI m))):=z.pm.map _
theorem Sz.all {m:Nat}{Ls:List (List Int)}(z:Sz m Ls):rgI m∈Ls:=z.mem.mpr ⟨ib m,λv hv=>cH.mp hv⟩
theorem mU {es:List (List Int×Int)}{S:List Int}{v:Int}{e:List Int×Int}(h:es.lookup S=some v):(es++[e]).lookup S=some v:=by
 induction es with
 | nil=>cases h
 | cons a t ih =>
  rw[CL,yx]
  rw[yx] at h
  cases c:S == a.1 with
  | true=>rw[c] at h;exact h
  | false=>rw[c] at h;exact ih h
theorem iS (es:List (List Int×Int)):(kvE es).length=es.length:=xt _
theorem kW {kvs:List (List Key×V)}{k:List Key}{v v':V}(h:fc kvs k=none):putK (kvs++[(k,v)]) k v'=kvs++[(k,v')]:=by
 unfold putK
 have a:((kvs++[(k,v)]).any λkv=>decide (kv.1=k))=true:=by rw[List.any_append];simp
 rw[if_pos a,xH]
 congr 1
 ·rw[show kvs=kvs.map id from (List.map_id _).symm,yt]
  refine Ah λe he =>?_
  show (if e.1=k then (e.1,v') else e)=e
  rw[if_neg λz =>?_]
  have:=qY h
  exact this (z ▸ y9 (f:=(·.1)) he)
 ·simp
theorem oP {es:List (List Int×Int)}{S:List Int}{v:Int}(h:es.lookup S=none)(v':Int):putK (kvE (es++[(S,v)])) (S.map Sum.inl) (V.int v')=kvE (es++[(S,v')]):=by
 have e:∀x,kvE (es++[(S,x)])=kvE es++[(S.map Sum.inl,V.int x)]:=λx=>by unfold kvE;rw[xH];rfl
 rw[e,e,kW]
 rw[bQ,h];rfl
theorem Sz.first {m:Nat}{Ls:List (List Int)}(z:Sz m Ls):∃t,Ls=[] :: t:=by
 have hm:([]:List Int)∈Ls:=z.mem.mpr ⟨List.Pairwise.nil,λv hv=>by cases hv⟩
 have so:=z.so
 cases Ls with
 | nil=>cases hm
 | cons a t =>
  have:a=[]:=by
   rcases yj.mp hm with h | h
   ·exact h.symm
   ·have:=(Aq.mp so).1 _ h
    exact AH.mp (Nat.le_zero.mp this)
  exact ⟨t,by rw[this]⟩
theorem wc {Z:List (List Int×Int)}{Ls:List (List Int)}(so:Ls.Pairwise λx y=>HT.lexLt y x=false):(bp Z Ls).Pairwise λx y=>Srt.qLt y x=false:=by
 unfold bp
 rw[yG]
 refine so.imp λ{x y} h =>?_
 unfold Srt.qLt
 by_cases c:y=x
 ·rw[if_pos c]
  exact decide_eq_false (by show ¬ LW Z y<LW Z x;rw[c];omega)
 ·rw[if_neg c];exact h
abbrev su:Sp:=λvs H Q _=>∃(r l:Addr) (m:Nat) (ts:List (Addr×List Int)) (ws:List Int),vs=[.ref r,.ref l]/\Ow H r (m:Int) ts/\m<=7/\ts.length<=200/\H l=some (.lst (ws.map V.int))/\ws.length=ts.length/\∀(l':Addr) (us:List (Addr×(Addr×List Int)×Int)) (H':Hp),az H H'->H' l'=some (.lst (us.map λu=>V.ref u.1))->fS H' us->(us.map aJ).Perm (bp ((ts.map (·.2)).zip ws) (sbs (rgI m)))->(us.map aJ).Pairwise (λx y=>Srt.qLt y x=false)->Q (.ref l') H'
@[irreducible] def oQ:Sp:=su
theorem ij {vs:List V}{H:Hp}{Q:VK}{E:XK}:oQ vs H Q E↔su vs H Q E:=by
 delta oQ
 exact Ai
section
variable  {P:xX}{w:yv}{K:xx}{mg:Str->Option xw}{base:Heap}{f T:Addr}{fd:yM}
theorem cW:aH ["web", "worths", "loops", "rows", "places", "some", "place", "others"] ["web", "worths"] (aq iL):=⟨rfl,rfl,rfl,by decide +kernel,rfl,by decide +kernel,by decide +kernel⟩
theorem fu:(["arrow", "worth"]:List Str).Nodup:=by decide +kernel
theorem fv:(["other", "place"]:List Str).Nodup:=by decide +kernel
theorem fw:(["places", "rows"]:List Str).Nodup:=by decide +kernel
theorem sv (F:Fun K "_law_table" "_law_table" iL f fd)(B:Blt mg)(cLSets:Cal P w K mg base 1 "_law_sets" ["many"] gS)(cLLed:Cal P w K mg base 1 "_law_led" ["web", "worths", "place", "places"] mQ)(C:Cst mg):bF P w K mg base CX0 2 f fd ["web", "worths"] oQ:=by
 refine F.ok cW (λvs H Q E h =>?_) (λcdv A outer s H vs Q E hr h =>?_)
 ·obtain ⟨_,_,_,_,_,rfl,_⟩:=ij.mp h
  rfl
 obtain ⟨r,l,m,ts,ws,rfl,W,m7,tl,el,lw,q⟩:=ij.mp h
 have hu:(eE CX0 P w K mg base ["web", "worths", "loops", "rows", "places", "some", "place", "others"] "_law_table" (aq iL) f cdv A outer s H E).nox.A.units+1<cLine:=iq hr
 refine ⟨_,(@ah _ _ _ _ _ (@au _ _ 2 _ _ _ _ cW.nd rfl (Or.inl rfl) (av (eZ hr.hd) rfl B.b_sum jD (@aa _ _ _ _ _ (bP ["arrow", "worth"] [none,none] rfl (iK false true rfl B.b_zip (@aa _ _ _ _ _ (@aE _ _ _ _ _ _ _ aK (pv 0) ai (λ_ _=>rfl)) (@aa _ _ _ _ _ (pv 1) ag rfl) rfl)) rfl (λ_ _ _ _ _=>(mz (K:=K) (i:=0) (j:=1) fu rfl rfl (Or.inl rfl) (Or.inl rfl))) (λ_ _ _ _ _=>(jg (aM eQ (@aE _ _ _ _ _ _ _ (dS (K:=K)) (pv 0) ai (λ_ _=>rfl)) (@aE _ _ _ _ _ _ _ (dS (K:=K)) (pv 0) ai (λ_ _=>rfl)) (aU _)))) (λ_ _ _ _ _=>(pv 1))) ag rfl)) rfl (by first | exact .inl rfl | exact .inr rfl | assumption))
  (@ah _ _ _ _ _ (@au _ _ 3 _ _ _ _ cW.nd rfl (Or.inr rfl) gy rfl (by first | exact .inl rfl | exact .inr rfl | assumption))
  (@ah _ _ _ _ _ (@bR _ _ _ _ _ _ _ _ yL rfl (@fC _ _ _ _ (gC rfl B.b_sorted rfl B.b_len cx (aD cLSets hr (by decide) rfl (@aa _ _ _ _ _ (@aE _ _ _ _ _ _ _ aK (pv 0) ai (λ_ _=>rfl)) ag rfl)))) (aB (i:=4) cW.nd rfl (Or.inl rfl))
   (@ah _ _ _ _ _ (fJ hu (pv 3) (pv 4) (pv 2) rfl)
   (@ah _ _ _ _ _ (@au _ _ 5 _ _ _ _ cW.nd rfl (Or.inl rfl) (@bJ _ _ _ _ ag) rfl (by first | exact .inl rfl | exact .inr rfl | assumption))
   (@ah _ _ _ _ _ (@bR _ _ _ _ _ _ _ _ yL rfl (@dt _ _ _ _ (pv 4)) (aB (i:=6) cW.nd rfl (Or.inr rfl))
    (@ah _ _ _ _ _ (@au _ _ 7 _ _ _ _ cW.nd rfl (Or.inl rfl) (aG bh rfl B.b_tuple bz (@aa _ _ _ _ _ (bP ["other", "place"] [none,some 6] rfl (@dt _ _ _ _ (pv 4)) rfl (λ_ _ _ _ _=>(aB (i:=0) fv rfl (Or.inl rfl))) (λ_ _ _ _ _=>(jg (aM qw (pv 0) (pv 1) (aU _)))) (λ_ _ _ _ _=>(pv 0))) ag rfl)) rfl (by first | exact .inl rfl | exact .inr rfl | assumption))
    (@ao _ _ _ (bZ (eC yz yX yY bW (pv 5) (@aa _ _ _ _ _ (@aF _ _ _ _ _ _ _ _ cf (cg hu (pv 3) (pv 7) (λ_ _=>rfl)) (aD cLLed hr (by decide) rfl (@aa _ _ _ _ _ (pv 0) (@aa _ _ _ _ _ (pv 1) (@aa _ _ _ _ _ (pv 6) (@aa _ _ _ _ _ (pv 4) ag rfl) rfl) rfl) rfl))) ag rfl))))) (λ_=>rfl))
   (@ao _ _ _ (@b8 _ _ _ _ _ _ _ _ (aM (ox hr) (pv 5) (@bJ _ _ _ _ ag) (aU _)) (@ao _ _ _ (fJ hu (pv 3) (pv 4) (av (hJ rfl) rfl B.b_min jC (@aa _ _ _ _ _ (pv 5) ag rfl)) rfl)) ba))))) (λ_=>rfl))
  (@ao _ _ _ (@aX _ _ _ _ (bP ["places", "rows"] [none,some 3] rfl (@fC _ _ _ _ (av (j6 hr.hd (hu8 hr)) rfl B.b_sorted cx (@aa _ _ _ _ _ (pv 3) ag rfl))) rfl (λ_ _ _ _ _=>(aB (i:=0) fw rfl (Or.inl rfl))) (λ_ _ _ _ _=>dQ) (λ_ _ _ _ _=>(@aY _ _ _ _ _ (@aa _ _ _ _ _ (pv 0) (@aa _ _ _ _ _ (cg hu (pv 1) (pv 0) (λ_ _=>rfl)) ag rfl) rfl))))))))),?_⟩
 obtain ⟨t,e1,e2⟩:=W.at'
 have lz:(ts.map λu=>V.ref u.1).length=ts.length:=xt _
 have lzw:(ws.map V.int).length=ts.length:=by rw[xt,lw]
 refine ⟨_,rfl,r,_,1,_,rfl,rfl,SqT.of e1,rfl,_,rfl,t,l,rfl,⟨_,SqT.of e2⟩,⟨_,SqL.of el⟩,uI (c:=false) (d:=true) (xs:=ts.map λu =>.ref u.1) (ys:=ws.map V.int) ts.length (by rw[lz];exact xC _) (by rw[lzw];exact xC _) (.inl lz.symm) (λi zs H'=>az H H'/\zs=(lpw (((ts.map (·.2)).zip ws).take i)).map V.int) (by decide) ⟨az.refl _,rfl⟩ (cU (by omega)) (λi zs H' _ k=>⟨SqT.of (k.1 _ _ e2),SqL.of (k.1 _ _ el)⟩) ?_ ?_⟩
 ·rintro i x y zs H3 T hx hy' hz hT ⟨s3,rfl⟩ R1 R0 r1 r0
  obtain ⟨u,hu,rfl⟩:=fi hx
  obtain ⟨w',ew,rfl⟩:=eD hy'
  have mu:=xD hu
  obtain ⟨x',y',e3,x0,x1,y0,y1⟩:=W.rng u mu
  have gT:=ae hT (.tup [.ref u.1,.int w'])
  generalize upd H3 T (.tup [.ref u.1,.int w'])=H4 at gT
  have s4:=s3.trans gT
  have hu4:=s4 _ _ (W.tup u mu)
  rw[e3] at hu4
  have tk:lpw (((ts.map (·.2)).zip ws).take (i+1))=lpw (((ts.map (·.2)).zip ws).take i)++if x'=y' then [w'] else []:=by
   rw[ye,show ((ts.map (·.2)).zip ws)[i]? = some ([x',y'],w') from ?_]
   ·unfold lpw
    rw[AQ,xH]
    congr 1
    show List.map _ (List.filter _ [([x',y'],w')])=_
    rw[BM]
    by_cases d:x'=y'
    ·rw[if_pos (by exact decide_eq_true d),if_pos d];rfl
    ·rw[if_neg (by intro z;exact d (of_decide_eq_true z)),if_neg d];rfl
   ·rw[zh]
    exact ⟨by rw[xI,hu, <- e3];rfl,ew⟩
  refine ⟨_,rfl,u.1,_,0,_,rfl,rfl,SqT.of hu4,rfl,_,rfl,u.1,_,1,_,rfl,rfl,SqT.of hu4,rfl,rfl,_,rfl,cQ (λd=>⟨_,rfl,r1 _ _ ⟨s4,?_⟩⟩) (λd=>r0 _ ⟨s4,?_⟩)⟩
  ·rw[tk,if_pos (V.int.inj (of_decide_eq_true d)),xH];rfl
  ·rw[tk,if_neg (λz=>d (decide_eq_true (by rw[z]))),yC]
 rintro zs H3 hz ⟨s3,rfl⟩ l3 hl3
 rw[xW (by rw[AA,xt];omega)]
 have gA:=s3.trans (ae hl3 (.lst ((lpw ((ts.map (·.2)).zip ws)).map V.int)))
 refine ⟨l3,_,rfl,af,?_⟩
 rw[lZ]
 generalize upd H3 l3 (.lst ((lpw ((ts.map (·.2)).zip ws)).map V.int))=HA at gA
 generalize hZ:(ts.map (·.2)).zip ws=Z at q
 refine λdd hdd =>?_
 have hdd0:=gA.free hdd
 have g0:=gA.trans (ae hdd (.dT []))
 have e0:upd HA dd (.dT []) dd=some (.dT []):=af
 generalize upd HA dd (.dT [])=H0 at g0 e0
 refine ⟨_,rfl,r,_,0,_,rfl,rfl,SqT.of (g0 _ _ e1),rfl,dk.mpr ⟨m,rfl,m7,λl1 us1 H1 s1 el1 tu1 em=>⟨l1,us1,rfl,.inl (SqL.of el1),λt ht=>SqT.of (tu1 t ht),λl2 us hl2 pm so =>?_⟩⟩⟩
 have z:Sz m (us.map (·.2)):=⟨em ▸ pm.map (·.2),yG.mpr so⟩
 have g2:=ae hl2 (.lst (us.map λu=>V.ref u.1))
 have el2:upd H1 l2 (.lst (us.map λu=>V.ref u.1)) l2=some (.lst (us.map λu=>V.ref u.1)):=af
 have nl:l2≠dd:=λh=>by
  rw[h,s1 _ _ e0] at hl2;cases hl2
 generalize upd H1 l2 (.lst (us.map λu=>V.ref u.1))=H2 at g2 el2
 have tu:∀u∈us,H2 u.1=some (.tup (u.2.map V.int)):=λu hu=>g2 _ _ (tu1 u (pm.mem_iff.mp hu))
 have s02:=s1.trans g2
 have ed2:=s02 _ _ e0
 have gH2:=g0.trans s02
 have nus:∀u∈us,u.1≠dd:=λu hu h=>by
  have:=tu u hu
  rw[h,ed2] at this;cases this
 have lus:us.length<=128:=by
  have:=z.len
  rw[xt] at this
  have:2 ^ m<=2 ^ 7:=z9 (by decide) m7
  omega
 have sam:∀{H':Hp},Sb H2 dd H'->az H H':=λsb a o e=>sb a o (gH2 _ _ e) (aj e hdd0)
 refine ⟨l2,rfl,⟨_,SqL.of el2⟩,i7 (xs:=us.map λu =>.ref u.1) (λi σ H'=>(∃c4 c5 c6 c7,σ=[some (.ref r),some (.ref l),some (.int (lp Z)),some (.ref dd),c4,c5,c6,c7])/\Sb H2 dd H'/\H' dd=some (.dT (kvE (bp Z ((us.map (·.2)).take i))))) ⟨⟨_,_,_,_,rfl⟩,λa o e _=>e,ed2⟩ (λi σ H' _ k=>SqL.of (k.2.1 _ _ el2 nl)) ?_ ?_⟩
 ·rintro i x σ H4 hx ⟨⟨c4,c5,c6,c7,rfl⟩,sb,ed⟩
  obtain ⟨u,eu,rfl⟩:=fi hx
  have mu:=xD eu
  have eS:(us.map (·.2))[i]? = some u.2:=by rw[xI,eu];rfl
  have mS:=xD eS
  obtain ⟨sS,rS⟩:=z.mem.mp mS
  have lS:=z.v7 mS
  have ndS:=cT sS
  have epl:=sb _ _ (tu u mu) (nus u mu)
  have eS':(us.map (·.2)).take (i+1)=(us.map (·.2)).take i++[u.2]:=by rw[ye,eS];rfl
  have no:(bp Z ((us.map (·.2)).take i)).lookup u.2=none:=iO (z.new eS)
  have lk:∀p∈u.2,(bp Z ((us.map (·.2)).take i)).lookup (wo u.2 p)=some (LW Z (wo u.2 p)):=λp hp=>cI (z.early eS hp)
  have lt:(bp Z ((us.map (·.2)).take i)).length<=128:=by unfold bp;rw[xt,yw,xt];omega
  generalize hE:bp Z ((us.map (·.2)).take i)=es at ed no lk lt
  have key:∀{Hx:Hp},Hx u.1=some (.tup (u.2.map V.int))->Hx u.1=some (.tup ((u.2.map (Sum.inl:Int->Key)).map kV)):=λh=>by rw[yt];exact h
  have nu:=nus u mu
  refine ⟨_,rfl,_,rfl,_,rfl,dd,_,rfl,gZ.t ed (k:=u.2.map (Sum.inl:Int->Key)) (key epl) (by rw[iS];exact cA (by omega)),?_⟩
  rw[lU no]
  have sb5:=sb.set (.dT (kvE (es++[(u.2,lp Z)])))
  have ed5:upd H4 dd (.dT (kvE (es++[(u.2,lp Z)]))) dd=some (.dT (kvE (es++[(u.2,lp Z)]))):=af
  generalize upd H4 dd (.dT (kvE (es++[(u.2,lp Z)])))=H5 at sb5 ed5
  refine ⟨(by show 0<=xG;decide),λsl hsl =>?_⟩
  have gs:=ae hsl (.lst [])
  have esl:upd H5 sl (.lst []) sl=some (.lst []):=af
  generalize upd H5 sl (.lst [])=H6 at gs esl
  have ep5:=sb5 _ _ (tu u mu) nu
  have npl:u.1≠sl:=aj ep5 hsl
  have nds:dd≠sl:=aj ed5 hsl
  generalize hG:(λp=>LW Z (wo u.2 p)+led Z p u.2)=G
  refine ⟨_,rfl,u.1,rfl,⟨_,SqT.of (gs _ _ ep5)⟩,iH (xs:=u.2.map V.int) (λi σ H'=>(∃c6 c7,σ=[some (.ref r),some (.ref l),some (.int (lp Z)),some (.ref dd),some (.ref u.1),some (.ref sl),c6,c7])/\Sb H5 sl H'/\H' sl=some (.lst (((u.2.take i).map G).map V.int))) ⟨⟨_,_,rfl⟩,λa o e _=>gs _ _ e,esl⟩ (λi σ H' _ k=>SqT.of (k.2.1 _ _ ep5 npl)) ?_ ?_⟩
  ·rintro k x σ H7 hx ⟨⟨c6,c7,rfl⟩,sb7,es7⟩
   obtain ⟨v,ev,rfl⟩:=eD hx
   have mv:=xD ev
   have ep7:=sb7 _ _ ep5 npl
   refine ⟨_,rfl,u.1,rfl,⟨_,SqT.of ep7⟩,cw (xs:=u.2.map V.int) (λk zs H'=>H'=H7/\zs=((u.2.take k).filter λx=>decide (x≠v)).map V.int) ⟨rfl,rfl⟩ (by rw[xt];exact small (by omega)) (λk zs H' _ h=>by rw[h.1];exact SqT.of ep7) ?_ ?_⟩
   ·rintro k y zs H' hy hyz ⟨rfl,rfl⟩ R1 R0 r1 r0
    obtain ⟨j,ek,rfl⟩:=eD hy
    refine ⟨_,rfl,_,rfl,rfl,_,rfl,?_⟩
    have e:(!decide (V.int j=V.int v))=decide (j≠v):=by
     by_cases c:j=v
     ·subst c;simp
     ·simp[c]
    rw[e]
    refine cQ (λz=>⟨_,rfl,r1 _ _ ⟨rfl,?_⟩⟩) (λz=>r0 _ ⟨rfl,?_⟩)
    ·rw[oF ek,if_pos z]
    ·rw[oF ek,if_neg z,yC]
   ·rintro zs H' hyz ⟨rfl,rfl⟩ l4 hl4
    rw[xt,gu]
    refine ⟨l4,_,rfl,.inl ⟨SqL.of af,λt4 ht4 =>?_⟩⟩
    have g4:=(ae hl4 (.lst ((u.2.filter λx=>decide (x≠v)).map V.int))).trans (ae ht4 (.tup ((u.2.filter λx=>decide (x≠v)).map V.int)))
    have et4:upd (upd H' l4 (.lst ((u.2.filter λx=>decide (x≠v)).map V.int))) t4 (.tup ((u.2.filter λx=>decide (x≠v)).map V.int)) t4=some (.tup (((wo u.2 v).map (Sum.inl:Int->Key)).map kV)):=by rw[af,yt];rfl
    generalize upd (upd H' l4 (.lst ((u.2.filter λx=>decide (x≠v)).map V.int))) t4 (.tup ((u.2.filter λx=>decide (x≠v)).map V.int))=H8 at g4 et4
    have s58:az H5 H8:=λa o e=>g4 _ _ (sb7 a o e (aj e hsl))
    have s08:az H H8:=λa o e=>s58 _ _ (sam sb5 _ _ e)
    refine ⟨_,rfl,.inl ⟨rfl,_,SqL.of (g4 _ _ es7)⟩,_,rfl,_,rfl,dd,.int (LW Z (wo u.2 v)),rfl,by have:=fR.t (s58 _ _ ed5) et4;rw[bQ,mU (lk v mv)] at this;exact this,_,rfl,_,rfl,_,rfl,_,rfl,fO.mpr ⟨r,l,u.1,m,ts,ws,v,u.2,rfl,W.same s08,s08 _ _ el,lw,s58 _ _ ep5,λH9 s9=>⟨_,_,rfl,rfl,sl,_,_,rfl,rfl,s9 _ _ (g4 _ _ es7),?_,⟨_,_,rfl⟩,?_,?_⟩⟩⟩
    ·rw[xt,xt,yw];exact cA (by omega)
    ·exact (sb7.trans (g4.trans s9)).set _
    ·rw[af,ye,ev,xH,xH, <- hG,hZ];rfl
  ·rintro σ H7 ⟨⟨c6,c7,rfl⟩,sb7,es7⟩
   rw[xt,xW (xC _)] at es7
   refine ⟨_,rfl,(by show 0<=xG;decide),λll hll =>?_⟩
   have gl:=ae hll (.lst [])
   have ell:upd H7 ll (.lst []) ll=some (.lst (([]:List Int).map V.int)):=af
   generalize upd H7 ll (.lst [])=H8 at gl ell
   have s58:az H5 H8:=λa o e=>gl _ _ (sb7 a o e (aj e hsl))
   refine ⟨sl,ll,_,_,rfl,rfl,SqL.of (gl _ _ es7),SqL.of ell,_,rfl,?_⟩
   have fin:∀{w:Int} {H':Hp},LW Z u.2=w->es++[(u.2,w)]=bp Z ((us.map (·.2)).take (i+1)):=λ{w H'} e=>by rw[eS', <- hE, <- e];unfold bp;rw[xH];rfl
   by_cases c:u.2=[]
   ·rw[decide_eq_true (by rw[c];rfl)]
    refine dO ⟨⟨_,_,_,_,rfl⟩,sb5.trans s58,?_⟩
    rw[s58 _ _ ed5,fin (H':=H8) (by rw[c];rfl)]
   rw[decide_eq_false (λe=>c (Ag.mp e))]
   refine eV ⟨_,rfl,sl,_,rfl,SqL.of (gl _ _ es7),λe=>c (Ag.mp e),λM m1 m2 =>?_⟩
   rw[iP m1 m2]
   have eL:LW Z u.2=mnL (u.2.map G):=by rw[<- hG];exact iQ Z ndS c
   refine ⟨_,rfl,_,rfl,dd,_,rfl,gZ.t (s58 _ _ ed5) (k:=u.2.map (Sum.inl:Int->Key)) (key (s58 _ _ ep5)) (by rw[iS,xM];exact cA (by show _+1<=_;omega)),⟨_,_,_,_,rfl⟩,(sb5.trans s58).set _,?_⟩
   rw[af,oP no,fin (H':=H8) eL]
 rintro σ H4 ⟨⟨c4,c5,c6,c7,rfl⟩,sb,ed⟩
 rw[xt,xW (by rw[xt];exact xC _)] at ed
 have sH:=sam sb
 obtain ⟨Lt,eLt⟩:=z.first
 have edk:=ed
 rw[eLt] at edk
 refine ⟨_,rfl,dd,LW Z [],bp Z Lt,rfl,edk,λl5 out hl5 ho pmk so5 =>?_⟩
 have keys:(([],LW Z []) :: bp Z Lt).map (·.1)=us.map (·.2):=by
  rw[eLt,xR]
  unfold bp
  rw[yt]
  congr 1
  exact List.map_id' _
 rw[keys] at pmk
 have g5:=ae hl5 (.lst (out.map λo=>V.ref o.1))
 have e5:upd H4 l5 (.lst (out.map λo=>V.ref o.1)) l5=some (.lst (out.map λo=>V.ref o.1)):=af
 generalize upd H4 l5 (.lst (out.map λo=>V.ref o.1))=H5 at g5 e5
 have lo:out.length<=128:=by
  have:=pmk.length_eq
  rw[xt,xt] at this
  omega
 refine ⟨l5,rfl,⟨_,SqL.of e5⟩,dR (xs:=out.map λo =>.ref o.1) (λi ys H'=>az H5 H'/\∃vs:List (Addr×(Addr×List Int)×Int),ys=vs.map (λu=>V.ref u.1)/\fS H' vs/\vs.map aJ=bp Z ((out.map (·.2)).take i)) ⟨az.refl _,[],rfl,λu hu=>(by cases hu),rfl⟩ (by rw[xt];exact small (by omega)) (λi ys H' _ k=>SqL.of (k.1 _ _ e5)) ?_ ?_⟩
 ·rintro i x ys H6 hx hy ⟨s6,vs,rfl,en,ev⟩ R1 R0 r1 r0
  obtain ⟨o,eo,rfl⟩:=fi hx
  have mo:=xD eo
  have eo6:=s6 _ _ (g5 _ _ (ho o mo))
  have lk:(bp Z (us.map (·.2))).lookup o.2=some (LW Z o.2):=cI (pmk.mem_iff.mp (y9 (f:=(·.2)) mo))
  refine eV ⟨_,rfl,_,rfl,_,rfl,dd,.int (LW Z o.2),rfl,by have:=fR.t (s6 _ _ (g5 _ _ ed)) (k:=o.2.map (Sum.inl:Int->Key)) (b:=o.1) (by rw[yt];exact eo6);rw[bQ,lk] at this;exact this,(by show 2<=xG;decide),λtq htq=>r1 _ _ ⟨s6.trans (ae htq _),vs++[(tq,(o.1,o.2),LW Z o.2)],by rw[xH];rfl,λu hu =>?_,?_⟩⟩
  ·rcases xS.mp hu with y | y
   ·exact ⟨(ae htq _) _ _ (en u y).1,(ae htq _) _ _ (en u y).2⟩
   ·have:u=(tq,(o.1,o.2),LW Z o.2):=by simpa using y
    subst this
    exact ⟨af,(ae htq _) _ _ eo6⟩
  ·rw[xH,ev,ye,xI,eo]
   unfold bp
   rw[xH];rfl
 ·rintro ys H6 hy ⟨s6,vs,rfl,en,ev⟩ l7 hl7
  rw[xt,xW (by rw[xt];exact xC _)] at ev
  have g7:=ae hl7 (.lst (vs.map λu=>V.ref u.1))
  refine q l7 vs _ (sH.trans (g5.trans (s6.trans g7))) af (λu hu=>⟨g7 _ _ (en u hu).1,g7 _ _ (en u hu).2⟩) ?_ ?_
  ·rw[ev]
   exact (pmk.map _).trans (ig z)
  ·rw[ev]
   exact wc so5
end
open PySem L2
def kvR (fs:List (List Int×Addr)):List (List Key×V):=fs.map λe=>(e.1.map Sum.inl,V.ref e.2)
theorem gU (S:List Int):∀fs:List (List Int×Addr),fc (kvR fs) (S.map Sum.inl)=(fs.lookup S).map V.ref
 | []=>rfl
 | e :: t=>by
  rw[yx]
  by_cases c:S=e.1
  ·rw[show (S == e.1)=true by simpa using c]
   exact fe (by show e.1.map Sum.inl=_;rw[c])
  ·rw[show (S == e.1)=false by simpa using c, <- gU S t]
   exact fg λz=>c (oH z).symm
theorem um {fs:List (List Int×Addr)}{S:List Int}(h:fs.lookup S=none)(a:Addr):putK (kvR fs) (S.map Sum.inl) (V.ref a)=kvR (fs++[(S,a)]):=by
 rw[mB _ (by rw[gU,h];rfl)]
 unfold kvR
 rw[xH];rfl
theorem uo {fs:List (List Int×Addr)}{S:List Int}{a:Addr}(h:fs.lookup S=none)(b:Addr):putK (kvR (fs++[(S,a)])) (S.map Sum.inl) (V.ref b)=kvR (fs++[(S,b)]):=by
 have e:∀x,kvR (fs++[(S,x)])=kvR fs++[(S.map Sum.inl,V.ref x)]:=λx=>by unfold kvR;rw[xH];rfl
 rw[e,e,kW]
 rw[gU,h];rfl
theorem qf {fs:List (List Int×Addr)}{S:List Int}{v:Addr}{e:List Int×Addr}(h:fs.lookup S=some v):(fs++[e]).lookup S=some v:=by
 induction fs with
 | nil=>cases h
 | cons a t ih =>
  rw[CL,yx]
  rw[yx] at h
  cases c:S == a.1 with
  | true=>rw[c] at h;exact h
  | false=>rw[c] at h;exact ih h
theorem mV {fs:List (List Int×Addr)}{S:List Int}(h:S∈fs.map (·.1)):∃a,fs.lookup S=some a/\(S,a)∈fs:=by
 induction fs with
 | nil=>cases h
 | cons e t ih =>
  rw[yx]
  by_cases c:S=e.1
  ·rw[show (S == e.1)=true by simpa using c]
   exact ⟨e.2,rfl,by rw[c];exact xT⟩
  ·rw[show (S == e.1)=false by simpa using c]
   rcases yj.mp (show S∈e.1 :: t.map (·.1) from h) with z | z
   ·exact absurd z c
   ·obtain ⟨a,e1,e2⟩:=ih z
    exact ⟨a,e1,xO _ e2⟩
theorem sA {fs:List (List Int×Addr)}{S:List Int}(h:S∉fs.map (·.1)):fs.lookup S=none:=by
 induction fs with
 | nil=>rfl
 | cons e t ih =>
  have h':S∉e.1 :: t.map (·.1):=h
  have ne:S≠e.1:=λz=>h' (by rw[z];exact xT)
  rw[yx,show (S == e.1)=false by simpa using ne]
  exact ih λz=>h' (xO _ z)
theorem oR (fs:List (List Int×Addr)):(kvR fs).length=fs.length:=xt _
structure Sg (m:Nat)(Ls:List (List Int)):Prop where
 pm:Ls.Perm (sbs (rgI m))
 so:Ls.Pairwise λx y=>y.length<=x.length
theorem Sg.mem {m:Nat}{Ls:List (List Int)}(z:Sg m Ls){S:List Int}:S∈Ls↔SS S/\∀v∈S,0<=v/\v<m:=by
 rw[z.pm.mem_iff,lP (ib m)]
 exact and_congr_right λ_=>⟨λh v hv=>cH.mp (h v hv),λh v hv=>cH.mpr (h v hv)⟩
theorem Sg.nd {m:Nat}{Ls:List (List Int)}(z:Sg m Ls):Ls.Nodup:=z.pm.nodup_iff.mpr (rV (ib m))
theorem Sg.new {m:Nat}{Ls:List (List Int)}(z:Sg m Ls){i:Nat}{S:List Int}(e:Ls[i]? = some S):S∉Ls.take i:=λh=>by
 obtain ⟨j,hj⟩:=z0 h
 have h1:=bH hj
 rw[yw] at h1
 rw[zx (by omega)] at hj
 have:=(BB (bH hj) z.nd).mp (hj.trans e.symm)
 omega
theorem Sg.early {m:Nat}{Ls:List (List Int)}(z:Sg m Ls){i:Nat}{S T:List Int}(e:Ls[i]? = some S)(hT:T∈Ls)(l:S.length<T.length):T∈Ls.take i:=by
 obtain ⟨j,hj⟩:=z0 hT
 have lj:=bH hj
 have li:=bH e
 by_cases c:j<i
 ·refine xD (i:=j) ?_
  rw[zx c];exact hj
 ·exfalso
  by_cases d:j=i
  ·subst d
   rw[hj] at e
   rw[ym e] at l;omega
  ·have:=Aw.mp z.so i j li lj (by omega)
   rw[(xB.mp e).2,(xB.mp hj).2] at this
   omega
def j9 (Z:List (List Int×Int))(m:Nat)(Ls:List (List Int)):List (List Int×Int):=Ls.map λS=>(S,lft Z m S)
structure Fs (Z:List (List Int×Int))(m:Nat)(H:Hp)(Ls:List (List Int))(fs:List (List Int×Addr)):Prop where
 key:fs.map (·.1)=Ls
 row:∀e∈fs,H e.2=some (.lst ((fo Z (cm m e.1)).map V.int))
theorem Fs.to {Z:List (List Int×Int)}{m:Nat}{H H':Hp}{Ls:List (List Int)}{fs:List (List Int×Addr)}(f:Fs Z m H Ls fs)(s:∀e∈fs,H e.2=some (.lst ((fo Z (cm m e.1)).map V.int))->H' e.2=some (.lst ((fo Z (cm m e.1)).map V.int))):Fs Z m H' Ls fs:=⟨f.key,λe he=>s e he (f.row e he)⟩
theorem Fs.same {Z:List (List Int×Int)}{m:Nat}{H H':Hp}{Ls:List (List Int)}{fs:List (List Int×Addr)}(f:Fs Z m H Ls fs)(s:az H H'):Fs Z m H' Ls fs:=f.to λe _ h=>s _ _ h
theorem Fs.dct {Z:List (List Int×Int)}{m:Nat}{H:Hp}{Ls:List (List Int)}{fs:List (List Int×Addr)}(f:Fs Z m H Ls fs){d:Addr}{kv:List (List Key×V)}(h:H d=some (.dT kv))(o:HO):Fs Z m (upd H d o) Ls fs:=f.to λe _ h'=>by rw[ak (dA h' h (by intro z;cases z))];exact h'
theorem ur {a b:MnW.Wt}:MnW.ord a b=false↔b.w<a.w\/(b.w=a.w/\b.h<=a.h):=by
 unfold MnW.ord
 rw[HT.bb,HT.bb]
 by_cases c:a.w=b.w
 ·rw[if_pos c]
  by_cases d:a.h=b.h
  ·rw[if_pos d,HT.fU]
   exact ⟨λ_ =>.inr ⟨c.symm,by omega⟩,λ_=>rfl⟩
  ·rw[if_neg d,decide_eq_false_iff_not]
   omega
 ·rw[if_neg c,decide_eq_false_iff_not]
  omega
theorem qg {S out:List Int}{p:Int}(sS:SS S)(hp:p∉S)(pm:out.Perm (S++[p]))(so:out.Pairwise (· <= ·)):SS out:=by
 have nd:out.Nodup:=pm.nodup_iff.mpr (Cy.mpr ⟨cT sS,by simp,λa ha b hb z=>hp (by rw[<- (show b=p by simpa using hb), <- z];exact ha)⟩)
 exact (ER so nd).imp λ{a b} h=>by omega
open PySem L2
abbrev sD:Sp:=λvs H Q _=>∃(r l:Addr) (m:Nat) (ts:List (Addr×List Int)) (ws:List Int),vs=[.ref r,.ref l]/\Ow H r (m:Int) ts/\m<=7/\ts.length<=200/\H l=some (.lst (ws.map V.int))/\ws.length=ts.length/\∀(p l':Addr) (H':Hp),az H H'->H' p=some (.tup [.int (LW ((ts.map (·.2)).zip ws) (rgI m)),.ref l'])->H' l'=some (.lst ((fo ((ts.map (·.2)).zip ws) (rgI m)).map V.int))->Q (.ref p) H'
@[irreducible] def oS:Sp:=sD
theorem ik {vs:List V}{H:Hp}{Q:VK}{E:XK}:oS vs H Q E↔sD vs H Q E:=by
 delta oS
 exact Ai
section
variable  {P:xX}{w:yv}{K:xx}{mg:Str->Option xw}{base:Heap}{f T:Addr}{fd:yM}
theorem cu:aH ["web", "worths", "left", "firsts", "places", "some", "place", "longer", "weight", "loops"] ["web", "worths"] (aq iM):=⟨rfl,rfl,rfl,by decide +kernel,rfl,by decide +kernel,by decide +kernel⟩
theorem fz:(["arrow", "worth"]:List Str).Nodup:=by decide +kernel
theorem sE (F:Fun K "_law_first" "_law_first" iM f fd)(B:Blt mg)(cLSets:Cal P w K mg base 1 "_law_sets" ["many"] gS)(cLLed:Cal P w K mg base 1 "_law_led" ["web", "worths", "place", "places"] mQ)(C:Cst mg):bF P w K mg base CX0 2 f fd ["web", "worths"] oS:=by
 refine F.ok cu (λvs H Q E h =>?_) (λcdv A outer s H vs Q E hr h =>?_)
 ·obtain ⟨_,_,_,_,_,rfl,_⟩:=ik.mp h
  rfl
 obtain ⟨r,l,m,ts,ws,rfl,W,m7,tl,el,lw,q⟩:=ik.mp h
 have hu:(eE CX0 P w K mg base ["web", "worths", "left", "firsts", "places", "some", "place", "longer", "weight", "loops"] "_law_first" (aq iM) f cdv A outer s H E).nox.A.units+1<cLine:=iq hr
 refine ⟨_,(@ah _ _ _ _ _ (@au _ _ 2 _ _ _ _ cu.nd rfl (Or.inl rfl) gy rfl (by first | exact .inl rfl | exact .inr rfl | assumption))
  (@ah _ _ _ _ _ (@au _ _ 3 _ _ _ _ cu.nd rfl (Or.inl rfl) gy rfl (by first | exact .inl rfl | exact .inr rfl | assumption))
  (@ah _ _ _ _ _ (@bR _ _ _ _ _ _ _ _ yL rfl (@fC _ _ _ _ (j4 rfl B.b_sorted rfl B.b_len cx (aD cLSets hr (by decide) rfl (@aa _ _ _ _ _ (@aE _ _ _ _ _ _ _ aK (pv 0) ai (λ_ _=>rfl)) ag rfl)))) (aB (i:=4) cu.nd rfl (Or.inl rfl))
   (@ah _ _ _ _ _ (fJ hu (pv 2) (pv 4) ai rfl)
   (@ah _ _ _ _ _ (fJ hu (pv 3) (pv 4) (@bJ _ _ _ _ ag) rfl)
   (@ah _ _ _ _ _ (@au _ _ 5 _ _ _ _ cu.nd rfl (Or.inl rfl) (@bJ _ _ _ _ ag) rfl (by first | exact .inl rfl | exact .inr rfl | assumption))
   (@ah _ _ _ _ _ (@bR _ _ _ _ _ _ _ _ yL rfl (bV rfl B.b_range (@aa _ _ _ _ _ (@aE _ _ _ _ _ _ _ aK (pv 0) ai (λ_ _=>rfl)) ag rfl)) (aB (i:=6) cu.nd rfl (Or.inl rfl))
    (@ao _ _ _ (@b8 _ _ _ _ _ _ _ _ (aM lA (pv 6) (pv 4) rfl) (@ah _ _ _ _ _ (@au _ _ 7 _ _ _ _ cu.nd rfl (Or.inl rfl) (aG bh rfl B.b_tuple bz (@aa _ _ _ _ _ (av lF rfl B.b_sorted cx (@aa _ _ _ _ _ (@aF _ _ _ _ _ _ _ _ rm (pv 4) (@aY _ _ _ _ _ (@aa _ _ _ _ _ (pv 6) ag rfl))) ag rfl)) ag rfl)) rfl (by first | exact .inl rfl | exact .inr rfl | assumption))
     (@ah _ _ _ _ _ (@au _ _ 8 _ _ _ _ cu.nd rfl (Or.inl rfl) (@aF _ _ _ _ _ _ _ _ cf (aD cLLed hr (by decide) rfl (@aa _ _ _ _ _ (pv 0) (@aa _ _ _ _ _ (pv 1) (@aa _ _ _ _ _ (pv 6) (@aa _ _ _ _ _ (pv 4) ag rfl) rfl) rfl) rfl)) (cg hu (pv 2) (pv 7) (λ_ _=>rfl))) rfl (by first | exact .inl rfl | exact .inr rfl | assumption))
     (@ao _ _ _ (bZ (eC yz yX yY bW (pv 5) (@aa _ _ _ _ _ (@aY _ _ _ _ _ (@aa _ _ _ _ _ (pv 8) (@aa _ _ _ _ _ (@aF _ _ _ _ _ _ _ _ lB (@bJ _ _ _ _ (@aa _ _ _ _ _ (pv 6) ag rfl)) (cg hu (pv 3) (pv 7) (λ_ _=>rfl))) ag rfl) rfl)) ag rfl)))))) ba)) (λ_=>rfl))
   (@ao _ _ _ (@b8 _ _ _ _ _ _ _ _ (aM (vV hr) (pv 5) (@bJ _ _ _ _ ag) (aU _)) (@ao _ _ _ (@i5 _ _ _ _ _ _ (av (qa rfl (hu8 hr)) rfl B.b_min jC (@aa _ _ _ _ _ (pv 5) ag rfl)) (i0 rfl (bM (i4 (pv 2) (pv 4) (set_dict hu)) (bM (i4 (pv 3) (pv 4) (set_dict hu)) gh))) rfl rfl rfl)) ba)))))) (λ_=>rfl))
  (@ah _ _ _ _ _ (@au _ _ 9 _ _ _ _ cu.nd rfl (Or.inl rfl) (av (eZ hr.hd) rfl B.b_sum jD (@aa _ _ _ _ _ (bP ["arrow", "worth"] [none,none] rfl (iK false true rfl B.b_zip (@aa _ _ _ _ _ (@aE _ _ _ _ _ _ _ aK (pv 0) ai (λ_ _=>rfl)) (@aa _ _ _ _ _ (pv 1) ag rfl) rfl)) rfl (λ_ _ _ _ _=>(mz (K:=K) (i:=0) (j:=1) fz rfl rfl (Or.inl rfl) (Or.inl rfl))) (λ_ _ _ _ _=>(jg (aM eQ (@aE _ _ _ _ _ _ _ (dS (K:=K)) (pv 0) ai (λ_ _=>rfl)) (@aE _ _ _ _ _ _ _ (dS (K:=K)) (pv 0) ai (λ_ _=>rfl)) (aU _)))) (λ_ _ _ _ _=>(pv 1))) ag rfl)) rfl (by first | exact .inl rfl | exact .inr rfl | assumption))
  (@ao _ _ _ (@aX _ _ _ _ (@aY _ _ _ _ _ (@aa _ _ _ _ _ (@aF _ _ _ _ _ _ _ _ cf (cg hu (pv 2) (@aY _ _ _ _ _ ag) (λ_ _=>rfl)) (pv 9)) (@aa _ _ _ _ _ (cg hu (pv 3) (@aY _ _ _ _ _ ag) (λ_ _=>rfl)) ag rfl) rfl)))))))),?_⟩
 obtain ⟨t,e1,e2⟩:=W.at'
 have lz:(ts.map λu=>V.ref u.1).length=ts.length:=xt _
 have lzw:(ws.map V.int).length=ts.length:=by rw[xt,lw]
 have pr:∀e∈(ts.map (·.2)).zip ws,∃a b:Int,e.1=[a,b]:=λe he=>by
  obtain ⟨u,hu,z⟩:=yS.mp (AS (show (e.1,e.2)∈_ from he)).1
  obtain ⟨x,y,e3,_⟩:=W.rng u hu
  exact ⟨x,y,by rw[<- z,e3]⟩
 refine λld hld =>?_
 have gA:=ae hld (.dT [])
 have eA:upd H ld (.dT []) ld=some (.dT []):=af
 generalize upd H ld (.dT [])=HA at gA eA
 refine λfd hfd =>?_
 have hfd0:=gA.free hfd
 have nlf:ld≠fd:=aj eA hfd
 have g0:=gA.trans (ae hfd (.dT []))
 have eA0:=(ae hfd (.dT [])) _ _ eA
 have eF0:upd HA fd (.dT []) fd=some (.dT []):=af
 generalize upd HA fd (.dT [])=H0 at g0 eA0 eF0
 refine ⟨_,rfl,r,_,0,_,rfl,rfl,SqT.of (g0 _ _ e1),rfl,dk.mpr ⟨m,rfl,m7,λl1 us1 H1 s1 el1 tu1 em=>⟨l1,us1,rfl,.inl (SqL.of el1),λt ht=>SqT.of (tu1 t ht),λl2 us hl2 pm so =>?_⟩⟩⟩
 have z:Sg m (us.map (·.2)):=⟨em ▸ pm.map (·.2),yG.mpr so⟩
 have g2:=ae hl2 (.lst (us.map λu=>V.ref u.1))
 have el2:upd H1 l2 (.lst (us.map λu=>V.ref u.1)) l2=some (.lst (us.map λu=>V.ref u.1)):=af
 generalize upd H1 l2 (.lst (us.map λu=>V.ref u.1))=H2 at g2 el2
 have tu:∀u∈us,H2 u.1=some (.tup (u.2.map V.int)):=λu hu=>g2 _ _ (tu1 u (pm.mem_iff.mp hu))
 have s02:=s1.trans g2
 have el02:=s02 _ _ eA0
 have ef02:=s02 _ _ eF0
 have gH2:=g0.trans s02
 generalize hZ:(ts.map (·.2)).zip ws=Z at q pr
 have lus:us.length<=128:=by
  have:=z.pm.length_eq
  rw[xt,gN,aS] at this
  have:2 ^ m<=2 ^ 7:=z9 (by decide) m7
  omega
 refine ⟨l2,rfl,⟨_,SqL.of el2⟩,i7 (xs:=us.map λu =>.ref u.1) (λi σ H'=>(∃c4 c5 c6 c7 c8,σ=[some (.ref r),some (.ref l),some (.ref ld),some (.ref fd),c4,c5,c6,c7,c8,none])/\az H H'/\H' l2=some (.lst (us.map λu =>.ref u.1))/\(∀u∈us,H' u.1=some (.tup (u.2.map V.int)))/\H' ld=some (.dT (kvE (j9 Z m ((us.map (·.2)).take i))))/\∃fs,H' fd=some (.dT (kvR fs))/\Fs Z m H' ((us.map (·.2)).take i) fs) ⟨⟨_,_,_,_,_,rfl⟩,gH2,el2,tu,el02,[],ef02,rfl,λe he=>by cases he⟩ (λi σ H' _ k=>SqL.of k.2.2.1) ?_ ?_⟩
 ·rintro i x σ H4 hx ⟨⟨c4,c5,c6,c7,c8,rfl⟩,s4,el4,tu4,ed,fs,ef,F⟩
  obtain ⟨u,eu,rfl⟩:=fi hx
  have mu:=xD eu
  have eS:(us.map (·.2))[i]? = some u.2:=by rw[xI,eu];rfl
  have mS:=xD eS
  obtain ⟨sS,rS⟩:=z.mem.mp mS
  have ndS:=cT sS
  have lS:u.2.length<=m:=mI ndS rS
  have eS':(us.map (·.2)).take (i+1)=(us.map (·.2)).take i++[u.2]:=by rw[ye,eS];rfl
  have no:(j9 Z m ((us.map (·.2)).take i)).lookup u.2=none:=iO (z.new eS)
  have nof:fs.lookup u.2=none:=sA (by rw[F.key];exact z.new eS)
  have lk:∀{T:List Int},T∈us.map (·.2)->u.2.length<T.length->(j9 Z m ((us.map (·.2)).take i)).lookup T=some (lft Z m T):=λhT l=>cI (f:=lft Z m) (z.early eS hT l)
  have lkf:∀{T:List Int},T∈us.map (·.2)->u.2.length<T.length->∃a,fs.lookup T=some a/\(T,a)∈fs:=λhT l=>mV (by rw[F.key];exact z.early eS hT l)
  have lt:(j9 Z m ((us.map (·.2)).take i)).length<=128:=by unfold j9;rw[xt,yw,xt];omega
  have ltf:fs.length<=128:=by
   have:=congrArg List.length F.key
   rw[xt,yw,xt] at this
   omega
  have hF:=F.key
  generalize hE:j9 Z m ((us.map (·.2)).take i)=es at ed no lk lt
  have key:∀{Hx:Hp} {a:Addr} {S:List Int},Hx a=some (.tup (S.map V.int))->Hx a=some (.tup ((S.map (Sum.inl:Int->Key)).map kV)):=λh=>by rw[yt];exact h
  have epl:=tu4 u mu
  have fin:∀{w:Int},lft Z m u.2=w->es++[(u.2,w)]=j9 Z m ((us.map (·.2)).take (i+1)):=λe=>by rw[eS', <- hE, <- e];unfold j9;rw[xH];rfl
  refine ⟨_,rfl,_,rfl,ld,_,rfl,gZ.t ed (k:=u.2.map (Sum.inl:Int->Key)) (key epl) (by rw[iS];exact cA (by omega)),?_⟩
  rw[lU no]
  have s5:=az.cR s4 hld (.dT (kvE (es++[(u.2,0)])))
  have el5:upd H4 ld (.dT (kvE (es++[(u.2,0)]))) l2=some (.lst (us.map λu =>.ref u.1)):=by rw[ak (dA el4 ed (by intro z;cases z))];exact el4
  have tu5:∀u'∈us,upd H4 ld (.dT (kvE (es++[(u.2,0)]))) u'.1=some (.tup (u'.2.map V.int)):=λu' hu'=>by rw[ak (dA (tu4 u' hu') ed (by intro z;cases z))];exact tu4 u' hu'
  have ed5:upd H4 ld (.dT (kvE (es++[(u.2,0)]))) ld=some (.dT (kvE (es++[(u.2,0)]))):=af
  have ef5:upd H4 ld (.dT (kvE (es++[(u.2,0)]))) fd=some (.dT (kvR fs)):=by rw[ak (zj nlf)];exact ef
  have F5:=F.dct ed (.dT (kvE (es++[(u.2,0)])))
  generalize upd H4 ld (.dT (kvE (es++[(u.2,0)])))=H5 at s5 el5 tu5 ed5 ef5 F5
  refine ⟨(by show 0<=xG;decide),λel0 hel0 =>?_⟩
  have ge:=ae hel0 (.lst [])
  have ee0:upd H5 el0 (.lst []) el0=some (.lst []):=af
  generalize upd H5 el0 (.lst [])=H5' at ge ee0
  refine ⟨_,rfl,_,rfl,fd,_,rfl,gZ.t (ge _ _ ef5) (k:=u.2.map (Sum.inl:Int->Key)) (key (ge _ _ (tu5 u mu))) (by rw[oR];exact cA (by omega)),?_⟩
  rw[um nof]
  have nf:∀{b:Addr} {o:HO},H5' b=some o->(∀k,o ≠ .dT k)->upd H5' fd (.dT (kvR (fs++[(u.2,el0)]))) b=some o:=λh n=>by rw[ak (dA h (ge _ _ ef5) (n _))];exact h
  have s6:=az.cR (s5.trans ge) hfd0 (.dT (kvR (fs++[(u.2,el0)])))
  have el6:=nf (ge _ _ el5) (by intro k z;cases z)
  have tu6:∀u'∈us,upd H5' fd (.dT (kvR (fs++[(u.2,el0)]))) u'.1=some (.tup (u'.2.map V.int)):=λu' hu'=>nf (ge _ _ (tu5 u' hu')) (by intro k z;cases z)
  have ed6:upd H5' fd (.dT (kvR (fs++[(u.2,el0)]))) ld=some (.dT (kvE (es++[(u.2,0)]))):=by rw[ak nlf];exact ge _ _ ed5
  have ef6:upd H5' fd (.dT (kvR (fs++[(u.2,el0)]))) fd=some (.dT (kvR (fs++[(u.2,el0)]))):=af
  have F6:=(F5.same ge).dct (ge _ _ ef5) (.dT (kvR (fs++[(u.2,el0)])))
  have ee6:=nf ee0 (by intro k z;cases z)
  generalize upd H5' fd (.dT (kvR (fs++[(u.2,el0)])))=H6 at s6 el6 tu6 ed6 ef6 F6 ee6
  refine ⟨(by show 0<=xG;decide),λsl hsl =>?_⟩
  have hsl0:=s6.free hsl
  have gs:=ae hsl (.lst [])
  have esl:upd H6 sl (.lst []) sl=some (.lst (([]:List MnW.Wt).map λt=>V.ref t.a)):=af
  generalize upd H6 sl (.lst [])=H7 at gs esl
  have K0:∃K0:Int,K0=into Z (cm m u.2) u.2-lp Z:=⟨_,rfl⟩
  obtain ⟨K0,hK0⟩:=K0
  refine ⟨_,rfl,r,_,0,_,rfl,rfl,SqT.of (gs _ _ (s6 _ _ e1)),rfl,m,rfl,by omega,by omega,?_⟩
  rw[yD]
  refine cK (n:=m) (λk σ H'=>(∃c6 c7 c8,σ=[some (.ref r),some (.ref l),some (.ref ld),some (.ref fd),some (.ref u.1),some (.ref sl),c6,c7,c8,none])/\Sb H6 sl H'/\∃wl:List MnW.Wt,H' sl=some (.lst (wl.map λt=>V.ref t.a))/\(wl.map (·.h))=((rgI m).take k).filter (λp=>decide (p∉u.2))/\∀t∈wl,H' t.a=some (.tup [.int t.w,.ref t.l])/\H' t.l=some (.lst ((t.h :: t.r).map V.int))/\t.w=fst Z (cm m u.2) t.h+K0/\t.r=fo Z (wo (cm m u.2) t.h)/\t.a≠sl/\t.l≠sl) ⟨⟨_,_,_,rfl⟩,λa o e _=>gs _ _ e,[],esl,rfl,λt ht=>by cases ht⟩ ?_ ?_
  ·rintro k σ H8 hk ⟨⟨c6,c7,c8,rfl⟩,sb8,wl,es8,hw8,al8⟩
   obtain ⟨v,hv⟩:∃v:Int,v=0+(k:Int):=⟨_,rfl⟩
   have ev:(rgI m)[k]? = some v:=by rw[hv,bE hk];congr 1;omega
   have vr:0<=v/\v<(m:Int):=by omega
   rw[<- hv]
   have tk:((rgI m).take (k+1)).filter (λp=>decide (p∉u.2))=((rgI m).take k).filter (λp=>decide (p∉u.2))++if v∉u.2 then [v] else []:=by
    rw[ye,ev,AQ]
    congr 1
    by_cases c:v∈u.2 <;> simp[c]
   have s68:az H6 H8:=λa o e=>sb8 a o e (aj e hsl)
   have s08:=s6.trans s68
   have epl8:=s68 _ _ (tu6 u mu)
   refine ⟨_,rfl,_,rfl,u.1,_,rfl,.inr (SqT.of epl8),rfl,kU u.2,_,rfl,?_⟩
   show if (if true=true then !inV (.int v) (u.2.map V.int) else _)=true then _ else _
   rw[if_pos rfl,tV]
   by_cases c:v∈u.2
   ·rw[decide_eq_true c]
    exact dO ⟨⟨_,_,_,rfl⟩,sb8,wl,es8,by rw[tk,if_neg (λh=>h c),yC];exact hw8,al8⟩
   rw[decide_eq_false c]
   have vC:v∈cm m u.2:=sg.mpr ⟨vr,c⟩
   refine eV ⟨_,rfl,_,rfl,(by show 1<=xG;decide),λtq htq =>?_⟩
   have g9:=ae htq (.tup [.int v])
   have etq:upd H8 tq (.tup [.int v]) tq=some (.tup [.int v]):=af
   generalize upd H8 tq (.tup [.int v])=H9 at g9 etq
   refine ⟨u.1,tq,_,_,rfl,rfl,g9 _ _ epl8,etq,by rw[xt];exact cU (by show _+1<=_;omega),λt2 H10 s10 e10 =>?_⟩
   rw[show u.2.map V.int++[V.int v]=(u.2++[v]).map V.int by rw[xH];rfl] at e10
   refine ⟨t2,u.2++[v],rfl,.inr (SqT.of e10),λl11 T hl11 pmT soT=>⟨l11,_,rfl,.inl ⟨SqL.of af,λt3 ht3 =>?_⟩⟩⟩
   have g11:=(ae hl11 (.lst (T.map V.int))).trans (ae ht3 (.tup (T.map V.int)))
   have et3:upd (upd H10 l11 (.lst (T.map V.int))) t3 (.tup (T.map V.int)) t3=some (.tup (T.map V.int)):=af
   generalize upd (upd H10 l11 (.lst (T.map V.int))) t3 (.tup (T.map V.int))=H11 at g11 et3
   have s811:=g9.trans (s10.trans g11)
   have sT:=qg sS c pmT soT
   have mT:∀x,x∈T↔x∈u.2\/x=v:=λx=>by rw[pmT.mem_iff,xS,yd]
   have inT:T∈us.map (·.2):=z.mem.mpr ⟨sT,λx hx=>by
    rcases (mT x).mp hx with y | y
    ·exact rS x y
    ·rw[y];exact vr⟩
   have lT:u.2.length<T.length:=by rw[pmT.length_eq,xM];show _<_+1;omega
   obtain ⟨fa,efa,mfa⟩:=lkf inT lT
   have hfa:=s811 _ _ (s68 _ _ (F6.row _ mfa))
   have ed11:=s811 _ _ (s68 _ _ ed6)
   have ef11:=s811 _ _ (s68 _ _ ef6)
   have s011:=s08.trans s811
   refine ⟨_,rfl,_,rfl,_,rfl,_,rfl,fO.mpr ⟨r,l,u.1,m,ts,ws,v,u.2,rfl,W.same s011,s011 _ _ el,lw,s811 _ _ epl8,λH12 s12 =>?_⟩⟩
   rw[hZ]
   refine ⟨_,rfl,_,rfl,ld,.int (lft Z m T),rfl,by have:=fR.t (s12 _ _ ed11) (key (s12 _ _ et3));rw[bQ,mU (lk inT lT)] at this;exact this,_,_,rfl,rfl,?_⟩
   have es12:=s12 _ _ (s811 _ _ es8)
   refine ⟨_,rfl,.inl ⟨rfl,_,SqL.of es12⟩,_,rfl,_,rfl,(by show 1<=xG;decide),λp1 hp1 =>?_⟩
   have g13:=ae hp1 (.lst [.int v])
   have ep13:upd H12 p1 (.lst [.int v]) p1=some (.lst [.int v]):=af
   generalize upd H12 p1 (.lst [.int v])=H13 at g13 ep13
   have s1113:=s12.trans g13
   refine ⟨_,rfl,_,rfl,fd,.ref fa,rfl,by have:=fR.t (s1113 _ _ ef11) (key (s1113 _ _ et3));rw[gU,qf efa] at this;exact this,?_⟩
   have lfo:(fo Z (cm m T)).length<=m:=by
    rw[ic]
    unfold cm
    exact yf (AZ _ _) (by rw[aS];exact xC _)
   refine ⟨p1,fa,_,_,rfl,rfl,SqL.of ep13,SqL.of (s1113 _ _ hfa),by rw[xt];exact cU (by show 1+(fo Z (cm m T)).length<=5000;omega),λnl hnl =>?_⟩
   rw[show ([V.int v]++(fo Z (cm m T)).map V.int:List V)=(v :: fo Z (cm m T)).map V.int from rfl]
   have g14:=ae hnl (.lst ((v :: fo Z (cm m T)).map V.int))
   have en14:upd H13 nl (.lst ((v :: fo Z (cm m T)).map V.int)) nl=some (.lst ((v :: fo Z (cm m T)).map V.int)):=af
   generalize upd H13 nl (.lst ((v :: fo Z (cm m T)).map V.int))=H14 at g14 en14
   refine ⟨(by show 2<=xG;decide),λta hta =>?_⟩
   have g15:=ae hta (.tup [.int (led Z v u.2+lft Z m T),.ref nl])
   have ea15:upd H14 ta (.tup [.int (led Z v u.2+lft Z m T),.ref nl]) ta=some (.tup [.int (led Z v u.2+lft Z m T),.ref nl]):=af
   generalize upd H14 ta (.tup [.int (led Z v u.2+lft Z m T),.ref nl])=H15 at g15 ea15
   have s815:=s811.trans (s1113.trans (g14.trans g15))
   have es15:=s815 _ _ es8
   have nta:ta≠sl:=dA ea15 es15 (by intro z;cases z)
   have nnl:nl≠sl:=λh=>by
    have:=s1113 _ _ (s811 _ _ es8)
    rw[<- h,hnl] at this;cases this
   have lwl:wl.length<=m:=by
    have:=congrArg List.length hw8
    rw[xt] at this
    rw[this]
    exact yf (AZ _ _) (yf (B5 _ _) (by omega))
   refine ⟨sl,_,_,rfl,rfl,es15,by rw[xt];exact cA (by omega),⟨_,_,_,rfl⟩,(sb8.trans s815).set _,wl++[⟨ta,led Z v u.2+lft Z m T,nl,v,fo Z (cm m T)⟩],by rw[af,xH];rfl,by rw[xH,hw8,tk,if_pos c];rfl,λt ht =>?_⟩
   rcases xS.mp ht with y | y
   ·obtain ⟨a1,a2,a3,a4,a5,a6⟩:=al8 t y
    exact ⟨by rw[ak a5];exact s815 _ _ a1,by rw[ak a6];exact s815 _ _ a2,a3,a4,a5,a6⟩
   ·have:t=⟨ta,led Z v u.2+lft Z m T,nl,v,fo Z (cm m T)⟩:=by simpa using y
    subst this
    exact ⟨by rw[ak nta];exact ea15,by rw[ak nnl];exact g15 _ _ en14,by rw[hK0];exact sj pr vC mT,by show fo Z (cm m T)=_;rw[si mT],nta,nnl⟩
  ·rintro σ H8 ⟨⟨c6,c7,c8,rfl⟩,sb8,wl,es8,hw8,al8⟩
   rw[xW (by rw[aS];exact xC _)] at hw8
   have hw8:wl.map (·.h)=cm m u.2:=hw8
   refine ⟨_,rfl,(by show 0<=xG;decide),λll hll =>?_⟩
   have gl:=ae hll (.lst [])
   have ell:upd H8 ll (.lst []) ll=some (.lst []):=af
   generalize upd H8 ll (.lst [])=H9 at gl ell
   have s69:az H6 H9:=λa o e=>gl _ _ (sb8 a o e (aj e hsl))
   have s09:=s6.trans s69
   have ed9:=s69 _ _ ed6
   have ef9:=s69 _ _ ef6
   have F9:=F6.same s69
   have nC:=uO m u.2
   refine ⟨sl,ll,_,rfl,rfl,gl _ _ es8,ell,λc=>⟨_,rfl,dO ?_⟩,λc=>⟨_,rfl,eV ?_⟩⟩
   ·have cz:cm m u.2=[]:=by rw[<- hw8,Ag.mp c];rfl
    have l0:lft Z m u.2=0:=by
     unfold lft into
     rw[cz,v5]
     show lp Z-lp Z+0=0
     omega
    refine ⟨⟨_,_,_,_,_,rfl⟩,s09,s69 _ _ el6,λu' hu'=>s69 _ _ (tu6 u' hu'),by rw[ed9,fin l0],fs++[(u.2,el0)],ef9,by rw[xH,hF,eS'];rfl,λe he =>?_⟩
    rcases xS.mp he with y | y
    ·exact F9.row e y
    ·have:e=(u.2,el0):=by simpa using y
     subst this
     show H9 el0=some (.lst ((fo Z (cm m u.2)).map V.int))
     rw[cz]
     exact s69 _ _ ee6
   ·have cn:cm m u.2≠[]:=λh=>c (by rw[<- hw8] at h;rw[Ag.mp h];rfl)
    have lr:∀t∈wl,∀u'∈wl,t.r.length=u'.r.length:=λt ht u' hu'=>by
     obtain ⟨_,_,_,a4,_⟩:=al8 t ht
     obtain ⟨_,_,_,b4,_⟩:=al8 u' hu'
     have h1:=fm nC (p:=t.h) (by rw[<- hw8];exact y9 (f:=(·.h)) ht)
     have h2:=fm nC (p:=u'.h) (by rw[<- hw8];exact y9 (f:=(·.h)) hu')
     rw[a4,b4,ic,ic]
     omega
    refine ⟨_,rfl,sl,wl,rfl,gl _ _ es8,λt ht=>⟨gl _ _ (al8 t ht).1,gl _ _ (al8 t ht).2.1⟩,by rw[hw8];exact nC,lr,λh=>c (by rw[h];rfl),λt ht mn =>?_⟩
    obtain ⟨a1,a2,a3,a4,_⟩:=al8 t ht
    have tC:t.h∈cm m u.2:=by rw[<- hw8];exact y9 (f:=(·.h)) ht
    have le:∀p∈cm m u.2,fst Z (cm m u.2) t.h<fst Z (cm m u.2) p\/(fst Z (cm m u.2) t.h=fst Z (cm m u.2) p/\t.h<=p):=λp hp=>by
     rw[<- hw8] at hp
     obtain ⟨u',hu',rfl⟩:=yS.mp hp
     have:=ur.mp (mn u' hu')
     have b3:=(al8 u' hu').2.2.1
     omega
    have eF:fst Z (cm m u.2) t.h=LW Z (cm m u.2):=by
     obtain ⟨p,hp,ep⟩:=sf pr nC cn
     have h1:=se pr nC tC
     have h2:=le p hp
     omega
    have eH:t.h=mnL (ck Z (cm m u.2)):=by
     refine iP (yQ.mpr ⟨tC,decide_eq_true eF⟩) λb hb =>?_
     obtain ⟨hb1,hb2⟩:=yQ.mp hb
     have hb2:=of_decide_eq_true hb2
     have:=le b hb1
     omega
    have eW:t.w=lft Z m u.2:=by
     rw[a3,eF,hK0]
     unfold lft
     omega
    have eO:t.h :: t.r=fo Z (cm m u.2):=by rw[oN pr nC cn, <- eH,a4]
    rw[eO] at a2
    rw[eW] at a1
    refine ⟨t.a,_,rfl,SqT.of (gl _ _ a1),rfl,_,_,rfl,_,rfl,_,rfl,ld,_,rfl,gZ.t ed9 (k:=u.2.map (Sum.inl:Int->Key)) (key (s69 _ _ (tu6 u mu))) (by rw[iS,xM];exact cA (by show _+1<=_;omega)),?_⟩
    rw[oP no,fin rfl]
    generalize hV:HO.dT (kvE (j9 Z m ((us.map (·.2)).take (i+1))))=V1
    have n10:∀{b:Addr} {o:HO},H9 b=some o->(∀k,o ≠ .dT k)->upd H9 ld V1 b=some o:=λh n=>by rw[ak (dA h ed9 (n _))];exact h
    have ef10:upd H9 ld V1 fd=some (.dT (kvR (fs++[(u.2,el0)]))):=by rw[ak (zj nlf)];exact ef9
    have ed10:upd H9 ld V1 ld=some V1:=af
    have s10:=az.cR s09 hld V1
    have F10:=F9.dct ed9 V1
    have el10:=n10 (s69 _ _ el6) (by intro k z;cases z)
    have tu10:∀u'∈us,upd H9 ld V1 u'.1=some (.tup (u'.2.map V.int)):=λu' hu'=>n10 (s69 _ _ (tu6 u' hu')) (by intro k z;cases z)
    have a10:=n10 (gl _ _ a2) (by intro k z;cases z)
    generalize upd H9 ld V1=H10 at ef10 ed10 s10 F10 el10 tu10 a10
    refine ⟨_,_,rfl,_,rfl,_,rfl,fd,_,rfl,gZ.t ef10 (k:=u.2.map (Sum.inl:Int->Key)) (key (tu10 u mu)) (by rw[oR,xM];exact cA (by show _+1<=_;omega)),rfl,?_⟩
    rw[uo nof]
    have n11:∀{b:Addr} {o:HO},H10 b=some o->(∀k,o ≠ .dT k)->upd H10 fd (.dT (kvR (fs++[(u.2,t.l)]))) b=some o:=λh n=>by rw[ak (dA h ef10 (n _))];exact h
    refine ⟨⟨_,_,_,_,_,rfl⟩,az.cR s10 hfd0 _,n11 el10 (by intro k z;cases z),λu' hu'=>n11 (tu10 u' hu') (by intro k z;cases z),by rw[ak nlf,ed10, <- hV],fs++[(u.2,t.l)],af,by rw[xH,hF,eS'];rfl,λe he =>?_⟩
    rcases xS.mp he with y | y
    ·exact n11 (F10.row e y) (by intro k z;cases z)
    ·have:e=(u.2,t.l):=by simpa using y
     subst this
     exact n11 a10 (by intro k z;cases z)
 rintro σ H4 ⟨⟨c4,c5,c6,c7,c8,rfl⟩,s4,el4,tu4,ed,fs,ef,F⟩
 rw[xt,xW (by rw[xt];exact xC _)] at ed F
 have e14:=s4 _ _ e1
 have e24:=s4 _ _ e2
 have el44:=s4 _ _ el
 have W4:=W.same s4
 refine ⟨_,rfl,r,_,1,_,rfl,rfl,SqT.of e14,rfl,_,rfl,t,l,rfl,⟨_,SqT.of e24⟩,⟨_,SqL.of el44⟩,uI (c:=false) (d:=true) (xs:=ts.map λu =>.ref u.1) (ys:=ws.map V.int) ts.length (by rw[lz];exact xC _) (by rw[lzw];exact xC _) (.inl lz.symm) (λi zs H'=>az H4 H'/\zs=(lpw (((ts.map (·.2)).zip ws).take i)).map V.int) (by decide) ⟨az.refl _,rfl⟩ (cU (by omega)) (λi zs H' _ k=>⟨SqT.of (k.1 _ _ e24),SqL.of (k.1 _ _ el44)⟩) ?_ ?_⟩
 ·rintro i x y zs H3 T hx hy' hz hT ⟨s3,rfl⟩ R1 R0 r1 r0
  obtain ⟨u,hu,rfl⟩:=fi hx
  obtain ⟨w',ew,rfl⟩:=eD hy'
  have mu:=xD hu
  obtain ⟨x',y',e3,x0,x1,y0,y1⟩:=W.rng u mu
  have gT:=ae hT (.tup [.ref u.1,.int w'])
  generalize upd H3 T (.tup [.ref u.1,.int w'])=H4 at gT
  have s4:=s3.trans gT
  have hu4:=s4 _ _ (W4.tup u mu)
  rw[e3] at hu4
  have tk:lpw (((ts.map (·.2)).zip ws).take (i+1))=lpw (((ts.map (·.2)).zip ws).take i)++if x'=y' then [w'] else []:=by
   rw[ye,show ((ts.map (·.2)).zip ws)[i]? = some ([x',y'],w') from ?_]
   ·unfold lpw
    rw[AQ,xH]
    congr 1
    show List.map _ (List.filter _ [([x',y'],w')])=_
    rw[BM]
    by_cases d:x'=y'
    ·rw[if_pos (by exact decide_eq_true d),if_pos d];rfl
    ·rw[if_neg (by intro z;exact d (of_decide_eq_true z)),if_neg d];rfl
   ·rw[zh]
    exact ⟨by rw[xI,hu, <- e3];rfl,ew⟩
  refine ⟨_,rfl,u.1,_,0,_,rfl,rfl,SqT.of hu4,rfl,_,rfl,u.1,_,1,_,rfl,rfl,SqT.of hu4,rfl,rfl,_,rfl,cQ (λd=>⟨_,rfl,r1 _ _ ⟨s4,?_⟩⟩) (λd=>r0 _ ⟨s4,?_⟩)⟩
  ·rw[tk,if_pos (V.int.inj (of_decide_eq_true d)),xH];rfl
  ·rw[tk,if_neg (λz=>d (decide_eq_true (by rw[z]))),yC]
 rintro zs H3 hz ⟨s3,rfl⟩ l3 hl3
 rw[xW (by rw[AA,xt];omega),hZ]
 have g5:=s3.trans (ae hl3 (.lst ((lpw Z).map V.int)))
 refine ⟨l3,_,rfl,af,?_⟩
 rw[lZ]
 generalize upd H3 l3 (.lst ((lpw Z).map V.int))=H5 at g5
 have nil:([]:List Int)∈us.map (·.2):=z.mem.mpr ⟨List.Pairwise.nil,λv hv=>by cases hv⟩
 obtain ⟨fa,efa,mfa⟩:=mV (S:=[]) (by rw[F.key];exact nil)
 have lk0:(j9 Z m (us.map (·.2))).lookup []=some (lft Z m []):=cI (f:=lft Z m) nil
 refine ⟨_,rfl,(by show 0<=xG;decide),λt0 ht0 =>?_⟩
 have g6:=g5.trans (ae ht0 (.tup []))
 have et0:upd H5 t0 (.tup []) t0=some (.tup ((([]:List Int).map (Sum.inl:Int->Key)).map kV)):=af
 generalize upd H5 t0 (.tup [])=H6 at g6 et0
 refine ⟨ld,.int (lft Z m []),rfl,by have:=fR.t (g6 _ _ ed) et0;rw[bQ,lk0] at this;exact this,_,rfl,_,_,rfl,rfl,?_⟩
 dsimp only
 rw[ug]
 refine ⟨_,rfl,(by show 0<=xG;decide),λt1 ht1 =>?_⟩
 have g7:=g6.trans (ae ht1 (.tup []))
 have et1:upd H6 t1 (.tup []) t1=some (.tup ((([]:List Int).map (Sum.inl:Int->Key)).map kV)):=af
 generalize upd H6 t1 (.tup [])=H7 at g7 et1
 refine ⟨fd,.ref fa,rfl,by have:=fR.t (g7 _ _ ef) et1;rw[gU,efa] at this;exact this,(by show 2<=xG;decide),λpp hpp =>?_⟩
 have g8:=ae hpp (.tup [.int (LW Z (rgI m)),.ref fa])
 have hfa:=F.row _ mfa
 rw[show cm m (([],fa):List Int×Addr).1=rgI m from v8 m] at hfa
 exact q pp fa _ (s4.trans (g7.trans g8)) af (g8 _ _ (g7 _ _ hfa))
end
open PySem L2
structure Exs (K:xx)(mg:Str->Option xw)(c_WebError c_BadWeb c_NoStep c_NoText c_TooMany c_NoTie c_NoRing c_NotClear c_NotThree c_BadBoard c_NoRow c_NoBack:Addr):Prop where
 x_WebError:mg "WebError" = some (.ref c_WebError)
 x_BadWeb:mg "BadWeb" = some (.ref c_BadWeb)
 x_NoStep:mg "NoStep" = some (.ref c_NoStep)
 x_NoText:mg "NoText" = some (.ref c_NoText)
 x_TooMany:mg "TooMany" = some (.ref c_TooMany)
 x_NoTie:mg "NoTie" = some (.ref c_NoTie)
 x_NoRing:mg "NoRing" = some (.ref c_NoRing)
 x_NotClear:mg "NotClear" = some (.ref c_NotClear)
 x_NotThree:mg "NotThree" = some (.ref c_NotThree)
 x_BadBoard:mg "BadBoard" = some (.ref c_BadBoard)
 x_NoRow:mg "NoRow" = some (.ref c_NoRow)
 x_NoBack:mg "NoBack" = some (.ref c_NoBack)
 n_ex:PySem.W.excIn K c_TooMany rH "ValueError.__new__" = true
 n_i:ExI K c_TooMany
 n_m:PySem.W.exmOne K (.ref c_TooMany) (.ref c_WebError)=some true
 n_v:PySem.W.kitOne K (.ref c_TooMany) (.type "ValueError")=some true
 n_w:PySem.W.kitOne K (.ref c_TooMany) (.ref c_WebError)=some true
 n_n:PySem.W.kitOne K (.ref c_TooMany) (.ref c_TooMany)=some true
 n_o0:PySem.W.kitOne K (.ref c_TooMany) (.ref c_BadWeb)=some false
 n_o1:PySem.W.kitOne K (.ref c_TooMany) (.ref c_NoStep)=some false
 n_o2:PySem.W.kitOne K (.ref c_TooMany) (.ref c_NoText)=some false
 n_o3:PySem.W.kitOne K (.ref c_TooMany) (.ref c_NoTie)=some false
 n_o4:PySem.W.kitOne K (.ref c_TooMany) (.ref c_NoRing)=some false
 n_o5:PySem.W.kitOne K (.ref c_TooMany) (.ref c_NotClear)=some false
 n_o6:PySem.W.kitOne K (.ref c_TooMany) (.ref c_NotThree)=some false
 n_o7:PySem.W.kitOne K (.ref c_TooMany) (.ref c_BadBoard)=some false
 n_o8:PySem.W.kitOne K (.ref c_TooMany) (.ref c_NoRow)=some false
 n_o9:PySem.W.kitOne K (.ref c_TooMany) (.ref c_NoBack)=some false
theorem oT {X:Cx}{E:XK}{j k:Nat}{x:Str}{ps:List Str}{sp:Sp}{e:Expr}{es:List Expr}{t:TA}{p pos:Pos}(hx:Passes (CX1 X.prog X.w) X E)(C:j7 X.prog X.w X.K X.mg X.base k x ps sp)(hr:bY j X.A)(hj:k<=j)(hg:Gl X x)(ha:PA X (e :: es) t)
  (hdb:(x == ("__debug__" : Str))=false:=by decide) (he:yA (e :: es) X.env=(false,eval e X.env) :: yA es X.env:=by rfl) (hpl:(Bh pos (yA es X.env)).any (·.1)=false:=by rfl) :
  PE X (.Call (.Name x p) (e :: es) [] pos) (qA sp [] E t):=by
 obtain ⟨f,fd,F,m,kp,b⟩:=C.ex
 exact nZ F (hr.mono hj) hg m kp b .nil hx ha hdb he hpl
def Right (Z:List (List Int×Int))(m:Nat)(weight:Int)(es:List (List Int×Int)):Prop:=(es.Perm (bp Z (sbs (rgI m)))/\es.Pairwise λx y=>Srt.qLt y x=false)/\weight=LW Z (rgI m)
theorem sF {H:Hp}{r:Addr}{m:Nat}{ts:List (Addr×List Int)}(W:Ow H r (m:Int) ts)(ws:List Int):∀e∈(ts.map (·.2)).zip ws,∃a b:Int,e.1=[a,b]/\0<=a/\a<m/\0<=b/\b<m:=λe he=>by
 obtain ⟨h1,_⟩:=AS he
 obtain ⟨u,hu,eu⟩:=yS.mp h1
 rw[<- eu]
 exact W.rng u hu
theorem bC {H H':Hp}{us:List (Addr×(Addr×List Int)×Int)}(t:fS H us)(s:az H H'):fS H' us:=λu hu=>⟨s _ _ (t u hu).1,s _ _ (t u hu).2⟩
@[irreducible] def jT (C:Addr):Sp:=λvs H Q E=>∃(r:Addr) (m:Nat) (ts:List (Addr×List Int)),vs=[.ref r]/\Ow H r (m:Int) ts/\(m<=7->Q .non H)/\(7<m->E (.ref C) none H)
theorem eg {C:Addr}{vs:List V}{H:Hp}{Q:VK}{E:XK}:jT C vs H Q E↔∃(r:Addr) (m:Nat) (ts:List (Addr×List Int)),vs=[.ref r]/\Ow H r (m:Int) ts/\(m<=7->Q .non H)/\(7<m->E (.ref C) none H):=by
 delta jT
 exact Ai
section
variable  {P:xX}{w:yv}{K:xx}{mg:Str->Option xw}{base:Heap}{f:Addr}{fd:yM}{c_WebError c_BadWeb c_NoStep c_NoText c_TooMany c_NoTie c_NoRing c_NotClear c_NotThree c_BadBoard c_NoRow c_NoBack:Addr}
theorem qh:aH ["web"] ["web"] (aq jx):=⟨rfl,rfl,rfl,by decide +kernel,rfl,by decide +kernel,by decide +kernel⟩
theorem qi (F:Fun K "look_few" "look_few" jx f fd)(B:Blt mg)(Z:Exs K mg c_WebError c_BadWeb c_NoStep c_NoText c_TooMany c_NoTie c_NoRing c_NotClear c_NotThree c_BadBoard c_NoRow c_NoBack)(C:Cst mg):bF P w K mg base (CX1 P w) 1 f fd ["web"] (jT c_TooMany):=by
 refine F.okX qh (λvs H Q E h =>?_) (λcdv A outer s H vs Q E hr h =>?_)
 ·obtain ⟨_,_,_,rfl,_⟩:=eg.mp h
  rfl
 obtain ⟨r,m,ts,rfl,W,q1,q2⟩:=eg.mp h
 obtain ⟨t_MOST_ORDERED,w_MOST_ORDERED⟩:=C.c_MOST_ORDERED
 refine ⟨_,(@ao _ _ _ (@b8 _ _ _ _ _ _ _ _ (aM qy (@aE _ _ _ _ _ _ _ aK (pv 0) ai (λ_ _=>rfl)) (bI (v :=.int 7) rfl w_MOST_ORDERED ⟨_,rfl⟩) (aU _)) (@ao _ _ _ (rJ (x := "TooMany") xk ⟨Z.n_ex,Z.x_TooMany⟩ hr.hd rfl (@aa _ _ _ _ _ u7 ag rfl))) ba)),?_⟩
 obtain ⟨t,e1,e2⟩:=W.at'
 refine ⟨_,rfl,r,_,0,_,rfl,rfl,SqT.of e1,rfl,(m:Int),7,rfl,rfl,_,rfl,cQ (λc =>?_) (λc =>?_)⟩
 ·have:=of_decide_eq_true c
  exact ⟨(by show 1<=xG;decide),q2 (by omega)⟩
 ·exact q1 (by
   apply CG
   intro h
   exact c (decide_eq_true (by omega)))
end
abbrev uS:Sp:=λvs H Q _=>∃(r l:Addr) (bw:Bool) (m:Nat) (ts:List (Addr×List Int)) (ws:List Int),vs=[.ref r,.ref l]/\Ow H r (m:Int) ts/\ts.length<=200/\(ts.map (·.2)).Nodup/\H l=some (sqO bw (ws.map V.int))/\ws.length=ts.length/\m<=7/\∀(p ol tl:Addr) (us:List (Addr×(Addr×List Int)×Int)) (H':Hp),az H H'->H' p=some (.tup [.int (LW ((ts.map (·.2)).zip ws) (rgI m)),.ref ol,.ref tl])->H' ol=some (.lst ((fo ((ts.map (·.2)).zip ws) (rgI m)).map V.int))->H' tl=some (.lst (us.map λu=>V.ref u.1))->fS H' us->(us.map aJ).Perm (bp ((ts.map (·.2)).zip ws) (sbs (rgI m)))->(us.map aJ).Pairwise (λx y=>Srt.qLt y x=false)->H ol=none->H tl=none->ol≠tl->Q (.ref p) H'
@[irreducible] def sI:Sp:=uS
theorem mW {vs:List V}{H:Hp}{Q:VK}{E:XK}:sI vs H Q E↔uS vs H Q E:=by
 delta sI
 exact Ai
@[irreducible] def mY (C:Addr):Sp:=λvs H Q E=>∃(r l:Addr) (bw:Bool) (m:Nat) (ts:List (Addr×List Int)) (ws:List Int),vs=[.ref r,.ref l]/\Ow H r (m:Int) ts/\ts.length<=200/\(ts.map (·.2)).Nodup/\H l=some (sqO bw (ws.map V.int))/\ws.length=ts.length/\(m<=7->∀(p ol tl:Addr) (us:List (Addr×(Addr×List Int)×Int)) (H':Hp),az H H'->H' p=some (.tup [.int (LW ((ts.map (·.2)).zip ws) (rgI m)),.ref ol,.ref tl])->H' ol=some (.lst ((fo ((ts.map (·.2)).zip ws) (rgI m)).map V.int))->H' tl=some (.lst (us.map λu=>V.ref u.1))->fS H' us->(us.map aJ).Perm (bp ((ts.map (·.2)).zip ws) (sbs (rgI m)))->(us.map aJ).Pairwise (λx y=>Srt.qLt y x=false)->H ol=none->H tl=none->ol≠tl->Q (.ref p) H')/\(7<m->E (.ref C) none H)
theorem fP {C:Addr}{vs:List V}{H:Hp}{Q:VK}{E:XK}:mY C vs H Q E↔∃(r l:Addr) (bw:Bool) (m:Nat) (ts:List (Addr×List Int)) (ws:List Int),vs=[.ref r,.ref l]/\Ow H r (m:Int) ts/\ts.length<=200/\(ts.map (·.2)).Nodup/\H l=some (sqO bw (ws.map V.int))/\ws.length=ts.length/\(m<=7->∀(p ol tl:Addr) (us:List (Addr×(Addr×List Int)×Int)) (H':Hp),az H H'->H' p=some (.tup [.int (LW ((ts.map (·.2)).zip ws) (rgI m)),.ref ol,.ref tl])->H' ol=some (.lst ((fo ((ts.map (·.2)).zip ws) (rgI m)).map V.int))->H' tl=some (.lst (us.map λu=>V.ref u.1))->fS H' us->(us.map aJ).Perm (bp ((ts.map (·.2)).zip ws) (sbs (rgI m)))->(us.map aJ).Pairwise (λx y=>Srt.qLt y x=false)->H ol=none->H tl=none->ol≠tl->Q (.ref p) H')/\(7<m->E (.ref C) none H):=by
 delta mY
 exact Ai
theorem uu {C:Addr}:∀vs H Q E,sI vs H Q E->mY C vs H Q E0:=λvs H Q E h=>by
 obtain ⟨r,l,bw,m,ts,ws,e,W,tl,nd,el,lw,m7,q⟩:=mW.mp h
 exact fP.mpr ⟨r,l,bw,m,ts,ws,e,W,tl,nd,el,lw,λ_=>q,λz=>absurd z (by omega)⟩
section
variable  {P:xX}{w:yv}{K:xx}{mg:Str->Option xw}{base:Heap}{f:Addr}{fd:yM}{c_WebError c_BadWeb c_NoStep c_NoText c_TooMany c_NoTie c_NoRing c_NotClear c_NotThree c_BadBoard c_NoRow c_NoBack:Addr}
theorem eh:aH ["web", "worths", "rows", "least"] ["web", "worths"] (aq dh):=⟨rfl,rfl,rfl,by decide +kernel,rfl,by decide +kernel,by decide +kernel⟩
theorem l6 (F:Fun K "least_order" "least_order" dh f fd)(B:Blt mg)(Z:Exs K mg c_WebError c_BadWeb c_NoStep c_NoText c_TooMany c_NoTie c_NoRing c_NotClear c_NotThree c_BadBoard c_NoRow c_NoBack)(xFew:j7 P w K mg base 1 "look_few" ["web"] (jT c_TooMany))(cWorthRows:Cal P w K mg base 1 "worth_rows" ["web", "worths"] rY)(cSetWeights:Cal P w K mg base 3 "set_weights" ["many", "rows"] r6)(cFirstOrder:Cal P w K mg base 3 "first_order" ["many", "rows", "least"] uh)(C:Cst mg):bF P w K mg base (CX1 P w) 4 f fd ["web", "worths"] (mY c_TooMany):=by
 refine F.okX eh (λvs H Q E h =>?_) (λcdv A outer s H vs Q E hr h =>?_)
 ·obtain ⟨_,_,_,_,_,_,rfl,_⟩:=fP.mp h
  rfl
 obtain ⟨r,l,bw,m,ts,ws,rfl,W,tl,nd,el,lw,q1,q2⟩:=fP.mp h
 have hu:(eE CX0 P w K mg base ["web", "worths", "rows", "least"] "least_order" (aq dh) f cdv A outer s H E).nox.A.units+1<cLine:=iq hr
 refine ⟨_,(@ah _ _ _ _ _ (bZ (oT uJ xFew hr (by decide) rfl (@aa _ _ _ _ _ (pv 0) ag rfl)))
  (@ah _ _ _ _ _ (@au _ _ 2 _ _ _ _ eh.nd rfl (Or.inl rfl) (aD cWorthRows hr (by decide) rfl (@aa _ _ _ _ _ (pv 0) (@aa _ _ _ _ _ (pv 1) ag rfl) rfl)) rfl (by first | exact .inl rfl | exact .inr rfl | assumption))
  (@ah _ _ _ _ _ (@au _ _ 3 _ _ _ _ eh.nd rfl (Or.inl rfl) (aD cSetWeights hr (by decide) rfl (@aa _ _ _ _ _ (@aE _ _ _ _ _ _ _ aK (pv 0) ai (λ_ _=>rfl)) (@aa _ _ _ _ _ (pv 2) ag rfl) rfl)) rfl (by first | exact .inl rfl | exact .inr rfl | assumption))
  (@ao _ _ _ (@aX _ _ _ _ (@aY _ _ _ _ _ (@aa _ _ _ _ _ (cg hu (pv 3) (aG (cZ hr.hd) rfl B.b_tuple bz (@aa _ _ _ _ _ (aG cY rfl B.b_range gJ (@aa _ _ _ _ _ (@aE _ _ _ _ _ _ _ aK (pv 0) ai (λ_ _=>rfl)) ag rfl)) ag rfl)) (λ_ _=>rfl)) (@aa _ _ _ _ _ (aD cFirstOrder hr (by decide) rfl (@aa _ _ _ _ _ (@aE _ _ _ _ _ _ _ aK (pv 0) ai (λ_ _=>rfl)) (@aa _ _ _ _ _ (pv 2) (@aa _ _ _ _ _ (pv 3) ag rfl) rfl) rfl)) (@aa _ _ _ _ _ (av (fY hr.hd (hu8 hr)) rfl B.b_sorted cx (@aa _ _ _ _ _ (qF CB Bp CC kP (pv 3)) ag rfl)) ag rfl) rfl) rfl))))))),?_⟩
 obtain ⟨t',e1,e2⟩:=W.at'
 refine ⟨_,rfl,eg.mpr ⟨r,m,ts,rfl,W,λm7 =>?_,q2⟩⟩
 have q:=q1 m7
 refine ⟨_,rfl,_,rfl,gP.mpr ⟨r,l,bw,m,ts,ws,rfl,W,m7,tl,nd,el,lw,λrl as H1 s1 erl la row =>?_⟩⟩
 have pz:=sF W ws
 generalize hZ:(ts.map (·.2)).zip ws=Z at *
 have G:Grd H1 rl m Z as:=⟨erl,la,row⟩
 refine ⟨_,rfl,r,_,0,_,rfl,rfl,SqT.of (s1 _ _ e1),rfl,_,rfl,gR.mpr ⟨rl,m,as,Z,rfl,G,m7,pz,λdd Ls H2 s2 z ed =>?_⟩⟩
 have s02:=s1.trans s2
 refine ⟨_,rfl,_,rfl,r,_,0,_,rfl,rfl,SqT.of (s02 _ _ e1),rfl,(m:Int),rfl,λrg hrg=>⟨rg,m,rfl,af,by omega,λtp htp =>?_⟩⟩
 have g6:=(ae hrg (.rng 0 m)).trans (ae htp (.tup ((yP m).map λi=>V.int (i:Nat))))
 have e6:upd (upd H2 rg (.rng 0 m)) tp (.tup ((yP m).map λi=>V.int (i:Nat))) tp=some (.tup (((rgI m).map (Sum.inl:Int->Key)).map kV)):=by rw[af];unfold rgI;rw[yt,yt];rfl
 generalize upd (upd H2 rg (.rng 0 m)) tp (.tup ((yP m).map λi=>V.int (i:Nat)))=H3 at g6 e6
 have s03:=s02.trans g6
 have ed3:=g6 _ _ ed
 refine ⟨dd,.int (LW Z (rgI m)),rfl,by have:=fR.t ed3 e6;rw[bQ,show (bp Z Ls).lookup (rgI m)=some (LW Z (rgI m)) from cI z.all] at this;exact this,?_⟩
 refine ⟨_,rfl,r,_,0,_,rfl,rfl,SqT.of (s03 _ _ e1),rfl,_,rfl,_,rfl,jR.mpr ⟨rl,dd,m,as,Z,Ls,rfl,(G.same s2).same g6,ed3,z,m7,λe he=>(let ⟨a,b,h,_⟩:=pz e he;⟨a,b,h⟩),λol H4 s4 hol eol =>?_⟩⟩
 have ed4:=s4 _ _ ed3
 refine ⟨_,rfl,.inr (.inr (.inl ⟨rfl,.inr ⟨_,ed4⟩⟩)),dd,_,rfl,rfl,ed4,λp hp=>⟨p,dd,bp Z Ls,rfl,af,(ae hp _) _ _ ed4,λl5 out H5 s5 hl5 e5 en5 pm so =>?_⟩⟩
 have s45:=(ae hp (fj p dd)).trans s5
 have s05:=s03.trans (s4.trans s45)
 refine ⟨(by show 3<=xG;decide),λpp hpp =>?_⟩
 have g7:=ae hpp (.tup [.int (LW Z (rgI m)),.ref ol,.ref l5])
 have hl5':H4 l5=none:=(ae hp (fj p dd)).free hl5
 exact q pp ol l5 out _ (s05.trans g7) af (g7 _ _ (s45 _ _ eol)) (g7 _ _ e5) (bC en5 g7) (pm.trans (ig z)) so (s03.free hol) ((s03.trans s4).free hl5') (aj eol hl5')
end
abbrev uT:Sp:=λvs H Q _=>∃(r l t:Addr) (bw:Bool) (m:Nat) (ts:List (Addr×List Int)) (ws:List Int) (weight:Int) (us:List (Addr×(Addr×List Int)×Int)),vs=[.ref r,.ref l,.int weight,.ref t]/\Ow H r (m:Int) ts/\ts.length<=200/\(ts.map (·.2)).Nodup/\H l=some (sqO bw (ws.map V.int))/\ws.length=ts.length/\(H t=some (.lst (us.map λu=>V.ref u.1))\/H t=some (.tup (us.map λu=>V.ref u.1)))/\fS H us/\us.length<=200/\m<=7/\∀(b:Bool) (H':Hp),az H H'->(b=true↔Right ((ts.map (·.2)).zip ws) m weight (us.map aJ))->Q (.bl b) H'
@[irreducible] def sJ:Sp:=uT
theorem jU {vs:List V}{H:Hp}{Q:VK}{E:XK}:sJ vs H Q E↔uT vs H Q E:=by
 delta sJ
 exact Ai
@[irreducible] def mZ (C:Addr):Sp:=λvs H Q E=>∃(r l t:Addr) (bw:Bool) (m:Nat) (ts:List (Addr×List Int)) (ws:List Int) (weight:Int) (us:List (Addr×(Addr×List Int)×Int)),vs=[.ref r,.ref l,.int weight,.ref t]/\Ow H r (m:Int) ts/\ts.length<=200/\(ts.map (·.2)).Nodup/\H l=some (sqO bw (ws.map V.int))/\ws.length=ts.length/\(H t=some (.lst (us.map λu=>V.ref u.1))\/H t=some (.tup (us.map λu=>V.ref u.1)))/\fS H us/\us.length<=200/\(m<=7->∀(b:Bool) (H':Hp),az H H'->(b=true↔Right ((ts.map (·.2)).zip ws) m weight (us.map aJ))->Q (.bl b) H')/\(7<m->E (.ref C) none H)
theorem fQ {C:Addr}{vs:List V}{H:Hp}{Q:VK}{E:XK}:mZ C vs H Q E↔∃(r l t:Addr) (bw:Bool) (m:Nat) (ts:List (Addr×List Int)) (ws:List Int) (weight:Int) (us:List (Addr×(Addr×List Int)×Int)),vs=[.ref r,.ref l,.int weight,.ref t]/\Ow H r (m:Int) ts/\ts.length<=200/\(ts.map (·.2)).Nodup/\H l=some (sqO bw (ws.map V.int))/\ws.length=ts.length/\(H t=some (.lst (us.map λu=>V.ref u.1))\/H t=some (.tup (us.map λu=>V.ref u.1)))/\fS H us/\us.length<=200/\(m<=7->∀(b:Bool) (H':Hp),az H H'->(b=true↔Right ((ts.map (·.2)).zip ws) m weight (us.map aJ))->Q (.bl b) H')/\(7<m->E (.ref C) none H):=by
 delta mZ
 exact Ai
theorem uv {C:Addr}:∀vs H Q E,sJ vs H Q E->mZ C vs H Q E0:=λvs H Q E h=>by
 obtain ⟨r,l,t,bw,m,ts,ws,wt,us,e,W,tl,nd,el,lw,et,en,lu,m7,q⟩:=jU.mp h
 exact fQ.mpr ⟨r,l,t,bw,m,ts,ws,wt,us,e,W,tl,nd,el,lw,et,en,lu,λ_=>q,λz=>absurd z (by omega)⟩
section
variable  {P:xX}{w:yv}{K:xx}{mg:Str->Option xw}{base:Heap}{f:Addr}{fd:yM}{c_WebError c_BadWeb c_NoStep c_NoText c_TooMany c_NoTie c_NoRing c_NotClear c_NotThree c_BadBoard c_NoRow c_NoBack:Addr}
theorem eB:aH ["web", "worths", "weight", "table", "least", "told"] ["web", "worths", "weight", "table"] (aq di):=⟨rfl,rfl,rfl,by decide +kernel,rfl,by decide +kernel,by decide +kernel⟩
theorem il:(["row"]:List Str).Nodup:=by decide +kernel
theorem l8 (F:Fun K "table_shows" "table_shows" di f fd)(B:Blt mg)(Z:Exs K mg c_WebError c_BadWeb c_NoStep c_NoText c_TooMany c_NoTie c_NoRing c_NotClear c_NotThree c_BadBoard c_NoRow c_NoBack)(xFew:j7 P w K mg base 1 "look_few" ["web"] (jT c_TooMany))(cSetWeights:Cal P w K mg base 3 "set_weights" ["many", "rows"] r6)(cWorthRows:Cal P w K mg base 1 "worth_rows" ["web", "worths"] rY)(C:Cst mg):bF P w K mg base (CX1 P w) 4 f fd ["web", "worths", "weight", "table"] (mZ c_TooMany):=by
 refine F.okX eB (λvs H Q E h =>?_) (λcdv A outer s H vs Q E hr h =>?_)
 ·obtain ⟨_,_,_,_,_,_,_,_,_,rfl,_⟩:=fQ.mp h
  rfl
 obtain ⟨r,l,t,bw,m,ts,ws,weight,us,rfl,W,tl,nd,el,lw,et,en,lu,q1,q2⟩:=fQ.mp h
 have hu:(eE CX0 P w K mg base ["web", "worths", "weight", "table", "least", "told"] "table_shows" (aq di) f cdv A outer s H E).nox.A.units+1<cLine:=iq hr
 refine ⟨_,(@ah _ _ _ _ _ (bZ (oT uJ xFew hr (by decide) rfl (@aa _ _ _ _ _ (pv 0) ag rfl)))
  (@ah _ _ _ _ _ (@au _ _ 4 _ _ _ _ eB.nd rfl (Or.inl rfl) (aD cSetWeights hr (by decide) rfl (@aa _ _ _ _ _ (@aE _ _ _ _ _ _ _ aK (pv 0) ai (λ_ _=>rfl)) (@aa _ _ _ _ _ (aD cWorthRows hr (by decide) rfl (@aa _ _ _ _ _ (pv 0) (@aa _ _ _ _ _ (pv 1) ag rfl) rfl)) ag rfl) rfl)) rfl (by first | exact .inl rfl | exact .inr rfl | assumption))
  (@ah _ _ _ _ _ (ji (i:=5) ["row"] [none] rfl eB.nd rfl rfl (vK (pv 3)) rfl (λ_ _ _ _ _=>(aB (i:=0) il rfl (Or.inl rfl))) (λ_ _ _ _ _=>dQ) (λ_ _ _ _ _=>(@aY _ _ _ _ _ (@aa _ _ _ _ _ (aG (iG (K:=K)) rfl B.b_tuple bz (@aa _ _ _ _ _ (@aE _ _ _ _ _ _ _ (dS (K:=K)) (pv 0) ai (λ_ _=>rfl)) ag rfl)) (@aa _ _ _ _ _ (@aE _ _ _ _ _ _ _ (dS (K:=K)) (pv 0) ai (λ_ _=>rfl)) ag rfl) rfl))))
  (@ao _ _ _ (@aX _ _ _ _ (lh (gi (t6 hr) (pv 5) (av (fY hr.hd (hu8 hr)) rfl B.b_sorted cx (@aa _ _ _ _ _ (qF CB Bp CC kP (pv 4)) ag rfl)) (aU _)) (lb (gi eQ (pv 2) (cg hu (pv 4) (aG (cZ hr.hd) rfl B.b_tuple bz (@aa _ _ _ _ _ (aG cY rfl B.b_range gJ (@aa _ _ _ _ _ (@aE _ _ _ _ _ _ _ aK (pv 0) ai (λ_ _=>rfl)) ag rfl)) ag rfl)) (λ_ _=>rfl)) (aU _))))))))),?_⟩
 obtain ⟨t',e1,e2⟩:=W.at'
 refine ⟨_,rfl,eg.mpr ⟨r,m,ts,rfl,W,λm7 =>?_,q2⟩⟩
 have q:=q1 m7
 refine ⟨_,rfl,r,_,0,_,rfl,rfl,SqT.of e1,rfl,_,rfl,_,rfl,gP.mpr ⟨r,l,bw,m,ts,ws,rfl,W,m7,tl,nd,el,lw,λrl as H1 s1 erl la row=>gR.mpr ⟨rl,m,as,_,rfl,⟨erl,la,row⟩,m7,sF W ws,λdd Ls H2 s2 z ed =>?_⟩⟩⟩
 have s02:=s1.trans s2
 have et2:H2 t=some (.lst (us.map λu=>V.ref u.1))\/H2 t=some (.tup (us.map λu=>V.ref u.1)):=et.imp (s02 _ _) (s02 _ _)
 have en2:=bC en s02
 have e12:=s02 _ _ e1
 generalize hZ:(ts.map (·.2)).zip ws=Z at *
 refine ⟨_,rfl,t,rfl,pM (xs:=us.map λu=>V.ref u.1) (λk ys H'=>az H2 H'/\∃rs:List (Addr×(Addr×List Int)×Int),ys=(rs.map λu=>V.ref u.1)/\fS H' rs/\rs.map aJ=(us.take k).map aJ) et2 ⟨az.refl _,[],rfl,λu hu=>(by cases hu),rfl⟩ (by rw[xt];exact cU (by omega)) (λk ys H' h=>et2.elim (λe=>h.1.at e) (λe=>h.1.at e)) ?_ ?_⟩
 ·rintro k x ys H3 hx hy ⟨s3,rs,rfl,er,em⟩ R1 R0 r1 r0
  obtain ⟨u,eu,rfl⟩:=fi hx
  obtain ⟨h1,h2⟩:=en2 u (xD eu)
  refine eV ⟨_,rfl,u.1,_,0,_,rfl,rfl,SqT.of (s3 _ _ h1),rfl,u.2.1.1,_,rfl,.inr ⟨SqT.of (s3 _ _ h2),_,rfl,u.1,_,1,_,rfl,rfl,SqT.of (s3 _ _ h1),rfl,(by show 2<=xG;decide),λp hp=>r1 _ _ ⟨s3.trans (ae hp _),rs++[(p,u.2)],by rw[xH];rfl,λo ho =>?_,?_⟩⟩⟩
  ·rcases xS.mp ho with y | y
   ·exact (bC er (ae hp _)) o y
   ·rw[yd.mp y]
    exact ⟨af,(ae hp _) _ _ (s3 _ _ h2)⟩
  ·rw[xH,em,ye,eu,xH];rfl
 rintro ys H3 hy ⟨s3,rs,rfl,er,em⟩ l3 hl3
 rw[xt,xW (xC _)] at em
 have g4:=ae hl3 (.lst (rs.map λu=>V.ref u.1))
 have e4:upd H3 l3 (.lst (rs.map λu=>V.ref u.1)) l3=some (.lst (rs.map λu=>V.ref u.1)):=af
 generalize upd H3 l3 (.lst (rs.map λu=>V.ref u.1))=H4 at g4 e4
 have s24:=s3.trans g4
 refine ⟨_,rfl,_,rfl,.inr (.inr (.inl ⟨rfl,.inr ⟨_,s24 _ _ ed⟩⟩)),dd,_,rfl,rfl,s24 _ _ ed,λp hp=>⟨p,dd,bp Z Ls,rfl,af,(ae hp _) _ _ (s24 _ _ ed),λl5 out H5 s5 hl5 e5 en5 pm so =>?_⟩⟩
 have s45:=(ae hp (fj p dd)).trans s5
 have s25:=s24.trans s45
 refine ⟨l3,l5,rs,out,rfl,rfl,s45 _ _ e4,e5,bC er (g4.trans s45),en5,?_⟩
 have key:decide (rs.map aJ=out.map aJ)=true↔(us.map aJ).Perm (bp Z (sbs (rgI m)))/\(us.map aJ).Pairwise λx y=>Srt.qLt y x=false:=by
  rw[decide_eq_true_iff,em]
  have pm':=pm.trans (ig z)
  constructor
  ·intro e
   rw[e];exact ⟨pm',so⟩
  ·rintro ⟨p1,p2⟩
   exact mR (p1.trans pm'.symm) p2 so
 refine ⟨_,rfl,cQ (λc =>?_) (λc=>q false _ (s02.trans s25) ⟨λh=>(by cases h),λh=>absurd (key.mpr h.1) c⟩)⟩
 refine ⟨_,rfl,_,rfl,_,rfl,r,_,0,_,rfl,rfl,SqT.of (s25 _ _ e12),rfl,(m:Int),rfl,λrg hrg=>⟨rg,m,rfl,af,by omega,λtl htl =>?_⟩⟩
 have g6:=(ae hrg (.rng 0 m)).trans (ae htl (.tup ((yP m).map λi=>V.int (i:Nat))))
 have e6:upd (upd H5 rg (.rng 0 m)) tl (.tup ((yP m).map λi=>V.int (i:Nat))) tl=some (.tup (((rgI m).map (Sum.inl:Int->Key)).map kV)):=by rw[af];unfold rgI;rw[yt,yt];rfl
 generalize upd (upd H5 rg (.rng 0 m)) tl (.tup ((yP m).map λi=>V.int (i:Nat)))=H6 at g6 e6
 have s26:=s25.trans g6
 refine ⟨dd,.int (LW Z (rgI m)),rfl,by have:=fR.t (s26 _ _ ed) e6;rw[bQ,show (bp Z Ls).lookup (rgI m)=some (LW Z (rgI m)) from cI z.all] at this;exact this,?_⟩
 refine ⟨rfl,q _ _ (s02.trans s26) ?_⟩
 rw[decide_eq_true_iff]
 exact ⟨λh=>⟨key.mp c,V.int.inj h⟩,λh=>by rw[h.2]⟩
end
open PySem L2
@[irreducible] def iT (C:Addr):Sp:=λvs H Q E=>∃(ea:Addr),vs=[.ref ea,.int 3]/\H ea=some (gH ea (.ref C))/\∀H',az H H'->Q (.bl true) H'
theorem dm {C:Addr}{vs:List V}{H:Hp}{Q:VK}{E:XK}:iT C vs H Q E↔∃(ea:Addr),vs=[.ref ea,.int 3]/\H ea=some (gH ea (.ref C))/\∀H',az H H'->Q (.bl true) H':=by
 delta iT
 exact Ai
section
variable  {P:xX}{w:yv}{K:xx}{mg:Str->Option xw}{base:Heap}{f:Addr}{fd:yM}{c_WebError c_BadWeb c_NoStep c_NoText c_TooMany c_NoTie c_NoRing c_NotClear c_NotThree c_BadBoard c_NoRow c_NoBack:Addr}
theorem nc:aH ["e", "place", "some"] ["e", "place"] (aq lK):=⟨rfl,rfl,rfl,by decide +kernel,rfl,by decide +kernel,by decide +kernel⟩
theorem sL (F:Fun K "_law_alone" "_law_alone" lK f fd)(B:Blt mg)(Z:Exs K mg c_WebError c_BadWeb c_NoStep c_NoText c_TooMany c_NoTie c_NoRing c_NotClear c_NotThree c_BadBoard c_NoRow c_NoBack)(C:Cst mg):bF P w K mg base CX0 1 f fd ["e", "place"] (iT c_TooMany):=by
 refine F.ok nc (λvs H Q E h =>?_) (λcdv A outer s H vs Q E hr h =>?_)
 ·obtain ⟨_,rfl,_⟩:=dm.mp h
  rfl
 obtain ⟨ea,rfl,ee,q⟩:=dm.mp h
 refine ⟨_,(@ah _ _ _ _ _ (@au _ _ 2 _ _ _ _ nc.nd rfl (Or.inl rfl) (@bJ _ _ _ _ (@aa _ _ _ _ _ (av (bj (K:=K)) rfl B.b_isinstance ax (@aa _ _ _ _ _ (pv 0) (@aa _ _ _ _ _ (bI (v :=.ref c_BadWeb) rfl Z.x_BadWeb rfl) ag rfl) rfl)) (@aa _ _ _ _ _ (av (bj (K:=K)) rfl B.b_isinstance ax (@aa _ _ _ _ _ (pv 0) (@aa _ _ _ _ _ (bI (v :=.ref c_NoStep) rfl Z.x_NoStep rfl) ag rfl) rfl)) (@aa _ _ _ _ _ (av (bj (K:=K)) rfl B.b_isinstance ax (@aa _ _ _ _ _ (pv 0) (@aa _ _ _ _ _ (bI (v :=.ref c_NoText) rfl Z.x_NoText rfl) ag rfl) rfl)) (@aa _ _ _ _ _ (av (bj (K:=K)) rfl B.b_isinstance ax (@aa _ _ _ _ _ (pv 0) (@aa _ _ _ _ _ (bI (v :=.ref c_TooMany) rfl Z.x_TooMany rfl) ag rfl) rfl)) (@aa _ _ _ _ _ (av (bj (K:=K)) rfl B.b_isinstance ax (@aa _ _ _ _ _ (pv 0) (@aa _ _ _ _ _ (bI (v :=.ref c_NoTie) rfl Z.x_NoTie rfl) ag rfl) rfl)) (@aa _ _ _ _ _ (av (bj (K:=K)) rfl B.b_isinstance ax (@aa _ _ _ _ _ (pv 0) (@aa _ _ _ _ _ (bI (v :=.ref c_NoRing) rfl Z.x_NoRing rfl) ag rfl) rfl)) (@aa _ _ _ _ _ (av (bj (K:=K)) rfl B.b_isinstance ax (@aa _ _ _ _ _ (pv 0) (@aa _ _ _ _ _ (bI (v :=.ref c_NotClear) rfl Z.x_NotClear rfl) ag rfl) rfl)) (@aa _ _ _ _ _ (av (bj (K:=K)) rfl B.b_isinstance ax (@aa _ _ _ _ _ (pv 0) (@aa _ _ _ _ _ (bI (v :=.ref c_NotThree) rfl Z.x_NotThree rfl) ag rfl) rfl)) (@aa _ _ _ _ _ (av (bj (K:=K)) rfl B.b_isinstance ax (@aa _ _ _ _ _ (pv 0) (@aa _ _ _ _ _ (bI (v :=.ref c_BadBoard) rfl Z.x_BadBoard rfl) ag rfl) rfl)) (@aa _ _ _ _ _ (av (bj (K:=K)) rfl B.b_isinstance ax (@aa _ _ _ _ _ (pv 0) (@aa _ _ _ _ _ (bI (v :=.ref c_NoRow) rfl Z.x_NoRow rfl) ag rfl) rfl)) (@aa _ _ _ _ _ (av (bj (K:=K)) rfl B.b_isinstance ax (@aa _ _ _ _ _ (pv 0) (@aa _ _ _ _ _ (bI (v :=.ref c_NoBack) rfl Z.x_NoBack rfl) ag rfl) rfl)) ag rfl) rfl) rfl) rfl) rfl) rfl) rfl) rfl) rfl) rfl) rfl)) rfl (by first | exact .inl rfl | exact .inr rfl | assumption))
  (@ah _ _ _ _ _ (@b8 _ _ _ _ _ _ _ _ (PW.pt (iY (eJ (cO (av (bj (K:=K)) rfl B.b_isinstance ax (@aa _ _ _ _ _ (pv 0) (@aa _ _ _ _ _ (bI (v :=.ref c_WebError) rfl Z.x_WebError rfl) ag rfl) rfl)))) (iX (eJ (cO (av (bj (K:=K)) rfl B.b_isinstance ax (@aa _ _ _ _ _ (pv 0) (@aa _ _ _ _ _ (fB (v :=.ty "ValueError") rfl B.b_ValueError j8 rfl) ag rfl) rfl))))))) dB ba)
  (@ao _ _ _ (@aX _ _ _ _ (lh (gi eQ (eC yz Cz PySem.F.type_list_count p6 (pv 2) (@aa _ _ _ _ _ ux ag rfl)) ai (aU _)) (lb (@aE _ _ _ _ _ _ _ cB (pv 2) (pv 1) (λ_ _=>rfl)))))))),?_⟩
 refine ⟨_,rfl,ea,c_TooMany,_,false,rfl,ee,Z.n_i,rfl,Z.n_o0,_,rfl,ea,c_TooMany,_,false,rfl,ee,Z.n_i,rfl,Z.n_o1,_,rfl,ea,c_TooMany,_,false,rfl,ee,Z.n_i,rfl,Z.n_o2,_,rfl,ea,c_TooMany,_,true,rfl,ee,Z.n_i,rfl,Z.n_n,_,rfl,ea,c_TooMany,_,false,rfl,ee,Z.n_i,rfl,Z.n_o3,_,rfl,ea,c_TooMany,_,false,rfl,ee,Z.n_i,rfl,Z.n_o4,_,rfl,ea,c_TooMany,_,false,rfl,ee,Z.n_i,rfl,Z.n_o5,_,rfl,ea,c_TooMany,_,false,rfl,ee,Z.n_i,rfl,Z.n_o6,_,rfl,ea,c_TooMany,_,false,rfl,ee,Z.n_i,rfl,Z.n_o7,_,rfl,ea,c_TooMany,_,false,rfl,ee,Z.n_i,rfl,Z.n_o8,_,rfl,ea,c_TooMany,_,false,rfl,ee,Z.n_i,rfl,Z.n_o9,(by show 11<=xG;decide),λl hl =>?_⟩
 have g1:=ae hl (.lst [.bl false,.bl false,.bl false,.bl true,.bl false,.bl false,.bl false,.bl false,.bl false,.bl false,.bl false])
 have el:upd H l (.lst [.bl false,.bl false,.bl false,.bl true,.bl false,.bl false,.bl false,.bl false,.bl false,.bl false,.bl false]) l=some (.lst (([false,false,false,true,false,false,false,false,false,false,false]:List Bool).map V.bl)):=af
 have ee1:=g1 _ _ ee
 generalize upd H l (.lst [.bl false,.bl false,.bl false,.bl true,.bl false,.bl false,.bl false,.bl false,.bl false,.bl false,.bl false])=H1 at g1 el ee1
 refine ⟨_,rfl,ea,c_TooMany,_,true,rfl,ee1,Z.n_i,rfl,Z.n_w,_,rfl,dO ⟨_,rfl,ea,c_TooMany,_,true,rfl,ee1,Z.n_i,rfl,Z.n_v,_,rfl,dO ?_⟩⟩
 refine ⟨_,rfl,.inl ⟨rfl,_,SqL.of el⟩,l,_,true,rfl,rfl,el,rfl,true,by rw[decide_eq_true (by decide)],eV ⟨_,rfl,_,rfl,l,_,3,_,rfl,rfl,SqL.of el,rfl,q _ g1⟩⟩
end
abbrev sM:Sp:=λvs H Q _=>∃(r l:Addr) (m:Nat) (ts:List (Addr×List Int)) (ws:List Int),vs=[.ref r,.ref l]/\Ow H r (m:Int) ts/\7<m/\ts.length<=200/\(ts.map (·.2)).Nodup/\H l=some (.lst (ws.map V.int))/\ws.length=ts.length/\∀H',az H H'->Q (.bl true) H'
@[irreducible] def oU:Sp:=sM
theorem ip {vs:List V}{H:Hp}{Q:VK}{E:XK}:oU vs H Q E↔sM vs H Q E:=by
 delta oU
 exact Ai
section
variable  {P:xX}{w:yv}{K:xx}{mg:Str->Option xw}{base:Heap}{f:Addr}{fd:yM}{c_WebError c_BadWeb c_NoStep c_NoText c_TooMany c_NoTie c_NoRing c_NotClear c_NotThree c_BadBoard c_NoRow c_NoBack:Addr}
theorem aW:aH ["web", "worths", "found", "e", "other"] ["web", "worths"] (aq dy):=⟨rfl,rfl,rfl,by decide +kernel,rfl,by decide +kernel,by decide +kernel⟩
theorem jV (F:Fun K "_law_many_refused" "_law_many_refused" dy f fd)(B:Blt mg)(Z:Exs K mg c_WebError c_BadWeb c_NoStep c_NoText c_TooMany c_NoTie c_NoRing c_NotClear c_NotThree c_BadBoard c_NoRow c_NoBack)(xLeast:j7 P w K mg base 4 "least_order" ["web", "worths"] (mY c_TooMany))(xShows:j7 P w K mg base 4 "table_shows" ["web", "worths", "weight", "table"] (mZ c_TooMany))(cLAlone:Cal P w K mg base 1 "_law_alone" ["e", "place"] (iT c_TooMany))(C:Cst mg):bF P w K mg base CX0 5 f fd ["web", "worths"] oU:=by
 refine F.ok aW (λvs H Q E h =>?_) (λcdv A outer s H vs Q E hr h =>?_)
 ·obtain ⟨_,_,_,_,_,rfl,_⟩:=ip.mp h
  rfl
 obtain ⟨r,l,m,ts,ws,rfl,W,m8,tl,nd,el,lw,q⟩:=ip.mp h
 refine ⟨_,(@ah _ _ _ _ _ (@au _ _ 2 _ _ _ _ aW.nd rfl (Or.inl rfl) qk rfl (by first | exact .inl rfl | exact .inr rfl | assumption))
  (@ah _ _ _ _ _ (rK (i:=3) (n := "e") (x := "WebError") rfl rfl aW.nd rfl rfl rfl Z.x_WebError (oB (mG xLeast hr (by decide) rfl (@aa _ _ _ _ _ (pv 0) (@aa _ _ _ _ _ (pv 1) ag rfl) rfl))) (λ_=>(@ao _ _ _ (@au _ _ 2 _ _ _ _ aW.nd rfl (Or.inl rfl) (pv 3) rfl (by first | exact .inl rfl | exact .inr rfl | assumption)))))
  (@ah _ _ _ _ _ (@au _ _ 4 _ _ _ _ aW.nd rfl (Or.inl rfl) qk rfl (by first | exact .inl rfl | exact .inr rfl | assumption))
  (@ah _ _ _ _ _ (rK (i:=3) (n := "e") (x := "WebError") rfl rfl aW.nd rfl rfl rfl Z.x_WebError (oB (mG xShows hr (by decide) rfl (@aa _ _ _ _ _ (pv 0) (@aa _ _ _ _ _ (pv 1) (@aa _ _ _ _ _ ai (@aa _ _ _ _ _ (@bJ _ _ _ _ ag) ag rfl) rfl) rfl) rfl))) (λ_=>(@ao _ _ _ (@au _ _ 4 _ _ _ _ aW.nd rfl (Or.inl rfl) (pv 3) rfl (by first | exact .inl rfl | exact .inr rfl | assumption)))))
  (@ao _ _ _ (@aX _ _ _ _ (lh (aD cLAlone hr (by decide) rfl (@aa _ _ _ _ _ (pv 2) (@aa _ _ _ _ _ ai ag rfl) rfl)) (lb (aD cLAlone hr (by decide) rfl (@aa _ _ _ _ _ (pv 4) (@aa _ _ _ _ _ ai ag rfl) rfl)))))))))),?_⟩
 refine ⟨_,rfl,_,rfl,fP.mpr ⟨r,l,true,m,ts,ws,rfl,W,tl,nd,el,lw,λh=>absurd h (by omega),λ_=>⟨Z.n_m,λea he =>?_⟩⟩⟩
 have s1:=ae he (gH ea (.ref c_TooMany))
 have ee:upd H ea (gH ea (.ref c_TooMany)) ea=some (gH ea (.ref c_TooMany)):=af
 generalize upd H ea (gH ea (.ref c_TooMany))=H1 at s1 ee
 refine ⟨_,rfl,_,rfl,_,rfl,(by show 0<=xG;decide),λnl hnl =>?_⟩
 have g2:=ae hnl (.lst [])
 have enl:upd H1 nl (.lst []) nl=some (.lst (([]:List (Addr×(Addr×List Int)×Int)).map λu=>V.ref u.1)):=af
 generalize upd H1 nl (.lst [])=H2 at g2 enl
 have s2:=s1.trans g2
 refine fQ.mpr ⟨r,l,nl,true,m,ts,ws,0,[],rfl,W.same s2,tl,nd,s2 _ _ el,lw,.inl enl,λu hu=>(by cases hu),yE _,λh=>absurd h (by omega),λ_=>⟨Z.n_m,λeb he2 =>?_⟩⟩
 have g3:=ae he2 (gH eb (.ref c_TooMany))
 have ee2:upd H2 eb (gH eb (.ref c_TooMany)) eb=some (gH eb (.ref c_TooMany)):=af
 generalize upd H2 eb (gH eb (.ref c_TooMany))=H3 at g3 ee2
 refine ⟨_,rfl,_,rfl,dm.mpr ⟨ea,rfl,g3 _ _ (g2 _ _ ee),λH4 s4=>⟨_,rfl,eV ⟨_,rfl,dm.mpr ⟨eb,rfl,s4 _ _ ee2,λH5 s5=>q H5 (s2.trans (g3.trans (s4.trans s5)))⟩⟩⟩⟩⟩
end
open PySem L2
def ng (K:xx):Sp:=λvs H Q _=>∃(a:Addr) (ns:List Int),vs=[.ref a]/\SqL K H a (ns.map V.int)/\ns.length<=63/\∀H',Q (.bl true) H'
theorem kX {K:xx}{vs:List V}{H:Hp}{Q:VK}{E:XK}:ng K vs H Q E↔∃(a:Addr) (ns:List Int),vs=[.ref a]/\SqL K H a (ns.map V.int)/\ns.length<=63/\∀H',Q (.bl true) H':=Ai
theorem wd {K:xx}{b:Bool}{H:Hp}{a:Addr}{xs:List V}(h:H a=some (sqO b xs)):SqL K H a xs\/SqT K H a xs:=by
 unfold sqO at h
 cases b with
 | true=>exact .inl (SqL.of h)
 | false=>exact .inr (SqT.of h)
theorem jW {K:xx}{H:Hp}{n:Nat}:∀ns:List Int,Paired (EqS K H (n+1)) (ns.map V.int) (ns.map V.int)
 | [] =>.nil
 | a :: t =>.cons (.inl ⟨a,rfl,rfl⟩) (jW t)
theorem ni {K:xx}{H:Hp}{n:Nat}:∀{us ws:List (Addr×(Addr×List Int)×Int)},fS H us->fS H ws->us.map aJ=ws.map aJ->Paired (EqS K H (n+3)) (us.map λu=>V.ref u.1) (ws.map λu=>V.ref u.1)
 | [],[],_,_,_ =>.nil
 | [],w :: ws,_,_,e=>by cases e
 | u :: us,[],_,_,e=>by cases e
 | u :: us,w :: ws,eu,ew,e=>by
  have e1:(u.2.1.2,u.2.2)=(w.2.1.2,w.2.2):=(Bq e).1
  have k1:=(EN e1).1
  have k2:=(EN e1).2
  obtain ⟨a1,a2⟩:=eu u xT
  obtain ⟨b1,b2⟩:=ew w xT
  refine .cons (.inr (.inr (.inr ⟨u.1,w.1,_,_,rfl,rfl,.inl ⟨SqT.of a1,SqT.of b1⟩,.cons (.inr (.inr (.inr ⟨u.2.1.1,w.2.1.1,_,_,rfl,rfl,.inl ⟨SqT.of a2,SqT.of b2⟩,?_⟩))) (.cons (.inl ⟨_,rfl,by rw[k2]⟩) .nil)⟩))) (ni (λx hx=>eu x (xO _ hx)) (λx hx=>ew x (xO _ hx)) (Bq e).2)
  rw[k1]
  exact jW _
section
variable  {P:xX}{w:yv}{K:xx}{mg:Str->Option xw}{base:Heap}{f:Addr}{fd:yM}{c_WebError c_BadWeb c_NoStep c_NoText c_TooMany c_NoTie c_NoRing c_NotClear c_NotThree c_BadBoard c_NoRow c_NoBack:Addr}
theorem fA:aH ["script", "k", "pot", "web", "worths", "weight", "order", "due", "handed", "found", "great"] ["script"] (aq qb):=⟨rfl,rfl,rfl,by decide +kernel,rfl,by decide +kernel,by decide +kernel⟩
theorem xr (F:Fun K "law" "law" qb f fd)(B:Blt mg)(cLDeal:Cal P w K mg base 1 "_law_deal" ["script", "k"] (lL K))(cLOneway:Cal P w K mg base 2 "_law_oneway" ["pot", "most"] gM)(cLWorths:Cal P w K mg base 2 "_law_worths" ["pot", "web"] gL)(cLFirst:Cal P w K mg base 2 "_law_first" ["web", "worths"] oS)(cLTable:Cal P w K mg base 2 "_law_table" ["web", "worths"] oQ)(cTableShows:Cal P w K mg base 4 "table_shows" ["web", "worths", "weight", "table"] sJ)(cLeastOrder:Cal P w K mg base 4 "least_order" ["web", "worths"] sI)(cLManyRefused:Cal P w K mg base 5 "_law_many_refused" ["web", "worths"] oU)(cLPick:Cal P w K mg base 1 "_law_pick" ["pot", "many"] hX)(cLWhole:Cal P w K mg base 1 "_law_whole" ["found"] lM)(C:Cst mg):bF P w K mg base CX0 6 f fd ["script"] (ng K):=by
 refine F.ok fA (λvs H Q E h =>?_) (λcdv A outer s H vs Q E hr h =>?_)
 ·obtain ⟨_,_,rfl,_⟩:=kX.mp h
  rfl
 obtain ⟨a,ns,rfl,hS,h63,q⟩:=kX.mp h
 refine ⟨_,(@ah _ _ _ _ _ (@bR _ _ _ _ _ _ _ _ yL rfl (bV rfl B.b_range (@aa _ _ _ _ _ (av (oZ rfl) rfl B.b_max v3 (@aa _ _ _ _ _ ai (@aa _ _ _ _ _ (av (o7 rfl) rfl B.b_min jC (@aa _ _ _ _ _ (av gp rfl B.b_len rQ (@aa _ _ _ _ _ (pv 0) ag rfl)) (@aa _ _ _ _ _ ai ag rfl) rfl)) ag rfl) rfl)) ag rfl)) (aB (i:=1) fA.nd rfl (Or.inl rfl))
   (@ah _ _ _ _ _ (@au _ _ 2 _ _ _ _ fA.nd rfl (Or.inl rfl) (aD cLDeal hr (by decide) rfl (@aa _ _ _ _ _ (pv 0) (@aa _ _ _ _ _ (pv 1) ag rfl) rfl)) rfl (by first | exact .inl rfl | exact .inr rfl | assumption))
   (@ah _ _ _ _ _ (@au _ _ 3 _ _ _ _ fA.nd rfl (Or.inl rfl) (aD cLOneway hr (by decide) rfl (@aa _ _ _ _ _ (pv 2) (@aa _ _ _ _ _ (@aE _ _ _ _ _ _ _ aK (@aY _ _ _ _ _ (@aa _ _ _ _ _ ai (@aa _ _ _ _ _ ai ag rfl) rfl)) (aD cLPick hr (by decide) rfl (@aa _ _ _ _ _ (pv 2) (@aa _ _ _ _ _ ai ag rfl) rfl)) (λ_ _=>rfl)) ag rfl) rfl)) rfl (by first | exact .inl rfl | exact .inr rfl | assumption))
   (@ah _ _ _ _ _ (@au _ _ 4 _ _ _ _ fA.nd rfl (Or.inl rfl) (aD cLWorths hr (by decide) rfl (@aa _ _ _ _ _ (pv 2) (@aa _ _ _ _ _ (pv 3) ag rfl) rfl)) rfl (by first | exact .inl rfl | exact .inr rfl | assumption))
   (@ah _ _ _ _ _ (@i5 _ _ _ _ _ _ (aD cLFirst hr (by decide) rfl (@aa _ _ _ _ _ (pv 3) (@aa _ _ _ _ _ (pv 4) ag rfl) rfl)) (i0 rfl (bM (aB (i:=5) fA.nd rfl (Or.inl rfl)) (bM (aB (i:=6) fA.nd rfl (Or.inl rfl)) gh))) rfl rfl rfl)
   (@ah _ _ _ _ _ (@au _ _ 7 _ _ _ _ fA.nd rfl (Or.inl rfl) (@aY _ _ _ _ _ (@aa _ _ _ _ _ (pv 5) (@aa _ _ _ _ _ (pv 6) (@aa _ _ _ _ _ (aD cLTable hr (by decide) rfl (@aa _ _ _ _ _ (pv 3) (@aa _ _ _ _ _ (pv 4) ag rfl) rfl)) ag rfl) rfl) rfl)) rfl (by first | exact .inl rfl | exact .inr rfl | assumption))
   (@ah _ _ _ _ _ (@b8 _ _ _ _ _ _ _ _ (PW.pt (iY (eJ (cO (aD cTableShows hr (by decide) rfl (@aa _ _ _ _ _ (pv 3) (@aa _ _ _ _ _ (aG bh rfl B.b_tuple bz (@aa _ _ _ _ _ (pv 4) ag rfl)) (@aa _ _ _ _ _ (pv 5) (@aa _ _ _ _ _ (aG dN rfl B.b_list gI (@aa _ _ _ _ _ (@aE _ _ _ _ _ _ _ aK (pv 7) ai (λ_ _=>rfl)) ag rfl)) ag rfl) rfl) rfl) rfl)))) (iX (cO (aD cTableShows hr (by decide) rfl (@aa _ _ _ _ _ (pv 3) (@aa _ _ _ _ _ (pv 4) (@aa _ _ _ _ _ (@aF _ _ _ _ _ _ _ _ cf (pv 5) ai) (@aa _ _ _ _ _ (@aE _ _ _ _ _ _ _ aK (pv 7) ai (λ_ _=>rfl)) ag rfl) rfl) rfl) rfl)))))) dB ba)
   (@ah _ _ _ _ _ (@bR _ _ _ _ _ _ _ _ yL rfl (@dt _ _ _ _ (@aY _ _ _ _ _ (@aa _ _ _ _ _ (aG dN rfl B.b_list gI (@aa _ _ _ _ _ (pv 4) ag rfl)) (@aa _ _ _ _ _ (aG bh rfl B.b_tuple bz (@aa _ _ _ _ _ (pv 4) ag rfl)) ag rfl) rfl))) (aB (i:=8) fA.nd rfl (Or.inl rfl))
    (@ah _ _ _ _ _ (@au _ _ 9 _ _ _ _ fA.nd rfl (Or.inl rfl) (aD cLeastOrder hr (by decide) rfl (@aa _ _ _ _ _ (pv 3) (@aa _ _ _ _ _ (pv 8) ag rfl) rfl)) rfl (by first | exact .inl rfl | exact .inr rfl | assumption))
    (@ah _ _ _ _ _ (@b8 _ _ _ _ _ _ _ _ (PW.pt (iY (aM (ox hr) (aG dN rfl B.b_list gI (@aa _ _ _ _ _ (pv 8) ag rfl)) (pv 4) (aU _)) (iY (eJ (cO (av cC rfl B.b_isinstance ax (@aa _ _ _ _ _ (pv 9) (@aa _ _ _ _ _ (fB (v :=.ty "tuple") rfl B.b_tuple bz rfl) ag rfl) rfl)))) (iY (aM (tW hr) (pv 9) (pv 7) (aU _)) (iX (eJ (cO (aD cLWhole hr (by decide) rfl (@aa _ _ _ _ _ (@aE _ _ _ _ _ _ _ aK (pv 9) ai (λ_ _=>rfl)) ag rfl))))))))) dB ba)
    (@ah _ _ _ _ _ (@b8 _ _ _ _ _ _ _ _ (PW.pt (iY (eJ (cO (av cC rfl B.b_isinstance ax (@aa _ _ _ _ _ (@aE _ _ _ _ _ _ _ aK (pv 9) ai (λ_ _=>rfl)) (@aa _ _ _ _ _ (fB (v :=.ty "list") rfl B.b_list gI rfl) ag rfl) rfl)))) (iX (eJ (cO (av cC rfl B.b_isinstance ax (@aa _ _ _ _ _ (@aE _ _ _ _ _ _ _ aK (pv 9) ai (λ_ _=>rfl)) (@aa _ _ _ _ _ (fB (v :=.ty "list") rfl B.b_list gI rfl) ag rfl) rfl))))))) dB ba)
    (@ah _ _ _ _ _ (bZ (eC yz yX yY bW (@aE _ _ _ _ _ _ _ aK (pv 9) ai (λ_ _=>rfl)) (@aa _ _ _ _ _ ai ag rfl)))
    (@ao _ _ _ (bZ (eC yz yX yY bW (@aE _ _ _ _ _ _ _ aK (pv 9) ai (λ_ _=>rfl)) (@aa _ _ _ _ _ (@aY _ _ _ _ _ ag) ag rfl)))))))) (λ_=>rfl))
   (@ah _ _ _ _ _ (@au _ _ 10 _ _ _ _ fA.nd rfl (Or.inl rfl) (@aY _ _ _ _ _ (@aa _ _ _ _ _ (@aF _ _ _ _ _ _ _ _ cf ai (aD cLPick hr (by decide) rfl (@aa _ _ _ _ _ (pv 2) (@aa _ _ _ _ _ ai ag rfl) rfl))) (@aa _ _ _ _ _ (@aE _ _ _ _ _ _ _ aK (pv 3) ai (λ_ _=>rfl)) ag rfl) rfl)) rfl (by first | exact .inl rfl | exact .inr rfl | assumption))
   (@ao _ _ _ (@b8 _ _ _ _ _ _ _ _ (eJ (cO (aD cLManyRefused hr (by decide) rfl (@aa _ _ _ _ _ (pv 10) (@aa _ _ _ _ _ (pv 4) ag rfl) rfl)))) dB ba)))))))))) (λ_=>rfl))
  (@ao _ _ _ (@aX _ _ _ _ ux))),?_⟩
 refine ⟨_,rfl,a,_,rfl,.inl hS,_,_,rfl,_,_,rfl,?_⟩
 obtain ⟨N,hN,N0,N1⟩:∃N:Int,(if (if (5:Int)<((ns.map V.int).length:Int) then (5:Int) else ((ns.map V.int).length:Int))>1 then (if (5:Int)<((ns.map V.int).length:Int) then (5:Int) else ((ns.map V.int).length:Int)) else 1)=N/\0<=N/\N<=63:=⟨_,rfl,by split <;> (try split) <;> omega,by rw[xt];split <;> (try split) <;> omega⟩
 rw[hN]
 refine ⟨N,rfl,by omega,by omega,cK (λ_ σ H'=>(∃c1 c2 c3 c4 c5 c6 c7 c8 c9 c10,σ=[some (.ref a),c1,c2,c3,c4,c5,c6,c7,c8,c9,c10])/\az H H') ⟨⟨_,_,_,_,_,_,_,_,_,_,rfl⟩,az.refl _⟩ ?_ (λσ H' _=>q _)⟩
 rintro k σ H0 hk ⟨⟨c1,c2,c3,c4,c5,c6,c7,c8,c9,c10,rfl⟩,s0⟩
 have hk':(k:Int)<63:=by omega
 refine ⟨_,rfl,_,rfl,gd.mpr ⟨a,ns,0+(k:Int),rfl,s0.seq hS,by omega,by omega,λx y p hp =>?_⟩⟩
 have p0:Pt 2 (upd H0 p (.lst ([x,y].map V.int))) p:=⟨[x,y],rfl,af⟩
 have b0:=Bu.refl p0
 have g0:=ae hp (.lst ([x,y].map V.int))
 generalize upd H0 p (.lst ([x,y].map V.int))=HA at p0 b0 g0
 refine ⟨_,rfl,(by show 2<=xG;decide),λtq htq =>?_⟩
 have gq:=ae htq (.tup [.int 4,.int 7])
 refine ⟨_,rfl,aR.mpr ⟨p,2,rfl,p0.same gq,by decide,bG (by decide) (by decide),λd H2 d0 d1 u2' =>?_⟩⟩
 have b2:=(b0.same gq).trans u2'
 have etq:=u2'.tup (p0.same gq) af
 obtain ⟨mo,emo,mo0,mo7⟩:∃mo:Int,atI [V.int 4,V.int 7] d=some (.int mo)/\0<=mo/\mo<=7:=by
  rcases (show d=0\/d=1 by omega) with z | z <;> subst z <;> exact ⟨_,rfl,by decide,by decide⟩
 refine ⟨tq,_,d,_,rfl,rfl,SqT.of etq,emo,d8.mpr ⟨p,mo,rfl,b2.pot,mo0,by omega,λb m ts H3 b3' W3 hm lt ri =>?_⟩⟩
 have b3:=b2.trans b3'
 have m7:m<=7:=by omega
 have nd:=xq ri
 refine ⟨_,rfl,_,rfl,d7.mpr ⟨p,b,m,ts,rfl,b3.pot,W3,by omega,λwa Ws H4 b4' hwa nwp ew lw =>?_⟩⟩
 have b4:=b3.trans b4'
 have W4:=W3.bu b4' b3.pot
 have s04:az H0 H4:=λc o e=>b4.st c o (λz=>by subst z;rw[hp] at e;cases e) (g0 _ _ e)
 have pot4:=b4.pot
 generalize hZ:(ts.map (·.2)).zip Ws=Z
 refine ⟨_,rfl,_,rfl,ik.mpr ⟨b,wa,m,ts,Ws,rfl,W4,m7,lt,ew,lw,λpq ol H5 s5 epq eol =>?_⟩⟩
 rw[hZ] at epq eol
 refine ⟨pq,_,rfl,SqT.of epq,rfl,_,_,rfl,_,_,rfl,rfl,?_⟩
 refine ⟨_,rfl,_,rfl,_,rfl,_,rfl,ij.mpr ⟨b,wa,m,ts,Ws,rfl,W4.same s5,m7,lt,s5 _ _ ew,lw,λtl us H6 s6 etl en pm so =>?_⟩⟩
 rw[hZ] at pm
 refine ⟨(by show 3<=xG;decide),λdu hdu =>?_⟩
 have g7:=ae hdu (.tup [.int (LW Z (rgI m)),.ref ol,.ref tl])
 have edu:upd H6 du (.tup [.int (LW Z (rgI m)),.ref ol,.ref tl]) du=some (.tup [.int (LW Z (rgI m)),.ref ol,.ref tl]):=af
 generalize upd H6 du (.tup [.int (LW Z (rgI m)),.ref ol,.ref tl])=H7 at g7 edu
 have s47:=s5.trans (s6.trans g7)
 have W7:=W4.same s47
 have ew7:=s47 _ _ ew
 have eol7:=g7 _ _ (s6 _ _ eol)
 have etl7:=g7 _ _ etl
 have en7:=bC en g7
 have lus:us.length<=200:=by
  have:=pm.length_eq
  unfold bp at this
  rw[xt,xt,gN,aS] at this
  have:2 ^ m<=2 ^ 7:=z9 (by decide) m7
  omega
 refine ⟨_,rfl,_,rfl,wa,_,rfl,.inl ⟨SqL.of ew7,λtw htw =>?_⟩⟩
 have g8:=ae htw (.tup (Ws.map V.int))
 have etw:upd H7 tw (.tup (Ws.map V.int)) tw=some (sqO false (Ws.map V.int)):=af
 generalize upd H7 tw (.tup (Ws.map V.int))=H8 at g8 etw
 refine ⟨_,rfl,_,rfl,du,_,2,_,rfl,rfl,SqT.of (g8 _ _ edu),rfl,tl,_,rfl,.inl (SqL.of (g8 _ _ etl7)),λll hll =>?_⟩
 have g9:=ae hll (.lst (us.map λu=>V.ref u.1))
 have ell:upd H8 ll (.lst (us.map λu=>V.ref u.1)) ll=some (.lst (us.map λu=>V.ref u.1)):=af
 generalize upd H8 ll (.lst (us.map λu=>V.ref u.1))=H9 at g9 ell
 have s79:=g8.trans g9
 refine jU.mpr ⟨b,tw,ll,false,m,ts,Ws,_,us,rfl,W7.same s79,lt,nd,g9 _ _ etw,lw,.inl ell,bC en7 s79,lus,m7,λbo H10 s10 hb =>?_⟩
 rw[hZ] at hb
 have:bo=true:=hb.mpr ⟨⟨pm,so⟩,rfl⟩
 subst this
 have s710:=s79.trans s10
 refine ⟨_,rfl,dO ?_⟩
 refine ⟨_,rfl,_,rfl,_,rfl,_,_,rfl,rfl,_,rfl,du,_,2,_,rfl,rfl,SqT.of (s710 _ _ edu),rfl,jU.mpr ⟨b,wa,tl,true,m,ts,Ws,_,us,rfl,W7.same s710,lt,nd,s710 _ _ ew7,lw,.inl (s710 _ _ etl7),bC en7 s710,lus,m7,λbo H11 s11 hb2 =>?_⟩⟩
 rw[hZ] at hb2
 have:bo=false:=by
  cases bo with
  | false=>rfl
  | true=>exact absurd (hb2.mp rfl).2 (by show ¬ LW Z (rgI m)+1=LW Z (rgI m);omega)
 subst this
 have s711:=s710.trans s11
 refine ⟨_,rfl,dO ?_⟩
 refine ⟨_,rfl,wa,_,rfl,.inl (SqL.of (s711 _ _ ew7)),λhl hhl =>?_⟩
 have g12:=ae hhl (.lst (Ws.map V.int))
 have ehl:upd H11 hl (.lst (Ws.map V.int)) hl=some (.lst (Ws.map V.int)):=af
 generalize upd H11 hl (.lst (Ws.map V.int))=H12 at g12 ehl
 refine ⟨_,rfl,wa,_,rfl,.inl ⟨SqL.of (g12 _ _ (s711 _ _ ew7)),λht hht =>?_⟩⟩
 have g13:=ae hht (.tup (Ws.map V.int))
 have eht:upd H12 ht (.tup (Ws.map V.int)) ht=some (.tup (Ws.map V.int)):=af
 generalize upd H12 ht (.tup (Ws.map V.int))=H13 at g13 eht
 refine ⟨(by show 2<=xG;decide),λtt htt =>?_⟩
 have g14:=ae htt (.tup [.ref hl,.ref ht])
 have ett:upd H13 tt (.tup [.ref hl,.ref ht]) tt=some (.tup [.ref hl,.ref ht]):=af
 have ehl14:=g14 _ _ (g13 _ _ ehl)
 have eht14:=g14 _ _ eht
 generalize upd H13 tt (.tup [.ref hl,.ref ht])=H14 at g14 ett ehl14 eht14
 have s714:=s711.trans (g12.trans (g13.trans g14))
 have W14:=W7.same s714
 have ew14:=s714 _ _ ew7
 have edu14:=s714 _ _ edu
 have eol14:=s714 _ _ eol7
 have etl14:=s714 _ _ etl7
 have en14:=bC en7 s714
 have s014:=s04.trans (s47.trans s714)
 have pot14:=pot4.same (s47.trans s714)
 refine ⟨tt,rfl,⟨_,SqT.of ett⟩,iH (xs:=[.ref hl,.ref ht]) (λi σ H'=>(∃c8 c9,σ=[some (.ref a),some (.int (0+(k:Int))),some (.ref p),some (.ref b),some (.ref wa),some (.int (LW Z (rgI m))),some (.ref ol),some (.ref du),c8,c9,c10])/\az H14 H') ⟨⟨_,_,rfl⟩,az.refl _⟩ (λi σ H' _ z=>SqT.of (z.2 _ _ ett)) ?_ ?_⟩
 ·rintro i v σ H15 hx ⟨⟨c8,c9,rfl⟩,s15⟩
  obtain ⟨hh,bw,rfl,ehh⟩:∃hh bw,v = .ref hh/\H14 hh=some (sqO bw (Ws.map V.int)):=by
   match i,hx with
   | 0,hx=>cases hx;exact ⟨hl,true,rfl,ehl14⟩
   | 1,hx=>cases hx;exact ⟨ht,false,rfl,eht14⟩
  refine ⟨_,rfl,_,rfl,mW.mpr ⟨b,hh,bw,m,ts,Ws,rfl,W14.same s15,lt,nd,s15 _ _ ehh,lw,m7,λpf o2 t2 us2 H16 s16 epf eo2 et2 en2 pm2 so2 ho2 ht2 ne2 =>?_⟩⟩
  rw[hZ] at epf eo2 pm2
  have s1416:=s15.trans s16
  have eus:us2.map aJ=us.map aJ:=mR (pm2.trans pm.symm) so2 so
  refine ⟨_,rfl,hh,_,rfl,wd (s1416 _ _ ehh),λl17 hl17 =>?_⟩
  have g17:=ae hl17 (.lst (Ws.map V.int))
  have e17:upd H16 l17 (.lst (Ws.map V.int)) l17=some (.lst (Ws.map V.int)):=af
  generalize upd H16 l17 (.lst (Ws.map V.int))=H17 at g17 e17
  have s1417:=s1416.trans g17
  refine ⟨_,rfl,l17,wa,Ws,Ws,rfl,rfl,SqL.of e17,SqL.of (s1417 _ _ ew14),_,rfl,wR rfl ?_⟩
  have epf17:=g17 _ _ epf
  have eo217:=g17 _ _ eo2
  have et217:=g17 _ _ et2
  have en217:=bC en2 g17
  refine ⟨_,rfl,.ref pf, "tuple",_,true,rfl,.tup epf17,rfl,_,rfl,dO ?_⟩
  refine ⟨_,rfl,_,rfl,pf,du,_,_,rfl,rfl,SqT.of epf17,SqT.of (s1417 _ _ edu14),.cons (.inl ⟨_,rfl,rfl⟩) (.cons (.inr (.inr (.inr ⟨o2,ol,_,_,rfl,rfl,.inr ⟨SqL.of eo217,SqL.of (s1417 _ _ eol14)⟩,jW _⟩))) (.cons (.inr (.inr (.inr ⟨t2,tl,_,_,rfl,rfl,.inr ⟨SqL.of et217,SqL.of (s1417 _ _ etl14)⟩,ni en217 (bC en14 s1417) eus⟩))) .nil)),_,rfl,dO ?_⟩
  refine ⟨_,rfl,pf,_,0,_,rfl,rfl,SqT.of epf17,rfl,?_⟩
  refine ⟨LW Z (rgI m),rfl,_,rfl,dO ?_⟩
  refine ⟨_,rfl,pf,_,1,_,rfl,rfl,SqT.of epf17,rfl,.ref o2, "list",_,true,rfl,.lst eo217,rfl,_,rfl,dO ?_⟩
  refine ⟨_,rfl,pf,_,2,_,rfl,rfl,SqT.of epf17,rfl,.ref t2, "list",_,true,rfl,.lst et217,rfl,_,rfl,dO ?_⟩
  refine ⟨_,rfl,pf,_,1,_,rfl,rfl,SqT.of epf17,rfl,.inl ⟨rfl,_,SqL.of eo217⟩,o2,_,_,rfl,rfl,eo217,by rw[xt,ic,aS];exact cA (by omega),?_⟩
  have s18:=az.cR s1417 (s15.free ho2) (.lst ((fo Z (rgI m)).map V.int++[.int 0]))
  have epf18:upd H17 o2 (.lst ((fo Z (rgI m)).map V.int++[.int 0])) pf=some (.tup [.int (LW Z (rgI m)),.ref o2,.ref t2]):=by rw[ak (dA epf17 eo217 (by intro z;cases z))];exact epf17
  have et218:upd H17 o2 (.lst ((fo Z (rgI m)).map V.int++[.int 0])) t2=some (.lst (us2.map λu=>V.ref u.1)):=by rw[ak (zj ne2)];exact et217
  generalize upd H17 o2 (.lst ((fo Z (rgI m)).map V.int++[.int 0]))=H18 at s18 epf18 et218
  have lu2:us2.length<=200:=by
   have:=congrArg List.length eus
   rw[xt,xt] at this
   omega
  refine ⟨_,rfl,pf,_,2,_,rfl,rfl,SqT.of epf18,rfl,.inl ⟨rfl,_,SqL.of et218⟩,(by show 0<=xG;decide),λtn htn =>?_⟩
  have g19:=ae htn (.tup [])
  have et219:=g19 _ _ et218
  generalize upd H18 tn (.tup [])=H19 at g19 et219
  exact ⟨t2,_,_,rfl,rfl,et219,by rw[xt];exact cA (by omega),⟨_,_,rfl⟩,az.cR (s18.trans g19) (s15.free ht2) _⟩
 ·rintro σ H15 ⟨⟨c8,c9,rfl⟩,s15⟩
  have pot15:=pot14.same s15
  refine ⟨_,rfl,aR.mpr ⟨p,33,rfl,pot15,by decide,bG (by decide) (by decide),λe H16 d0 d1 u16 =>?_⟩⟩
  have W16:=(W14.same s15).bu u16 pot15
  obtain ⟨tw,f1,f2⟩:=W16.at'
  have ew16:=u16.st _ _ nwp (s15 _ _ ew14)
  refine ⟨_,_,rfl,rfl,_,rfl,b,_,1,_,rfl,rfl,SqT.of f1,rfl,(by show 2<=xG;decide),λgr hgr =>?_⟩
  have g17:=ae hgr (.tup [.int (8+e),.ref tw])
  have egr:upd H16 gr (.tup [.int (8+e),.ref tw]) gr=some (.tup [.int (8+e),.ref tw]):=af
  generalize upd H16 gr (.tup [.int (8+e),.ref tw])=H17 at g17 egr
  have s017:az H0 H17:=λc o h=>g17 _ _ (u16.st c o (λz=>by subst z;rw[hp] at h;cases h) (s15 _ _ (s014 _ _ h)))
  obtain ⟨ge,hge⟩:∃ge:Nat,8+e=(ge:Int):=⟨(8+e).toNat,by omega⟩
  rw[hge] at egr
  have Wg:Ow H17 gr (ge:Int) ts:=⟨⟨tw,egr,g17 _ _ f2⟩,λu hu=>g17 _ _ (W16.tup u hu),λu hu=>by
   obtain ⟨x',y',e3,x0,x1,y0,y1⟩:=W16.rng u hu
   exact ⟨x',y',e3,x0,by omega,y0,by omega⟩⟩
  refine ⟨_,rfl,_,rfl,ip.mpr ⟨gr,wa,ge,ts,Ws,rfl,Wg,by omega,lt,nd,g17 _ _ ew16,lw,λH18 s18=>⟨_,rfl,dO ⟨⟨_,_,_,_,_,_,_,_,_,_,rfl⟩,s0.trans (s017.trans s18)⟩⟩⟩⟩
end
open PySem L2
theorem all_mk {l:PySem.W.OpenLaw}{w:yv}{K:xx}{h:Heap}{mg:Str->Option xw}{fa:Addr}(X:K.In h)(G:h.Ns yh mg)(hfa:mg "law" = some (.ref fa))
  (h1:cj K "without_place" dw) (h2:cj K "all_sets" jw) (h3:cj K "worth_rows" gc) (h4:cj K "last_weight" da) (h5:cj K "set_weights" de) (h6:cj K "can_begin" fK) (h7:cj K "first_order" df) (h8:cj K "look_few" jx) (h9:cj K "least_order" dh) (h10:cj K "table_shows" di) (h11:cj K "_law_deal" jy) (h12:cj K "_law_pick" nU) (h13:cj K "_law_oneway" jA) (h14:cj K "_law_worths" jB) (h15:cj K "_law_sets" nV) (h16:cj K "_law_whole" lJ) (h17:cj K "_law_alone" lK) (h18:cj K "_law_led" rO) (h19:cj K "_law_table" iL) (h20:cj K "_law_first" iM) (h21:cj K "_law_many_refused" dy) (h22:cj K "law" qb)
  (y_bool:yu K yh "bool" = some none) (y_int:yu K yh "int" = some none) (y_isinstance:yu K yh "isinstance" = some none) (y_len:yu K yh "len" = some none) (y_list:yu K yh "list" = some none) (y_max:yu K yh "max" = some none) (y_min:yu K yh "min" = some none) (y_range:yu K yh "range" = some none) (y_sorted:yu K yh "sorted" = some none) (y_sum:yu K yh "sum" = some none) (y_tuple:yu K yh "tuple" = some none) (y_zip:yu K yh "zip" = some none) (y_ValueError:yu K yh "ValueError" = some none)
  {t_MOST_ORDERED:Nat} (q_MOST_ORDERED:yu K yh "MOST_ORDERED" = some (some (.int 7 t_MOST_ORDERED)))
  {c_WebError:Addr} (e_WebError:yu K yh "WebError" = some (some (.ref c_WebError)))
  {c_BadWeb:Addr} (e_BadWeb:yu K yh "BadWeb" = some (some (.ref c_BadWeb)))
  {c_NoStep:Addr} (e_NoStep:yu K yh "NoStep" = some (some (.ref c_NoStep)))
  {c_NoText:Addr} (e_NoText:yu K yh "NoText" = some (some (.ref c_NoText)))
  {c_TooMany:Addr} (e_TooMany:yu K yh "TooMany" = some (some (.ref c_TooMany)))
  {c_NoTie:Addr} (e_NoTie:yu K yh "NoTie" = some (some (.ref c_NoTie)))
  {c_NoRing:Addr} (e_NoRing:yu K yh "NoRing" = some (some (.ref c_NoRing)))
  {c_NotClear:Addr} (e_NotClear:yu K yh "NotClear" = some (some (.ref c_NotClear)))
  {c_NotThree:Addr} (e_NotThree:yu K yh "NotThree" = some (some (.ref c_NotThree)))
  {c_BadBoard:Addr} (e_BadBoard:yu K yh "BadBoard" = some (some (.ref c_BadBoard)))
  {c_NoRow:Addr} (e_NoRow:yu K yh "NoRow" = some (some (.ref c_NoRow)))
  {c_NoBack:Addr} (e_NoBack:yu K yh "NoBack" = some (some (.ref c_NoBack)))
  (n_ex:PySem.W.excIn K c_TooMany rH "ValueError.__new__" = true)
  (n_ga:PySem.W.findIn K (.ref c_TooMany) "__getattribute__" = some (some (.builtin "BaseException.__getattribute__")))
  (n_gt:PySem.W.findIn K (.ref c_TooMany) "__getattr__" = some none)
  (n_cl:PySem.W.findIn K (.ref c_TooMany) "__class__" = some (some (.builtin "object.__class__")))
  (n_mo:PySem.W.subIn K (.ref c_TooMany) (.type "object")=some true)
  (n_sb:PySem.W.subIn K (.ref c_TooMany) (.type "BaseException")=some true)
  (n_it:(PySem.W.clsIn K c_TooMany).isSome=true)
  (n_m:PySem.W.exmOne K (.ref c_TooMany) (.ref c_WebError)=some true)
  (n_v:PySem.W.kitOne K (.ref c_TooMany) (.type "ValueError")=some true)
  (n_w:PySem.W.kitOne K (.ref c_TooMany) (.ref c_WebError)=some true)
  (n_n:PySem.W.kitOne K (.ref c_TooMany) (.ref c_TooMany)=some true)
  (n_o0:PySem.W.kitOne K (.ref c_TooMany) (.ref c_BadWeb)=some false)
  (n_o1:PySem.W.kitOne K (.ref c_TooMany) (.ref c_NoStep)=some false)
  (n_o2:PySem.W.kitOne K (.ref c_TooMany) (.ref c_NoText)=some false)
  (n_o3:PySem.W.kitOne K (.ref c_TooMany) (.ref c_NoTie)=some false)
  (n_o4:PySem.W.kitOne K (.ref c_TooMany) (.ref c_NoRing)=some false)
  (n_o5:PySem.W.kitOne K (.ref c_TooMany) (.ref c_NotClear)=some false)
  (n_o6:PySem.W.kitOne K (.ref c_TooMany) (.ref c_NotThree)=some false)
  (n_o7:PySem.W.kitOne K (.ref c_TooMany) (.ref c_BadBoard)=some false)
  (n_o8:PySem.W.kitOne K (.ref c_TooMany) (.ref c_NoRow)=some false)
  (n_o9:PySem.W.kitOne K (.ref c_TooMany) (.ref c_NoBack)=some false)
  : ∃fd:yM,(∀(s:xy) (v:xw),BindsTo s fd ⟨[v],[]⟩ [("script",v)])/\∀base:Heap,K.In base->base.Ns yh mg->bF l.prog w K mg base CX0 6 fa fd ["script"] (ng K):=by
 obtain ⟨fl,od,an,sl,oc,kV,dc,pm,cd,ct,al,ll,cl,kl⟩:=h22
 have e:=hfa.symm.trans (zc X G al)
 cases e
 have F22:=nA ll cl kl
 have z_bool:=yK X G y_bool
 have z_int:=yK X G y_int
 have z_isinstance:=yK X G y_isinstance
 have z_len:=yK X G y_len
 have z_list:=yK X G y_list
 have z_max:=yK X G y_max
 have z_min:=yK X G y_min
 have z_range:=yK X G y_range
 have z_sorted:=yK X G y_sorted
 have z_sum:=yK X G y_sum
 have z_tuple:=yK X G y_tuple
 have z_zip:=yK X G y_zip
 have z_ValueError:=yK X G y_ValueError
 have w_MOST_ORDERED:=zc X G q_MOST_ORDERED
 refine ⟨PySem.W.fnOf "law" "law" (cE qb) (bO qb) (aq qb) .none kV dc pm an cd ct,λs v =>.of_eq rfl,λbase kb nb =>?_⟩
 have B:Blt mg:=⟨z_bool,z_int,z_isinstance,z_len,z_list,z_max,z_min,z_range,z_sorted,z_sum,z_tuple,z_zip,z_ValueError⟩
 have C:Cst mg:=⟨⟨_,w_MOST_ORDERED⟩⟩
 have x_WebError:=zc X G e_WebError
 have x_BadWeb:=zc X G e_BadWeb
 have x_NoStep:=zc X G e_NoStep
 have x_NoText:=zc X G e_NoText
 have x_TooMany:=zc X G e_TooMany
 have x_NoTie:=zc X G e_NoTie
 have x_NoRing:=zc X G e_NoRing
 have x_NotClear:=zc X G e_NotClear
 have x_NotThree:=zc X G e_NotThree
 have x_BadBoard:=zc X G e_BadBoard
 have x_NoRow:=zc X G e_NoRow
 have x_NoBack:=zc X G e_NoBack
 have Z:Exs K mg c_WebError c_BadWeb c_NoStep c_NoText c_TooMany c_NoTie c_NoRing c_NotClear c_NotThree c_BadBoard c_NoRow c_NoBack:=⟨x_WebError,x_BadWeb,x_NoStep,x_NoText,x_TooMany,x_NoTie,x_NoRing,x_NotClear,x_NotThree,x_BadBoard,x_NoRow,x_NoBack,n_ex,⟨n_ga,n_gt,n_cl,n_mo,n_sb,n_it⟩,n_m,n_v,n_w,n_n,n_o0,n_o1,n_o2,n_o3,n_o4,n_o5,n_o6,n_o7,n_o8,n_o9⟩
 have cLDeal:=h11.cal l.prog w base X G (λF=>uc F B C) λ_ _ _ _ _ _ us hl=>match us,hl with | [_,_],_=>rfl
 have cLPick:=h12.cal l.prog w base X G (λF=>ud F B C) λ_ _ _ _ _ _ us hl=>match us,hl with | [_,_],_=>rfl
 have cLOneway:=h13.cal l.prog w base X G (λF=>qd F B cLPick C) λ_ _ _ _ _ _ us hl=>match us,hl with | [_,_],_=>rfl
 have cLWorths:=h14.cal l.prog w base X G (λF=>qc F B cLPick C) λ_ _ _ _ _ _ us hl=>match us,hl with | [_,_],_=>rfl
 have cLSets:=h15.cal l.prog w base X G (λF=>uj F B C) λ_ _ _ _ _ _ us hl=>match us,hl with | [_],_=>rfl
 have cLLed:=h18.cal l.prog w base X G (λF=>wb F B C) λ_ _ _ _ _ _ us hl=>match us,hl with | [_,_,_,_],_=>rfl
 have cLFirst:=h20.cal l.prog w base X G (λF=>sE F B cLSets cLLed C) λ_ _ _ _ _ _ us hl=>match us,hl with | [_,_],_=>rfl
 have cLTable:=h19.cal l.prog w base X G (λF=>sv F B cLSets cLLed C) λ_ _ _ _ _ _ us hl=>match us,hl with | [_,_],_=>rfl
 have xFew:=h8.vZ l.prog w base X G (λF=>qi F B Z C) λ_ _ _ _ _ _ us hl=>match us,hl with | [_],_=>rfl
 have cAllSets:=h2.cal l.prog w base X G (λF=>qe F B C) λ_ _ _ _ _ _ us hl=>match us,hl with | [_],_=>rfl
 have cWithoutPlace:=h1.cal l.prog w base X G (λF=>jH F B C) λ_ _ _ _ _ _ us hl=>match us,hl with | [_,_],_=>rfl
 have cLastWeight:=h4.cal l.prog w base X G (λF=>lV F B cWithoutPlace C) λ_ _ _ _ _ _ us hl=>match us,hl with | [_,_,_,_],_=>rfl
 have cSetWeights:=h5.cal l.prog w base X G (λF=>lW F B cAllSets cLastWeight C) λ_ _ _ _ _ _ us hl=>match us,hl with | [_,_],_=>rfl
 have cWorthRows:=h3.cal l.prog w base X G (λF=>mO F B C) λ_ _ _ _ _ _ us hl=>match us,hl with | [_,_],_=>rfl
 have xShows:=h10.vZ l.prog w base X G (λF=>l8 F B Z xFew cSetWeights cWorthRows C) λ_ _ _ _ _ _ us hl=>match us,hl with | [_,_,_,_],_=>rfl
 have cTableShows:Cal l.prog w K mg base 4 "table_shows" ["web", "worths", "weight", "table"] sJ:=xShows.calm uv
 have cCanBegin:=h6.cal l.prog w base X G (λF=>nW F B cWithoutPlace C) λ_ _ _ _ _ _ us hl=>match us,hl with | [_,_,_,_],_=>rfl
 have cFirstOrder:=h7.cal l.prog w base X G (λF=>lY F B cWithoutPlace cCanBegin C) λ_ _ _ _ _ _ us hl=>match us,hl with | [_,_,_],_=>rfl
 have xLeast:=h9.vZ l.prog w base X G (λF=>l6 F B Z xFew cWorthRows cSetWeights cFirstOrder C) λ_ _ _ _ _ _ us hl=>match us,hl with | [_,_],_=>rfl
 have cLeastOrder:Cal l.prog w K mg base 4 "least_order" ["web", "worths"] sI:=xLeast.calm uu
 have cLAlone:=h17.cal l.prog w base X G (λF=>sL F B Z C) λ_ _ _ _ _ _ us hl=>match us,hl with | [_,_],_=>rfl
 have cLManyRefused:=h21.cal l.prog w base X G (λF=>jV F B Z xLeast xShows cLAlone C) λ_ _ _ _ _ _ us hl=>match us,hl with | [_,_],_=>rfl
 have cLWhole:=h16.cal l.prog w base X G (λF=>rT F B C) λ_ _ _ _ _ _ us hl=>match us,hl with | [_],_=>rfl
 exact xr F22 B cLDeal cLOneway cLWorths cLFirst cLTable cTableShows cLeastOrder cLManyRefused cLPick cLWhole C
theorem walk {l:PySem.W.OpenLaw}{q:xX}{loose:List Str}{XP:(Str->Option xw)->Heap->Prop}{YP:yv->Heap->Prop}{d:DefRec}{K:Params->xx}(hn:l.most=some 63)(hdf:d.params.defaults=[])
  (hY:∀(w:yv) (h:Heap),YP w h->(K w.params).In h)
  (F:∀(w:yv) (mg:Str->Option xw) (fa:Addr) (h:Heap),(K w.params).In h->h.Ns yh mg->mg d.name=some (.ref fa) →
   ∃fd:yM,(∀(s:xy) (u:xw),BindsTo s fd ⟨[u],[]⟩ [("script",u)])/\∀base:Heap,(K w.params).In base->base.Ns yh mg->bF l.prog w (K w.params) mg base CX0 6 fa fd ["script"] (ng (K w.params))) :
  PySem.W.WalkO q loose XP YP l.row.toRowW d [] (λf vs=>PySem.call f vs) :=
 L2.tj (n:=63) (k:=6) (x := "script") (CX:=λ_=>CX0) (sp:=λw=>ng (K w.params)) hn (by decide) hdf ⟨rfl,by decide,by decide⟩ hY F (λ_ _ a ns hl _ hS=>⟨a,ns,rfl,hS,hl,λ_=>rfl⟩) λ_ _ _ _ _ z=>z
end K68
def PySem.W.Fast.tw15282400908558205503:Nat:=0
def PySem.W.Fast.tw12472148978663338292:Nat:=0
def PySem.W.Fast.tw13345649221276567909:Nat:=0
def PySem.W.Fast.tw14623846127234385487:Nat:=0
def PySem.W.Fast.tw14509978403829940074:Nat:=0
def PySem.W.Fast.tw10262241212959350170:Nat:=0
def PySem.W.Fast.tw3276841686262802175:Nat:=0
def PySem.W.Fast.tw10207339705270814482:Nat:=0
def PySem.W.Fast.tw309660069037648022:Nat:=0
def PySem.W.Fast.tw1543000335240314234:Nat:=0
def PySem.W.Fast.tw2044339032754596434:Nat:=0
def PySem.W.Fast.tw5977517143966860723:Nat:=0
def PySem.W.Fast.tw10730454707339644078:Nat:=0
def PySem.W.Fast.tw2936103735019011392:Nat:=0
def PySem.W.Fast.tw15933899736097651230:Nat:=0
def PySem.W.Fast.tw12016016965657525860:Nat:=0
def PySem.W.Fast.tw6782350129164179618:Nat:=0
def PySem.W.Fast.tw17709915282469329883:Nat:=0
def PySem.W.Fast.tw9913488427869492529:Nat:=0
def PySem.W.Fast.tw6217237502905573318:Nat:=0
def PySem.W.Fast.tw15287650803885274616:Nat:=0
def PySem.W.Fast.tw2694429355421975992:Nat:=0
def PySem.W.Fast.tw15519465555848347269:Nat:=0
def PySem.W.Fast.tw13032592597250301441:Nat:=0
def PySem.W.Fast.tw18184710456559980255:Nat:=0
def PySem.W.Fast.tw14002200822998026337:Nat:=0
def PySem.W.Fast.tw13517797580456449682:Nat:=0
def PySem.W.Fast.tw1442784612384495787:Nat:=0
def PySem.W.Fast.tw3277609087500620675:Nat:=0
def PySem.W.Fast.tw2915102538614554264:Nat:=0
def PySem.W.Fast.tw798099912083351403:Nat:=0
def PySem.W.Fast.tw8333220142859379628:Nat:=0
def PySem.W.Fast.tw5393375411175426130:Nat:=0
def PySem.W.Fast.tw2327472941100486055:Nat:=0
def PySem.W.Fast.tw4785510828563771111:Nat:=0
def PySem.W.Fast.tw4512560265039545455:Nat:=0
def PySem.W.Fast.tw4018218867208270627:Nat:=0
def PySem.W.Fast.tw13384083691152468199:Nat:=0
def PySem.W.Fast.tw9389662210228536256:Nat:=0
def PySem.W.Fast.tw5985580439686751750:Nat:=0
def PySem.W.Fast.tw17616286087349009509:Nat:=0
def PySem.W.Fast.tw16455262169489591886:Nat:=0
def PySem.W.Fast.tw3245008269015952606:Nat:=0
def PySem.W.Fast.tw4676444149299570853:Nat:=0
def PySem.W.Fast.tw6003504176486483784:Nat:=0
def PySem.W.Fast.tw9779286068054654633:Nat:=0
def PySem.W.Fast.tw438706462636141115:Nat:=0
def PySem.W.Fast.tw1683369013109653571:Nat:=0
def PySem.W.Fast.tw16739771220982143035:Nat:=0
def PySem.W.Fast.tw17962728913459362380:Nat:=0
def PySem.W.Fast.tw5543915619710238228:Nat:=0
def PySem.W.Fast.tw3852713610713218809:Nat:=0
def PySem.W.Fast.tw17306232638804214308:Nat:=0
def PySem.W.Fast.tw5932100724762809770:Nat:=0
def PySem.W.Fast.tw687618940407297609:Nat:=0
def PySem.W.Fast.tw7624219818944294464:Nat:=0
def PySem.W.Fast.tw12816131650588079730:Nat:=0
def PySem.W.Fast.tw8243314297770658246:Nat:=0
def PySem.W.Fast.tw13328934319774756596:Nat:=0
def PySem.W.Fast.tw15282152158293177260:Nat:=0
def PySem.W.Fast.tw16837848900928473169:Nat:=0
def PySem.W.Fast.tw15227313951734746751:Nat:=0
def PySem.W.Fast.tw9760404530713380703:Nat:=0
def PySem.W.Fast.tw18094099361857682000:Nat:=0
def PySem.W.Fast.tw16694541864607389903:Nat:=0
def PySem.W.Fast.tw5172329502153652708:Nat:=0
def PySem.W.Fast.tw2217599036046924432:Nat:=0
def PySem.W.Fast.tw13594652922720483974:Nat:=0
def PySem.W.Fast.tw13797781717252950812:Nat:=0
def PySem.W.Fast.tw12365616338870867187:Nat:=0
def PySem.W.Fast.tw156467243210605466:Nat:=0
def PySem.W.Fast.tw4092433752110191284:Nat:=0
def PySem.W.Fast.tw6806800158965024202:Nat:=0
def PySem.W.Fast.tw11304064488192275192:Nat:=0
def PySem.W.Fast.tw1643340229988934113:Nat:=0
def PySem.W.Fast.tw592845298924623112:Nat:=0
def PySem.W.Fast.tw14209819483127630141:Nat:=0
def PySem.W.Fast.tw595779843637249503:Nat:=0
def PySem.W.Fast.tw9319557150908652:Nat:=0
def PySem.W.Fast.tw4866126530187597:Nat:=0
def PySem.W.Fast.tw10545133233133325557:Nat:=0
def PySem.W.Fast.tw9649011188297606867:Nat:=0
def PySem.W.Fast.tw10657327369153861105:Nat:=0
def PySem.W.Fast.tw2965188495654595344:Nat:=0
def PySem.W.Fast.tw1792625738604863813:Nat:=0
def PySem.W.Fast.tw16638323499946478604:Nat:=0
def PySem.W.Fast.tw15581405106987752327:Nat:=0
def PySem.W.Fast.tw4955498937130403545:Nat:=0
def PySem.W.Fast.tw620268596167780897:Nat:=0
def PySem.W.Fast.tw9461765375590106721:Nat:=0
def PySem.W.Fast.tw15479059542332769451:Nat:=0
def PySem.W.Fast.tw13540808072494187877:Nat:=0
def PySem.W.Fast.tw16329642383016407993:Nat:=0
def PySem.W.Fast.tw16627974640871224698:Nat:=0
def PySem.W.Fast.tw15549251249526842185:Nat:=0
def PySem.W.Fast.tw6354900153072005601:Nat:=0
def PySem.W.Fast.tw17664059093587863955:Nat:=0
def PySem.W.Fast.tw4718568558308896896:Nat:=0
def PySem.W.Fast.tw15783078428998809006:Nat:=0
def PySem.W.Fast.tw16352477126355530843:Nat:=0
def PySem.W.Fast.tw18171195542244312207:Nat:=0
def PySem.W.Fast.tw12138664946763146745:Nat:=0
def PySem.W.Fast.tw241782405427970717:Nat:=0
def PySem.W.Fast.tw12892547779286062143:Nat:=0
def PySem.W.Fast.tw4716452955645790283:Nat:=0
def PySem.W.Fast.tw17524088346014206341:Nat:=0
def PySem.W.Fast.tw16484159329509229502:Nat:=0
def PySem.W.Fast.tw3705355873031765594:Nat:=0
def PySem.W.Fast.tw7100296670707908620:Nat:=0
def PySem.W.Fast.tw9194022353093150545:Nat:=0
def PySem.W.Fast.tw6781884705245808699:Nat:=0
def PySem.W.Fast.tw12733599119651835014:Nat:=0
def PySem.W.Fast.tw15812891418603913469:Nat:=0
def PySem.W.Fast.tw10325003045613624011:Nat:=0
def PySem.W.Fast.tw17326932633544379995:Nat:=0
def PySem.W.Fast.tw2401597141385715407:Nat:=0
def PySem.W.Fast.tw1148835218915478312:Nat:=0
def PySem.W.Fast.tw10024475119798690624:Nat:=0
def PySem.W.Fast.tw828041749883319456:Nat:=0
def PySem.W.Fast.tw3331947260994834111:Nat:=0
def PySem.W.Fast.tw12371546086813260281:Nat:=0
def PySem.W.Fast.tw3021827260185169196:Nat:=0
def PySem.W.Fast.tw12334754511561822875:Nat:=0
def PySem.W.Fast.tw11313578260084220991:Nat:=0
def PySem.W.Fast.tw11778054695852232356:Nat:=0
def PySem.W.Fast.tw3377585889779711964:Nat:=0
def PySem.W.Fast.tw3506938417977810431:Nat:=0
def PySem.W.Fast.tw6909677972087782402:Nat:=0
def PySem.W.Fast.tw16442935215369295544:Nat:=0
def PySem.W.Fast.tw6998844238902095856:Nat:=0
def PySem.W.Fast.tw6820013337635616897:Nat:=0
def PySem.W.Fast.tw18291474998471643425:Nat:=0
def PySem.W.Fast.tw15293710735666496862:Nat:=0
def PySem.W.Fast.tw2052235631817572066:Nat:=0
def PySem.W.Fast.tw13763568810950347572:Nat:=0
def PySem.W.Fast.tw7158173454615926661:Nat:=0
def PySem.W.Fast.tw1076047641916067032:Nat:=0
def PySem.W.Fast.tw16866365013310042512:Nat:=0
def PySem.W.Fast.tw4899606282941829603:Nat:=0
def PySem.W.Fast.tw7302646439627243631:Nat:=0
def PySem.W.Fast.tw5307952603753876273:Nat:=0
def PySem.W.Fast.tw14520777020800277758:Nat:=0
def PySem.W.Fast.tw1159911158005427930:Nat:=0
def PySem.W.Fast.tw12584408933509580456:Nat:=0
def PySem.W.Fast.tw14601009565241051032:Nat:=0
def PySem.W.Fast.tw1641371482836847459:Nat:=0
def PySem.W.Fast.tw7712230468937431879:Nat:=0
def PySem.W.Fast.tw15983033885542979697:Nat:=0
def PySem.W.Fast.tw13721314255624253462:Nat:=0
def PySem.W.Fast.tw5367992458233615259:Nat:=0
def PySem.W.Fast.tw9469335972678336631:Nat:=0
def PySem.W.Fast.tw2826758353529755071:Nat:=0
def PySem.W.Fast.tw16130368842294531739:Nat:=0
def PySem.W.Fast.tw948843082054305305:Nat:=0
def PySem.W.Fast.tw10721690428620188176:Nat:=0
def PySem.W.Fast.tw6717062083306652997:Nat:=0
def PySem.W.Fast.tw8885398173217227847:Nat:=0
def PySem.W.Fast.tw173925176067429415:Nat:=0
def PySem.W.Fast.tw14379783183050026871:Nat:=0
def PySem.W.Fast.tw13011148275480517856:Nat:=0
def PySem.W.Fast.tw13711383790789029688:Nat:=0
def PySem.W.Fast.tw6399631710633672395:Nat:=0
def PySem.W.Fast.tw17855552420582807794:Nat:=0
def PySem.W.Fast.tw4010755259282104917:Nat:=0
def PySem.W.Fast.tw5155336714641814478:Nat:=0
def PySem.W.Fast.tw11704222633771995138:Nat:=0
def PySem.W.Fast.tw4969555854816399182:Nat:=0
def PySem.W.Fast.tw15635460806238612686:Nat:=0
def PySem.W.Fast.tw9765030159123940249:Nat:=0
def PySem.W.Fast.tw1476794013572050777:Nat:=0
def PySem.W.Fast.tw11915060412596965167:Nat:=0
def PySem.W.Fast.tw10979288725395952153:Nat:=0
def PySem.W.Fast.tw9865632915041073440:Nat:=0
def PySem.W.Fast.tw3484045859972011659:Nat:=0
def PySem.W.Fast.tw7556449059046393135:Nat:=0
def PySem.W.Fast.tw15534274597908555681:Nat:=0
def PySem.W.Fast.tw8209107804468710331:Nat:=0
def PySem.W.Fast.tw12737006918640738661:Nat:=0
def PySem.W.Fast.tw3504230285170095402:Nat:=0
def PySem.W.Fast.tw5765709770594121336:Nat:=0
def PySem.W.Fast.tw9158756765208191643:Nat:=0
open PySem PySem.W PyProof.Rows
set_option maxRecDepth 100000 in
set_option maxHeartbeats 0 in
theorem PySem.Challenge.cw_ringfell_k68_least_orders_holds : PySem.Challenge.rw_ringfell_k68_least_orders.Holds := by
 w_on;o_law;k_head;(case hw=>w_witness2)
 k_fill
 refine K68.walk (l:=PySem.Challenge.rw_ringfell_k68_least_orders) rfl rfl (λw h Y=>PySem.W.kIn_of Y) ?F
 case F =>
  intro w mg fa h KX G hmg
  refine' K68.all_mk KX G hmg ?_ ?_ ?_ ?_ ?_ ?_ ?_ ?_ ?_ ?_ ?_ ?_ ?_ ?_ ?_ ?_ ?_ ?_ ?_ ?_ ?_ ?_ ?_ ?_ ?_ ?_ ?_ ?_ ?_ ?_ ?_ ?_ ?_ ?_ ?_ ?_ ?_ ?_ ?_ ?_ ?_ ?_ ?_ ?_ ?_ ?_ ?_ ?_ ?_ ?_ ?_ ?_ ?_ ?_ ?_ ?_ ?_ ?_ ?_ ?_ ?_ ?_ ?_ ?_ ?_ ?_ ?_ ?_ ?_
  any_goals k_is
  any_goals (refine' L2.cj.mk ?a ?l ?c ?k;(case a=>k_is);(case l=>k_is);(case c=>k_is);(case k=>k_is))
  all_goals kernel_rfl
