import PyProof.Rows.All
import Wide.All
import OpenK.AllK
import Wide.FinOn
import Lean
import PyProof.EqAt
import PyProof.EqKinds
import PyProof.TupleCall
import KE.KRevIter
import PyProof.ZipIter
import PyProof.MinMaxWalk
import KE.KNestM
import KE.KSortKey
import PyProof.FString
import PyProof.StrCalls2
import PySem.Challenge.RW_ringfell_k19_steps_told
open PySem.W renaming Frag → BM,mg_none_of → CU,nsIn → CY,kia_one → Dq,mg_of → DV,looks_findIn → ER,kat_nil → E9,callWith_K → FJ,cellsFrom_some → FX,kitx_list → F0,kat_cons → Gm,kat_yes → GJ,kia_tup → GP,kitx_tuple → Hc,kat_no → Hn,hideAll_get → HP,kat_kind → HS,codeHd_of_K → IJ,looks_subIn → IS,codeRec_of → IU,kitx_dict → Jf,kitx_int → Jv,kitx_str → Jw,kat_one → JP,kat_lt → JZ,tail_of_in → Kj
open PySem renaming wpAny_bind → BN,Value → BP,Shared → BR,wpAny_pure → BS,Program → B7,sizeLine → Ca,wpAny → Cb,model → Cn,mainGlobals → Ct,World → CJ,Around → CK,wpAny_newObj_type → CM,starEach → CO,FuncData → CT,wpAny_loadPart_at → CW,bootBuiltins → C2,wpAny_callSpecial?_slot → C4,wpAny_mono → C5,wpAny_call_entry → C8,wpAny_field → De,wpAny_holding → Dv,wpAny_truthy_bool → DC,wpAny_Call_Name_kw → DG,wpAny_ite_split → DJ,wpAny_attempt → DL,wpAny_seqItems → DP,codeAny_builtin → DY,compareOp → DZ,builtinLookup_eq_fast → D9,rawInt → Ea,wpAny_rule → En,mem_of_lookup → Ep,wpAny_of_eq → Ew,wpAny_setField_rec → EE,codeAny_call_builtin → EI,wpAny_typeOf → EO,plainId_quiet → EW,codeAny_mono → Ff,wpAny_specialOf → Fg,typeLookup_type → Fh,backTo → Fi,wpAny_setField → Fu,isSubtype_type → Fv,wpAny_isInstance → Fy,wpAny_letGo → FE,wpAny_execs_nil → FQ,wpAny_standAt → FR,wpAny_passesOwn → FT,wpAny_newList → FV,wpAny_updateSeq → FW,wpAny_pyIter_list → F8,noFill_tuple_add → Gp,wpAny_updateSeq_pair → Gw,wpAny_call → GG,wpAny_newFunctionEnv_cells → GZ,wpAny_pyIter_tuple → Hd,concat_meets → He,tupleKind_room_in1 → Hh,wpAny_tryCatch → Hu,codeAny → Hv,wpAny_sequenceKey → HE,seq_tuple_add → HM,wpAny_onRaise → HN,wpAny_eqBool_int → HU,wpAny_execs_cons → HV,wpAny_isTrue_Compare1 → Ik,codeAny_call_function → Il,callType_new → Im,wpAny_newFunctionEnv → Iy,codeAny_extend_loopS → Iz,wpAny_newTuple → ID,wpAny_runValue → IE,isSubtype_stop → IG,sizeLine_eq → IL,seqIndex_of → IM,wpAny_raiseNew_none → IT,evalPart_none → Jc,signature?_of → Jd,wpAny_load → Jm,init_tuple_lookup → Jo,wpAny_pyIter_slot → Jp,seqIndex_neg → Js,holding → JT,wpAny_Name → Ki
open PySem.Heap renaming get?_push_of_some → BO,lt_size → BW,get?_push_size → BX,get?_update_other → CV,get?_update_self → C6,get?_update_ne → Dp,size_push → EF,get?_none_of_le → Fp,get?_push_at → HB,size_update → JB
open List renaming length_map → BQ,length_append → BU,size_toArray → BZ,mem_cons_self → B1,length_cons → B3,map_append → B4,mem_append → B5,mem_cons_of_mem → B9,mem_map → Ce,getElem?_eq_some_iff → Cg,map_cons → Ci,mem_singleton → Ck,mem_filter → Co,getElem?_eq_getElem → Cr,map_map → Cs,mem_append_right → Cu,mem_cons → Cw,mem_of_getElem? → Cy,getElem?_map → CA,append_nil → CF,pairwise_map → CI,append_assoc → CL,getD_eq_getElem?_getD → CN,take_of_length_le → CP,length_reverse → C7,length_singleton → Df,mem_iff_getElem? → Dg,range → Dh,filter_append → Di,length_nil → Dj,drop_sublist → Dk,length_filter_le → Dm,take_sublist → Ds,pairwise_append → Du,filterMap_cons → Dw,mergeSort_perm → Dy,take_add_one → DA,filter_cons_of_pos → DB,mem_of_mem_take → DF,extract_eq_take_drop → DI,length_take → DK,getElem?_toArray → DM,pairwise_singleton → DR,pairwise_cons → DS,filter_map → DW,filter_cons_of_neg → DX,reverse_reverse → D0,take_append_drop → D7,getElem?_take → Ec,map_reverse → Ef,singleton_perm_singleton → Eh,mem_range → El,reverse_append → Eu,getElem?_set_self → Ex,length_drop → EA,all_eq_true → EB,zip_cons_cons → EC,any_cons → ED,mem_of_mem_drop → EG,filter_eq_self → EU,pairwise_mergeSort → EV,lookup_cons → EY,mem_filterMap → E5,nodup_cons → E7,perm_append_comm → E8,find?_cons → Fb,getElem?_set_ne → Fq,take_zero → Fs,getElem_mem → Fw,any_eq_true → Fx,mem_map_of_mem → FA,length_take_le → FD,set_set → FG,of_mem_zip → FK,getElem?_drop → FN,reverse_cons → F1,length_range → F7,perm_cons → F9,replicate → Ga,getElem?_eq_none → Gg,drop_append_of_le_length → Gj,take_append_of_le_length → Gk,mem_toArray → Gn,mem_append_left → Gs,map_take → Gy,sum_cons → Gz,map_congr_left → GO,getElem?_append_right → GW,getElem?_append_left → Hi,getElem?_zip_eq_some → Hj,pairwise_iff_getElem → Hk,drop_left → Hl,getElem?_eq_none_iff → Hq,flatten_cons → Hy,ext_getElem? → Hz,flatMap_cons → HC,length_filterMap_le → HD,zipIdx_cons → HQ,drop_eq_nil_of_le → HW,forIn_cons → Ia,nil_append → Ib,length_zip → Ie,getElem?_reverse → Ih,cons_lt_cons_iff → Ii,replicate_succ' → Iv,drop_zero → IC,length_pos_iff → IK,any_eq_false → Je,map_nil → Jq,cons_append → JA,ext_getElem → JC,take_length → JF,mem_flatMap → JG,length_set → JH,zipIdx_nil → JN,drop_drop → JY,nodup_nil → J0,forIn_nil → Ka,all_cons → Kk,set_comm → Km,any_map → Kp
open Nat renaming le_refl → BV,lt_of_lt_of_le → B8,ne_of_lt → Cp,le_trans → Cq,zero_le → CC,lt_of_le_of_lt → CG,lt_irrefl → Dc,add_sub_cancel_left → DT,le_sub_one_of_lt → Ej,lt_succ_of_lt → Em,add_le_add_left → Er,le_add_right → EZ,eq_zero_of_not_pos → E3,ne_of_gt → E6,le_succ_of_le → Fj,lt_of_succ_lt → Fl,le_of_lt → FF,zero_add → FH,le_succ → F3,lt_succ_self → Gi,sub_one_lt_of_lt → Gv,le_of_sub_eq_zero → Ic,min_self → Ig,not_lt → Io,lt_of_le_of_ne → IY,sub_pos_of_lt → Ji,le_of_succ_le → Jk,add_zero → Jr,succ_le_succ → Jz,le_antisymm → JK,mul_le_mul → Kb,add_assoc → Kl
open Array renaming length_toList → B0,getElem?_toList → Cd,toList_append → CD,getElem?_eq_some_iff → DD,toList_extract → Ei,toList_reverse → EH,toList_push → EK,size_push → EL,size_append → EM,getElem?_eq_none → E4,getElem?_append_right → Fd,toList_setIfInBounds → GX,perm_iff_toList_perm → GY,append_assoc → Hb,getElem?_eq_getElem → Hr,toList_inj → HR
open Bool renaming false_ne_true → B2,and_eq_true → CQ,false_eq_true → Dl,eq_iff_iff → Dx,eq_false_iff → D3,not_eq_true' → D4,or_eq_true → Es,and_false → Ho,not_true → HH,or_eq_false_iff → Iw,false_and → IA,false_or → IZ,or_true → Kq
open PyProof.Rows renaming wpS_bind → B6,Keyed → Cf,wpS_pure → Cj,arrOf → Cm,pendingOf → Cz,slot_tuple_getitem → CB,SortSt → CH,wpS_forRange → Dn,callWith_type1 → DQ,IntsAre → D5,wpS_mono → D6,wpS_modify → Eo,listUpdate_at → Fm,get?_update_seq → FU,wpS_get → Gq,reverseSlice'_eq → Gr,wpS_lift → GF,KeyOrd → GR,args_tuple_getitem → Hf,listItems_at → Hg,slicePart_none → Ht,subscriptTail_builtinR → HZ,getElem?_mirror_all → IP,seqEpoch_at → IQ,tupleItemsOf_ → Jb,size_push' → Jn,plain_sorted → Jt,entry_sorted → Ju,kind_sorted → JR,oneLt_int → JS
open PySem.Value renaming ref → Cc,none → Ee,int → EN,type → Fn
open Option.some renaming inj → Cv,injEq → Jg
open PyProof.Rows.KeyOrd renaming kle_trans → CS,kle_of_klt → Dt,kle_refl → DU,kle_antisymm → II
open PySem.F renaming slot_list_append → CZ,type_list_append → C0,plainAttrs_list → C3,slot_dict_keyiterator_next → Dr,plain_min_loop → DH,store_ValueError → Ed,excBase_ValueError → Ek,slot_tuple_iterator_next → Ez,args_tuple_add_2 → EJ,entry_tuple_add → ES,plain_list_iadd → ET,slot_tuple_add → E2,attrBase_ValueError → Fc,args_object_init_2 → Fo,args_dict_keyiterator_next_1 → Ft,entry_dict_keyiterator_next → FC,entry_min_loop → FZ,slot_dict_get → Gf,typeOf_object_class → Gh,args_tuple_iterator_next_1 → Gx,entry_tuple_iterator_next → GI,entry_proto_collect → GK,plain_proto_collect → GL,slot_zip_next → GN,plain_extend_loop → Hs,typeCall_tuple_1 → HA,entry_list_iadd → HI,newCall_tuple_1 → HJ,entry_tuple_new → HK,args_dict_get_3 → HL,entry_dict_get → HX,slot_dict_iter → HY,called_tuple → Ir,mro_reversed → Iu,slot_gs_get → Ja,args_zip_next_1 → Jl,entry_zip_next → JD,entry_bexc_ga → JO
open PySem.Obj renaming mapSeq → C9,data_mapFields → Eb,isFreed_of_fields → Gb,cls_mapFields → Jh
open List.cons renaming inj → Dd,injEq → Fe
open PySem.Builtin.List renaming listExtendWith → Dz,listLengthHint → GS,listSameRef → HF
open Ne renaming symm → DE
open List.Perm renaming append_left → DN,append_right → Ey,refl → E1
open PySem.Around renaming under_plainId → D1,frames_deeper → Ip
open Option renaming map_eq_some_iff → D2,map_some → Et,isSome_iff_exists → Hx,getD_none → Jx
open PySem.PassesOwn renaming never → D8
open Iff renaming rfl → Eg
open PySem.Heap.SameBut renaming update → Fz
open PySem.Calls renaming spliced_cons → FI,callWith_builtin → FY,evalArgs_plain → Gu,Name_function_global → GU,call_function_entry → Hm,spliced_nil → Hw
open PySem.SeqAt.EqAt renaming int_int → FL,int_str → G0,str_int → Ha,str_str → IW,same → JI
open PySem.Code renaming quiet_builtin → FO
open Int renaming emod_lt_of_pos → FP,toNat_natCast → F4,emod_nonneg → GQ,fdiv_eq_ediv_of_nonneg → GV,ediv_lt_of_lt_mul → Ij,ediv_nonneg → JQ
open PySem.W.Looks renaming of_pure → Ge
open PySem.SeqAt renaming EqAt → GH,notIn_tupleAt → IH,notIn_listAt → IX,in_tupleAt → Jy,in_listAt → JJ
open PySem.Paired renaming length → HG,snoc → Ks
open PySem.W.KatTups renaming cons → Iq
open PySem.Heap.IsSliceOf renaming new → IV
open PySem.Heap.ExtBut renaming push → JE
open StateT renaming run_pure → JM
open PySem.EqMixed renaming eq_bool_str → JU,eq_str_bool → JV,ne_bool_str → JW,ne_str_bool → JX,eq_int_str → Ke,eq_str_int → Kf,ne_int_str → Kg,ne_str_int → Kh
open PySem.Moved renaming eq_with → Kn
open Prod renaming ext_iff → Ko
open List.Pairwise renaming filter → Kr
open PySem.ItemsOf renaming nil → Kt
set_option Elab.async false
set_option linter.all false
set_option maxRecDepth 100000
namespace L2
open PySem PySem.Spec PyProof.Rows
abbrev Key:=Sum Int Str
def l6:Key->BP->Bool
 | .inl k,v=>Value.isInt k v
 | .inr x,v=>Value.isStrOf x v
def keyH (w:CJ):Key->Int
 | .inl k=>hashInt k
 | .inr x=>hashStr w x
theorem bY:∀{k:Key} {v:BP},l6 k v=true->(∃i t,k=Sum.inl i/\v=EN i t)\/(∃x t,k=Sum.inr x/\v=Value.str x t)
 | .inl i,v,h=>by
  obtain ⟨t,e⟩:=Value.isInt_shape (k:=i) (v:=v) h
  exact .inl ⟨i,t,rfl,e⟩
 | .inr x,v,h=>by
  obtain ⟨t,e⟩:=Value.isStrOf_shape (x:=x) (v:=v) h
  exact .inr ⟨x,t,rfl,e⟩
theorem tV (i:Int)(t:Tok):l6 (.inl i) (.int i t)=true:=by simp[l6,Value.isInt]
theorem tW (x:Str)(t:Tok):l6 (.inr x) (.str x t)=true:=by simp[l6,Value.isStrOf]
theorem zx (a b:Int):decide ((Sum.inl a:Key)=Sum.inl b)=(a == b):=by
 by_cases e:a=b
 ·subst e;simp
 ·have h:¬ (Sum.inl a:Key)=Sum.inl b:=λq=>e (Sum.inl.inj q)
  rw[decide_eq_false h]
  exact (beq_eq_false_iff_ne.mpr e).symm
theorem zy (a b:Str):decide ((Sum.inr a:Key)=Sum.inr b)=decide (a=b):=by
 by_cases e:a=b
 ·subst e;simp
 ·have h:¬ (Sum.inr a:Key)=Sum.inr b:=λq=>e (Sum.inr.inj q)
  rw[decide_eq_false h,decide_eq_false e]
theorem zz (a:Int)(b:Str):decide ((Sum.inl a:Key)=Sum.inr b)=false:=decide_eq_false (λq=>nomatch q)
theorem zA (a:Str)(b:Int):decide ((Sum.inr a:Key)=Sum.inl b)=false:=decide_eq_false (λq=>nomatch q)
def cb (prog:B7)(w:CJ):PySem.KeyKind prog w Key where
 is:=l6
 hash:=keyH w
 inj:=λv a b ha hb=>by
  rcases bY ha with ⟨i,t,rfl,rfl⟩ | ⟨x,t,rfl,rfl⟩
  ·rcases bY hb with ⟨j,u,rfl,e⟩ | ⟨y,u,rfl,e⟩
   ·injection e with e1 _;rw[e1]
   ·exact nomatch e
  ·rcases bY hb with ⟨j,u,rfl,e⟩ | ⟨y,u,rfl,e⟩
   ·exact nomatch e
   ·injection e with e1 _;rw[e1]
 byValue:=λk v h=>by
  rcases bY h with ⟨i,t,rfl,rfl⟩ | ⟨x,t,rfl,rfl⟩ <;> rfl
 pyHash:=λhv h=>by
  rcases bY hv with ⟨i,t,rfl,rfl⟩ | ⟨x,t,rfl,rfl⟩
  ·exact wpAny_pyHash_int h
  ·exact wpAny_pyHash_str h
 eqBool:=λhu hv h=>by
  rcases bY hu with ⟨i,t,rfl,rfl⟩ | ⟨x,t,rfl,rfl⟩
  ·rcases bY hv with ⟨j,u,rfl,rfl⟩ | ⟨y,u,rfl,rfl⟩
   ·rw[zx] at h;exact HU h
   ·rw[zz] at h;exact G0 i t y u _ _ _ _ h
  ·rcases bY hv with ⟨j,u,rfl,rfl⟩ | ⟨y,u,rfl,rfl⟩
   ·rw[zA] at h;exact Ha x t j u _ _ _ _ h
   ·rw[zy] at h;exact wpAny_eqBool_str h
 «strs» := λk x t v h=>by
  rcases bY h with ⟨i,u,rfl,e⟩ | ⟨y,u,rfl,e⟩
  ·exact nomatch e
  ·injection e with e1 _
   subst e1
   cases v <;> rfl
theorem oU (prog:B7)(w:CJ)(i:Int)(t:Tok):(cb prog w).is (.inl i) (.int i t)=true:=tV i t
theorem oV (prog:B7)(w:CJ)(x:Str)(t:Tok):(cb prog w).is (.inr x) (.str x t)=true:=tW x t
open PySem PySem.Spec PyProof.Rows
inductive V where
 | non | bl (b:Bool) | int (i:Int) | str (x:Str) | byt (b:Array UInt8) | flt (b:UInt64) | ref (a:Addr) | ty (n:String)
 deriving DecidableEq
def RelV:V->BP->Prop
 | .non,u=>u=Ee
 | .bl b,u=>u=Value.bool b
 | .int i,u=>∃t,u=EN i t
 | .str x,u=>∃t,u=Value.str x t
 | .byt b,u=>∃t,u=Value.bytes b t
 | .flt b,u=>∃t,u=Value.float b t
 | .ref a,u=>u=Cc a
 | .ty n,u=>u=Fn n
abbrev Vals:List V->List BP->Prop:=Paired RelV
theorem Vals.length {xs:List V}{us:List BP}(r:Vals xs us):xs.length=us.length:=HG r
theorem Vals.get:∀{xs:List V} {us:List BP} {i:Nat} {x:V},Vals xs us->xs[i]? = some x->∃u,us[i]? = some u/\RelV x u
 | _,_,_,_,.nil,e=>by simp at e
 | _,_,0,_,.cons r _,e=>by simp at e;subst e;exact ⟨_,rfl,r⟩
 | _,_,i+1,x,.cons _ t,e=>by
  obtain ⟨u,h1,h2⟩:=Vals.get (i:=i) (x:=x) t (by simpa using e)
  exact ⟨u,by simpa using h1,h2⟩
theorem Vals.set {x:V}{u:BP}(r:RelV x u):∀{xs:List V} {us:List BP} (i:Nat),Vals xs us->Vals (xs.set i x) (us.set i u)
 | _,_,_,.nil =>.nil
 | _,_,0,.cons _ t =>.cons r t
 | _,_,i+1,.cons q t =>.cons q (Vals.set r i t)
theorem Vals.append:∀{xs ys:List V} {us ws:List BP},Vals xs us->Vals ys ws->Vals (xs++ys) (us++ws)
 | _,_,_,_,.nil,s=>s
 | _,_,_,_,.cons r t,s =>.cons r (Vals.append t s)
theorem Vals.take:∀{xs:List V} {us:List BP} (n:Nat),Vals xs us->Vals (xs.take n) (us.take n)
 | _,_,0,_ =>.nil
 | _,_,_+1,.nil =>.nil
 | _,_,n+1,.cons r t =>.cons r (Vals.take n t)
theorem Vals.drop:∀{xs:List V} {us:List BP} (n:Nat),Vals xs us->Vals (xs.drop n) (us.drop n)
 | _,_,0,r=>r
 | _,_,_+1,.nil =>.nil
 | _,_,n+1,.cons _ t=>Vals.drop n t
def gT:Option V->Option BP->Prop
 | some v,some u=>RelV v u
 | none,none=>True
 | _,_=>False
def KV {κ:Type}:List (κ×V)->List (κ×BP)->Prop:=Paired λ(p:κ×V) (q:κ×BP)=>p.1=q.1/\RelV p.2 q.2
def kV:Key->V
 | .inl i =>.int i
 | .inr x =>.str x
inductive HO where
  | lst (xs:List V)
  | tup (xs:List V)
  | dK (kvs:List (Key×V)) | dT (kvs:List (List Key×V))
  | set (S:Int->Bool) (n:Nat)
  | ins (C dx:Addr) (fs:List (Str×V))
  | own (x:Addr)
  | xd (fs:List (Str×V))
  | met (f x:Addr)
  | rng (lo hi:Int)
  | frz (o:Obj) (u:HO)
  | tbl (ps:Array BP)
  | ext (φ:Heap->Prop)
abbrev Hp:=Addr->Option HO
def upd (H:Hp)(a:Addr)(o:HO):Hp:=λb=>if b=a then some o else H b
theorem af {H:Hp}{a:Addr}{o:HO}:upd H a o a=some o:=by unfold upd;rw[if_pos rfl]
theorem ax {H:Hp}{a b:Addr}{o:HO}(h:b≠a):upd H a o b=H b:=by unfold upd;rw[if_neg h]
theorem oW {H:Hp}{a b:Addr}{o u:HO}(h:H a=some o)(h':H b=some u)(d:o≠u):a≠b:=by
 intro e;subst e;rw[h] at h';exact d (Cv h')
theorem aF {H:Hp}{a b:Addr}{o:HO}(h:H a=some o)(h':H b=none):a≠b:=by
 intro e;subst e;rw[h] at h';cases h'
def dq (h:Heap)(a:Addr)(items:Array BP):Prop:=∃o,h.get? a=some o/\(o.cls = .type "tuple" /\ o.dict=none)/\∃n,o.data = .seq items n
theorem dq.tup {h:Heap}{a:Addr}{items:Array BP}(x:dq h a items):IsTup h a items:=let ⟨o,e,c,n,d⟩:=x;⟨o,e,c.1,n,d⟩
theorem dq.new (h:Heap)(items:Array BP):dq (h.push { cls :=.type "tuple",data :=.seq items }) h.objs.size items:=⟨_,BX _ rfl,⟨rfl,rfl⟩,_,rfl⟩
def qAt (ps:Array BP)(pos:Pos)(q:Str):Prop:=∃(i:Nat) (t:Tok),ps[3*i]? = some (Ea pos.line)/\ps[3*i+1]? = some (Ea pos.col)/\ps[3*i+2]? = some (.str q t)
def cAt (ps:Array BP)(pos:Pos)(c:Addr):Prop:=∃i:Nat,ps[3*i]? = some (Ea pos.line)/\ps[3*i+1]? = some (Ea pos.col)/\ps[3*i+2]? = some (.ref c)
section
variable  (P:B7)(w:CJ)
def bo (H:Hp)(h:Heap)(a:Addr):HO->Prop
 | .lst xs=>xs.length<=Ca/\∃(its:List BP) (n:Nat),Vals xs its/\h.get? a=some { cls :=.type "list",data :=.seq its.toArray n }
 | .tup xs=>xs.length<=Ca/\∃its:List BP,Vals xs its/\dq h a its.toArray
 | .dK kvs=>kvs.length<=Ca/\(a == sysModules)=false/\∃vs,KV kvs vs/\h.DictOf (cb P w) a vs
 | .dT kvs=>kvs.length<=Ca/\(a == sysModules)=false/\∃xs:List (List Key×Addr×BP),
   Paired (λ(p:List Key×V) (q:List Key×Addr×BP)=>p.1=q.1/\H q.2.1=some (.tup (p.1.map kV))/\RelV p.2 q.2.2) kvs xs ∧
   ∃o es ep,h.get? a=some o/\o.ExactDict/\o.data = .dict es ep/\es.toList=xs.map (entryOfKey (tupleKind (cb P w)))/\(xs.map (·.1)).Nodup
 | .set S n=>h.SetOf (intKind P w) a S n
 | .ins C dx fs=>H dx=some (.own a)/\fs.length<=1000/\dx≠a/\h.get? a=some (PySem.W.instObj C dx) ∧
   ∃mA,h.Ns1 dx mA/\(∀f,gT (fs.lookup f) (mA f))/\PySem.Within mA (fs.map (·.1))
 | .own _=>∃o,h.get? a=some o
 | .xd fs=>∃mA,h.Ns1 a mA/\∀f,gT (fs.lookup f) (mA f)
 | .rng lo hi=>∃t u v,h.get? a=some { cls :=.type "range",data :=.fields #[.int lo t,.int hi u,.int 1 v] }
 | .frz o u=>h.get? a=some o/\bo H h a u
 | .tbl ps=>∃rows:Array BP,h.get? a=some { cls :=.none,data :=.fields rows }/\TriplesOk rows.toList/\(∀pos v,codeAmong pos rows.toList=some v->∃c q,v = .ref c/\H c=some (.own a)/\h.CodeRec (.ref c) q/\qAt ps pos q)/\∀pos c,cAt ps pos c->codeAmong pos rows.toList=some (.ref c)
 | .met f x=>h.get? a=some (PySem.W.methodObj (.ref f) (.ref x))
 | .ext φ=>φ h/\(∃o,h.get? a=some o)/\∀h1 h2:Heap, φ h1->(∀o,h1.get? a=some o->h2.get? a=some o) -> φ h2
def HOk (H:Hp)(h:Heap):Prop:=∀a o,H a=some o->bo P w H h a o
end
section
variable  {P:B7}{w:CJ}{H H':Hp}{h h':Heap}{a:Addr}{o:HO}
theorem bo.lt (x:bo P w H h a o):a<h.objs.size:=by
 cases o with
 | lst xs=>obtain ⟨_,_,_,_,e⟩:=x;exact BW e
 | tup xs=>obtain ⟨_,_,_,p⟩:=x;exact (dq.tup p).lt
 | dK kvs=>obtain ⟨_,_,_,_,o,_,_,e,_⟩:=x;exact BW e
 | dT kvs=>obtain ⟨_,_,_,_,o,_,_,e,_⟩:=x;exact BW e
 | set S n=>obtain ⟨o,_,_,_,e,_⟩:=x;exact BW e
 | ins C dx fs=>obtain ⟨_,_,_,e,_⟩:=x;exact BW e
 | own y=>obtain ⟨_,e⟩:=x;exact BW e
 | xd fs=>obtain ⟨_,⟨_,_,_,e,_⟩,_⟩:=x;exact BW e
 | rng lo hi=>obtain ⟨_,_,_,e⟩:=x;exact BW e
 | frz ob u=>obtain ⟨e,_⟩:=x;exact BW e
 | tbl ps=>obtain ⟨_,e,_⟩:=x;exact BW e
 | met f y=>exact BW (show h.get? a=some _ from x)
 | ext φ=>obtain ⟨_,⟨_,e⟩,_⟩:=x;exact BW e
theorem Paired.zB {α β:Type}{F G:α -> β -> Prop}:∀{l₁:List α} {l₂:List β},Paired F l₁ l₂->(∀a b,F a b->G a b)->Paired G l₁ l₂
 | _,_,.nil,_ =>.nil
 | _,_,.cons r t,f =>.cons (f _ _ r) (Paired.zB t f)
theorem bo.fV (x:bo P w H h a o)(k:∀b u,(b=a\/H b=some (.own a))->h.get? b=some u->h'.get? b=some u)
  (ho:∀b,H b=some (.own a)->H' b=some (.own a)) (ht:∀b xs,H b=some (.tup xs)->H' b=some (.tup xs)):bo P w H' h' a o:=by
 induction o with
 | lst xs=>obtain ⟨z,its,n,r,e⟩:=x;exact ⟨z,its,n,r,k _ _ (.inl rfl) e⟩
 | tup xs=>obtain ⟨z,its,r,ob,e,c⟩:=x;exact ⟨z,its,r,ob,k _ _ (.inl rfl) e,c⟩
 | dK kvs=>obtain ⟨z,y,vs,r,ob,es,ep,e,c⟩:=x;exact ⟨z,y,vs,r,ob,es,ep,k _ _ (.inl rfl) e,c⟩
 | dT kvs =>
  obtain ⟨z,y,xs,r,ob,es,ep,e,c⟩:=x
  exact ⟨z,y,xs,Paired.zB r λp q z=>⟨z.1,ht _ _ z.2.1,z.2.2⟩,ob,es,ep,k _ _ (.inl rfl) e,c⟩
 | set S n=>obtain ⟨ob,es,ep,t,e,c⟩:=x;exact ⟨ob,es,ep,t,k _ _ (.inl rfl) e,c⟩
 | ins C dx fs =>
  obtain ⟨d,z,ne,e,mA,⟨od,es,ep,e2,c⟩,r⟩:=x
  exact ⟨ho _ d,z,ne,k _ _ (.inl rfl) e,mA,⟨od,es,ep,k _ _ (.inr d) e2,c⟩,r⟩
 | own y=>obtain ⟨ob,e⟩:=x;exact ⟨ob,k _ _ (.inl rfl) e⟩
 | xd fs=>obtain ⟨mA,⟨od,es,ep,e,c⟩,r⟩:=x;exact ⟨mA,⟨od,es,ep,k _ _ (.inl rfl) e,c⟩,r⟩
 | rng lo hi=>obtain ⟨t,u,v,e⟩:=x;exact ⟨t,u,v,k _ _ (.inl rfl) e⟩
 | frz ob u ih=>obtain ⟨e,q⟩:=x;exact ⟨k _ _ (.inl rfl) e,ih q⟩
 | tbl ps =>
  obtain ⟨rows,e,t,rr,rc⟩:=x
  refine ⟨rows,k a _ (.inl rfl) e,t,λpos v hv =>?_,rc⟩
  obtain ⟨c,q,ev,hc,⟨c2,oc,vs,tq,e1,e2,e3⟩,z⟩:=rr pos v hv
  cases e1
  exact ⟨c,q,ev,ho c hc,⟨c,oc,vs,tq,rfl,k c _ (.inr hc) e2,e3⟩,z⟩
 | met f y =>
  have e:h.get? a=some (PySem.W.methodObj (.ref f) (.ref y)):=x
  show h'.get? a=some (PySem.W.methodObj (.ref f) (.ref y))
  exact k a _ (.inl rfl) e
 | ext φ=>obtain ⟨p,⟨o,e⟩,st⟩:=x;exact ⟨st _ _ p λo q=>k _ _ (.inl rfl) q,⟨o,k _ _ (.inl rfl) e⟩,st⟩
theorem HOk.lt (x:HOk P w H h)(e:H a=some o):a<h.objs.size:=(x a o e).lt
theorem HOk.fresh (x:HOk P w H h)(e:h.objs.size<=a):H a=none:=by
 cases q:H a with
 | none=>rfl
 | some u=>exact absurd (B8 (x.lt q) e) (Dc _)
theorem HOk.kept (x:HOk P w H h)(k:∀b u,h.get? b=some u->h'.get? b=some u):HOk P w H h':=λa o e =>
 (x a o e).fV (λb u _ q=>k b u q) (λ_ q=>q) λ_ _ q=>q
theorem HOk.laid (x:HOk P w H h)(k:∀b u,h.get? b=some u->h'.get? b=some u)(hp:h.objs.size<=a)(new:bo P w (upd H a o) h' a o):HOk P w (upd H a o) h':=λb u e=>by
 have hn:=x.fresh hp
 by_cases hb:b=a
 ·subst hb;rw[af] at e;cases e;exact new
 ·rw[ax hb] at e
  exact (x b u e).fV (λc v _ q=>k c v q) (λc q=>by rw[ax (aF q hn)];exact q) λc xs q=>by rw[ax (aF q hn)];exact q
end
def Rd (H:Hp)(a:Addr)(u:HO):Prop:=H a=some u\/∃o,H a=some (.frz o u)
theorem Rd.ok {P:B7}{w:CJ}{H:Hp}{h:Heap}{a:Addr}{u:HO}(r:Rd H a u)(x:HOk P w H h):bo P w H h a u:=by
 rcases r with r | ⟨o,r⟩
 ·exact x a u r
 ·obtain ⟨_,q⟩:=x a _ r
  exact q
def Mut:Option HO->Prop
 | some (.lst _)=>True
 | some (.dK _)=>True
 | some (.dT _)=>True
 | some (.set _ _)=>True
 | some (.ins _ _ _)=>True
 | some (.ext _)=>True
 | _=>False
section
variable  {P:B7}{w:CJ}{H:Hp}{h h':Heap}{x e:Addr}{o':HO}
theorem HOk.write (ok:HOk P w H h)(mu:Mut (H x))(he:e=x\/H e=some (.own x))(k:∀b u,b≠e->h.get? b=some u->h'.get? b=some u)(heo:∃u,h'.get? e=some u)
  (new:bo P w (upd H x o') h' x o'):HOk P w (upd H x o') h':=λb u q=>by
 have nown:∀c y,H c=some (.own y)->c≠x:=λc y r z=>by subst z;rw[r] at mu;exact mu
 have ntup:∀c xs,H c=some (.tup xs)->c≠x:=λc xs r z=>by subst z;rw[r] at mu;exact mu
 by_cases hb:b=x
 ·subst hb;rw[af] at q;cases q;exact new
 ·rw[ax hb] at q
  by_cases hbe:b=e
  ·have q':H b=some (.own x):=by
    rcases he with z | z
    ·exact absurd (hbe.trans z) hb
    ·rw[hbe];exact z
   rw[q] at q';cases q'
   obtain ⟨v,hv⟩:=heo
   exact ⟨v,by rw[hbe];exact hv⟩
  ·refine (ok b u q).fV (λc v hc r=>k c v ?_ r) (λc r=>by rw[ax (nown c b r)];exact r) λc xs r=>by rw[ax (ntup c xs r)];exact r
   rcases hc with rfl | hc
   ·exact hbe
   ·rintro rfl
    rcases he with z | z
    ·exact nown c b hc z
    ·rw[hc] at z;cases z;exact hb rfl
end
structure Un (fs ex:List Addr)(H H':Hp)(h h':Heap):Prop where
 keep:∀b o,h.get? b=some o->H b=none->b∉fs->b∉ex->h'.get? b=some o
 slot:∀b o,h.get? b=some o->H b=none->b∈fs->b∉ex->∃sl,h'.get? b=some { o with slots:=sl }
 free:∀b o,h.get? b=some o->H b=none->b∉ex->H' b=none
 there:∀b o,h.get? b=some o->b∉ex->∃o',h'.get? b=some o'
 tups:∀b xs,H b=some (.tup xs)->H' b=some (.tup xs)
 frzs:∀b o u,H b=some (.frz o u)->H' b=some (.frz o u)
 tbls:∀b ps,H b=some (.tbl ps)->∃more,H' b=some (.tbl (ps++more))
section
variable  {fs fs' ex ex':List Addr}{H H1 H2:Hp}{h h1 h2 h':Heap}{a x e:Addr}{o:HO}
theorem Un.any (u:Un fs ex H H1 h h1){b:Addr}{ob:Obj}(q:h.get? b=some ob)(n:H b=none)(hx:b∉ex):∃sl,h1.get? b=some { ob with slots:=sl }:=by
 by_cases hb:b∈fs
 ·exact u.slot b ob q n hb hx
 ·exact ⟨ob.slots,u.keep b ob q n hb hx⟩
theorem Un.trans (a:Un fs ex H H1 h h1)(b:Un fs ex H1 H2 h1 h2):Un fs ex H H2 h h2 where
 keep:=λc ob q n hc hx=>b.keep c ob (a.keep c ob q n hc hx) (a.free c ob q n hx) hc hx
 slot:=λc ob q n hc hx=>by
  obtain ⟨sl,e1⟩:=a.slot c ob q n hc hx
  obtain ⟨sl',e2⟩:=b.slot c _ e1 (a.free c ob q n hx) hc hx
  exact ⟨sl',e2⟩
 free:=λc ob q n hx=>by
  obtain ⟨o',e1⟩:=a.there c ob q hx
  exact b.free c o' e1 (a.free c ob q n hx) hx
 there:=λc ob q hx=>by
  obtain ⟨o',e1⟩:=a.there c ob q hx
  exact b.there c o' e1 hx
 tups:=λc xs q=>b.tups c xs (a.tups c xs q)
 frzs:=λc ob xs q=>b.frzs c ob xs (a.frzs c ob xs q)
 tbls:=λc ps q=>by
  obtain ⟨m1,e1⟩:=a.tbls c ps q
  obtain ⟨m2,e2⟩:=b.tbls c _ e1
  exact ⟨m1++m2,by rw[e2,Hb]⟩
theorem Un.kept (k:∀b u,h.get? b=some u->h'.get? b=some u):Un fs ex H H h h' :=
 ⟨λb ob q _ _ _=>k b ob q,λb ob q _ _ _=>⟨ob.slots,k b ob q⟩,λ_ _ _ n _=>n,λb ob q _=>⟨ob,k b ob q⟩,λ_ _ q=>q,λ_ _ _ q=>q,λ_ ps q=>⟨#[],by rw[q];simp⟩⟩
theorem Un.refl:Un fs ex H H h h:=Un.kept λ_ _ q=>q
theorem Un.laid (k:∀b u,h.get? b=some u->h'.get? b=some u)(hp:h.objs.size<=a)(hn:H a=none):Un fs ex H (upd H a o) h h' where
 keep:=λb u q _ _ _=>k b u q
 slot:=λb u q _ _ _=>⟨u.slots,k b u q⟩
 free:=λb u q n _=>by rw[ax (Cp (B8 (BW q) hp))];exact n
 there:=λb u q _=>⟨u,k b u q⟩
 tups:=λb xs q=>by rw[ax (aF q hn)];exact q
 frzs:=λb u xs q=>by rw[ax (aF q hn)];exact q
 tbls:=λb ps q=>⟨#[],by rw[ax (aF q hn),q];simp⟩
theorem Un.write (mu:Mut (H x))(he:e=x\/H e=some (.own x))(k:∀b u,b≠e->h.get? b=some u->h'.get? b=some u)(heo:∃u,h'.get? e=some u):Un fs ex H (upd H x o) h h':=by
 have hx:∀b,H b=none->b≠x:=λb n z=>by subst z;rw[n] at mu;exact mu
 have hb:∀b,H b=none->b≠e:=λb n z=>by
  subst z
  rcases he with r | r
  ·exact hx b n r
  ·rw[n] at r;cases r
 have hm:∀b u,H b=some u->¬ Mut (some u)->b≠x:=λb u q nm z=>by subst z;rw[q] at mu;exact nm mu
 refine ⟨λb u q n _ _=>k b u (hb b n) q,λb u q n _ _=>⟨u.slots,k b u (hb b n) q⟩,λb u q n _=>by rw[ax (hx b n)];exact n,λb u q _ =>?_,
  λb xs q=>by rw[ax (hm b _ q λz=>z)];exact q,λb u xs q=>by rw[ax (hm b _ q λz=>z)];exact q,λb ps q=>⟨#[],by rw[ax (hm b _ q λz=>z),q];simp⟩⟩
 by_cases hbe:b=e
 ·subst hbe;exact heo
 ·exact ⟨u,k b u hbe q⟩
end
def trk (h:Heap)(H:Hp):List Addr:=(Dh h.objs.size).filter λa=>(H a).isSome
def nH (h:Heap)(H:Hp):Heap:=PySem.W.hideAll h (trk h H)
theorem tX (h:Heap)(H:Hp):(nH h H).objs.size=h.objs.size:=PySem.W.hideAll_size _ _
theorem vk {h:Heap}{H:Hp}{b:Addr}{o:Obj}(e:h.get? b=some o)(n:H b=none):(nH h H).get? b=some o :=
 PySem.W.hideAll_get _ e λhm=>by
  have q:(H b).isSome=true:=(Co.mp hm).2
  rw[n] at q;simp at q
theorem xD {h:Heap}{H:Hp}{b:Addr}{o:Obj}(e:(nH h H).get? b=some o):h.get? b=some o/\H b=none:=by
 have e':h.get? b=some o:=PySem.W.of_hideAll (trk h H) e
 refine ⟨e',?_⟩
 cases q:H b with
 | none=>rfl
 | some x =>
  have hm:b∈trk h H:=Co.mpr ⟨El.mpr (BW e'),by simp[q]⟩
  have z:(nH h H).get? b=none:=PySem.W.hideAll_none (trk h H) hm
  rw[z] at e;cases e
def xE (g h:Heap)(L:Addr):List (Addr×Obj):=(Dh h.objs.size).filterMap λa=>if a=L\/(g.get? a).isSome=true then none else (h.get? a).map λo=>(a,o)
def rest (g h:Heap)(L d:Addr):List (Addr×Obj):=(xE g h L).filter λp=>decide (p.1≠d)
open PySem PySem.Spec PyProof.Rows
structure Mod (K:BM)(mg:Str->Option BP)(base:Heap):Prop where
 kin:K.In base
 glob:base.Ns Ct mg
 blt:∃mb,base.Ns builtinsNs mb/\∀x:Str,x ≠ "__name__" -> mb x=C2 x
 nolimit:base.NoLimit
 bmod:∃bm ob,mg "__builtins__" = some (.ref bm)/\bm≠builtinsNs/\base.get? bm=some ob/\ob.cls = .type "module" /\ ob.dict=some builtinsNs/\ob.data = .plain
structure Cx where
 prog:B7
 w:CJ
 K:BM
 mg:Str->Option BP
 base:Heap
 A:CK
 N:List Str
 s₀:BR
 H₀:Hp
 env:Env
 outer:List Env
 stack:List Env
 ex:List Addr
 fn:Str->Bool
 calm:Bool
 pn:List (Addr×Obj)
 xe:BP->BR->Prop
def frs (l:List Env):List Addr:=l.filterMap (·.frame)
abbrev Cx.fs (X:Cx):List Addr:=frs X.outer
def Vis (sc:Scope)(x:Str):Prop:=sc.names.lookup x=some .local\/sc.names.lookup x=some .cell\/sc.names.lookup x=some .free
def Loc (sc:Scope)(x:Str):Prop:=sc.names.lookup x=some .local\/sc.names.lookup x=some .cell
def Look (env:Env)(h:Heap)(m:Str->Option BP)(x:Str)(u:BP):Prop :=
 (env.kindOf x=some .local/\m x=some u)\/((env.kindOf x=some .cell\/env.kindOf x=some .free)/\∃c,env.cells.lookup x=some c/\h.IsCell c (some u))
structure Cx.Ok (X:Cx):Prop where
 mod:Mod X.K X.mg X.base
 kind:X.env.scope.kind = .function
 glob:X.env.globals=Ct
 blt:X.env.builtins=builtinsNs
 above:X.s₀.heap.objs.size<=X.env.locals
 inj:∀x y c,X.env.cells.lookup x=some c->X.env.cells.lookup y=some c->x=y
 has:∀x,(X.env.kindOf x=some .cell\/X.env.kindOf x=some .free)->∃c,X.env.cells.lookup x=some c
 cab:∀x c,X.fn x=true->X.env.cells.lookup x=some c->X.s₀.heap.objs.size<=c
 hd:X.calm=true->X.A.handled=none
 frames:X.A.frames=some X.stack
 stk:X.stack=X.outer\/(X.stack=X.env :: X.outer/\X.env.frame=some X.env.locals)
 exf:∀b∈X.ex,b≠X.env.locals/\∀x c,X.env.cells.lookup x=some c->c≠b
 bs:∀b o,X.base.get? b=some o->X.s₀.heap.get? b=some o/\X.H₀ b=none
 bsz:X.base.objs.size<=X.s₀.heap.objs.size
 noex:∀b o,X.base.get? b=some o->b∉X.ex
 exfs:∀b∈X.ex,b∉X.fs
 funs:X.s₀.heap.FunFrames X.base X.outer
 frf:∀b∈X.fs,X.H₀ b=none
structure Inv (X:Cx)(pins:List (Addr×Obj))(σ:List (Option V))(H:Hp)(s:BR):Prop where
 ok:X.Ok
 os:s.os=X.s₀.os
 bare:AllBare s.gens
 base:Un X.fs X.ex X.H₀ H X.s₀.heap s.heap
 loc:∃m,s.heap.Ns X.env.locals m/\∀(i:Nat) (x:Str) (v:V),X.N[i]? = some x->σ[i]? = some (some v)->Vis X.env.scope x->∃u,RelV v u/\Look X.env s.heap m x u
 cell:∀x c,X.env.cells.lookup x=some c->∃v,s.heap.IsCell c v
 free:H X.env.locals=none
 freeC:∀x c,X.env.cells.lookup x=some c->H c=none
 pin:∀p∈X.pn++pins,s.heap.get? p.1=some p.2/\H p.1=none/\p.1≠X.env.locals/\p.1∉X.fs/\∀v,p.2.data ≠ .cell v
 hok:HOk X.prog X.w H s.heap
 len:σ.length=X.N.length
section
variable  {X:Cx}{pins:List (Addr×Obj)}{σ:List (Option V)}{H H':Hp}{s:BR}{h':Heap}
theorem Cx.Ok.nofr (ok:X.Ok){b:Addr}{o:Obj}(e:X.base.get? b=some o):b∉X.fs:=λhb=>by
 have:=(ok.funs.mem hb).1
 rw[e] at this;cases this
theorem Inv.bs (I:Inv X pins σ H s):∀b o,X.base.get? b=some o->s.heap.get? b=some o/\H b=none:=λb o e =>
 ⟨I.base.keep b o (I.ok.bs b o e).1 (I.ok.bs b o e).2 (I.ok.nofr e) (I.ok.noex b o e),I.base.free b o (I.ok.bs b o e).1 (I.ok.bs b o e).2 (I.ok.noex b o e)⟩
theorem Inv.bk (I:Inv X pins σ H s):∀b o,X.base.get? b=some o->s.heap.get? b=some o:=λb o e=>(I.bs b o e).1
theorem Inv.mod (I:Inv X pins σ H s):Mod X.K X.mg X.base:=I.ok.mod
theorem Inv.kIn (I:Inv X pins σ H s):X.K.In s.heap:=I.ok.mod.kin.keeps I.bk
theorem Inv.nolimit (I:Inv X pins σ H s):s.heap.NoLimit:=I.ok.mod.nolimit.keeps I.bk
theorem Inv.lt (I:Inv X pins σ H s):X.env.locals<s.heap.objs.size:=let ⟨_,hn,_⟩:=I.loc;hn.lt
theorem Inv.sz (I:Inv X pins σ H s):X.s₀.heap.objs.size<=s.heap.objs.size:=Cq I.ok.above (FF I.lt)
theorem Inv.xF (I:Inv X pins σ H s){a:Addr}(h:s.heap.objs.size<=a):a∉X.fs:=λhb=>by
 obtain ⟨_,o,ho,_⟩:=I.ok.funs.mem hb
 exact absurd (B8 (BW ho) (Cq I.sz h)) (Dc _)
theorem Inv.cne (I:Inv X pins σ H s):∀x c,X.env.cells.lookup x=some c->c≠X.env.locals:=λx c e z=>by
 obtain ⟨v,o,ho,hd⟩:=I.cell x c e
 obtain ⟨m,⟨o',es,ep,ho',hd',_⟩,_⟩:=I.loc
 rw[z,ho'] at ho;cases ho;rw[hd'] at hd;cases hd
theorem Inv.funs (I:Inv X pins σ H s):s.heap.FunFrames X.base X.outer:=by
 have all:∀(l:List Env),(∀b∈frs l,b∈X.fs)->X.s₀.heap.FunFrames X.base l->s.heap.FunFrames X.base l:=by
  intro l
  induction l with
  | nil=>intro _ _;trivial
  | cons env r ih =>
   intro hs hl
   obtain ⟨hk,⟨L,o,hf,hn,ho,hd⟩,hr⟩:=hl
   have hL:L∈X.fs:=hs L (by unfold frs;rw[Dw,hf];exact B1)
   obtain ⟨sl,e⟩:=I.base.slot L o ho (I.ok.frf L hL) hL λz=>I.ok.exfs L z hL
   exact ⟨hk,⟨L,_,hf,hn,e,hd⟩,ih (λb hb=>hs b (by unfold frs;rw[Dw,hf];exact B9 _ hb)) hr⟩
 exact all X.outer (λ_ hb=>hb) I.ok.funs
theorem Inv.stack (I:Inv X pins σ H s):s.heap.FunFrames X.base X.stack:=by
 rcases I.ok.stk with e | ⟨e,hf⟩
 ·rw[e];exact I.funs
 ·rw[e]
  obtain ⟨m,hn,_⟩:=I.loc
  refine .cons (by rw[I.ok.kind];decide) hf hn ?_ I.funs
  exact Fp (Cq I.ok.bsz I.ok.above)
theorem Inv.nI (I:Inv X pins σ H s):∀b∈frs X.stack,b∈X.env.locals :: X.fs:=λb hb=>by
 rcases I.ok.stk with e | ⟨e,hf⟩
 ·rw[e] at hb;exact B9 _ hb
 ·rw[e] at hb
  unfold frs at hb
  rw[Dw,hf] at hb
  exact hb
theorem Inv.jW (I:Inv X pins σ H s):∀b∈frs X.stack,H b=none:=λb hb=>by
 rcases Cw.mp (I.nI b hb) with e | hb
 ·rw[e];exact I.free
 ·obtain ⟨_,o,ho,_⟩:=I.ok.funs.mem hb
  exact I.base.free b o ho (I.ok.frf b hb) λz=>I.ok.exfs b z hb
theorem Inv.step {g':Array GenState}{t':Nat}{d':Drawn}{ch:List Addr}(I:Inv X pins σ H s)
  (hch:∀b∈ch,(b∈X.ex\/X.s₀.heap.objs.size<=b)/\b≠X.env.locals/\(∀x c,X.env.cells.lookup x=some c->c≠b)/\∀p∈X.pn++pins,p.1≠b)
  (keep:∀b o,b≠X.env.locals->b∉X.fs->b∉ch->s.heap.get? b=some o->H b=none->h'.get? b=some o)
  (slot:∀b o,b≠X.env.locals->b∈X.fs->b∉ch->s.heap.get? b=some o->H b=none->∃sl,h'.get? b=some { o with slots:=sl }) (free:∀b o,b∉ch->s.heap.get? b=some o->H b=none->H' b=none)
  (there:∀b o,b∉ch->s.heap.get? b=some o->∃o',h'.get? b=some o')
  (tups:∀b xs,H b=some (.tup xs)->H' b=some (.tup xs)) (frzs:∀b o u,H b=some (.frz o u)->H' b=some (.frz o u)) (tbls:∀b ps,H b=some (.tbl ps)->∃more,H' b=some (.tbl (ps++more)))
  (ns:∀m,s.heap.Ns X.env.locals m->h'.Ns X.env.locals m) (hok:HOk X.prog X.w H' h') (hg:AllBare g') :
  Inv X pins σ H' { s with heap:=h',gens:=g',drawn:=d',toks:=t' }:=by
 have neL:∀b o,X.s₀.heap.get? b=some o->b≠X.env.locals:=λb o e=>Cp (B8 (BW e) I.ok.above)
 have neC:∀b o,X.s₀.heap.get? b=some o->b∉X.ex->b∉ch:=λb o e hx hb=>by
  rcases (hch b hb).1 with z | z
  ·exact hx z
  ·exact absurd (B8 (BW e) z) (Dc _)
 have cellK:∀x c,X.env.cells.lookup x=some c->∀v,s.heap.IsCell c v->h'.IsCell c v:=λx c e v ⟨o,ho,hd⟩=>by
  have nch:c∉ch:=λz=>(hch c z).2.2.1 x c e rfl
  by_cases hc:c∈X.fs
  ·obtain ⟨sl,q⟩:=slot c o (I.cne x c e) hc nch ho (I.freeC x c e)
   exact ⟨_,q,hd⟩
  ·exact ⟨o,keep c o (I.cne x c e) hc nch ho (I.freeC x c e),hd⟩
 refine ⟨I.ok,I.os,hg,⟨λb o e n hb hx =>?_,λb o e n hb hx =>?_,λb o e n hx =>?_,λb o e hx =>?_,λb xs e=>tups b xs (I.base.tups b xs e),λb o xs e=>frzs b o xs (I.base.frzs b o xs e),λb ps e =>?_⟩,?_,λx c e =>?_,?_,λx c e =>?_,λp hp =>?_,hok,I.len⟩
 ·exact keep b o (neL b o e) hb (neC b o e hx) (I.base.keep b o e n hb hx) (I.base.free b o e n hx)
 ·obtain ⟨sl,e1⟩:=I.base.slot b o e n hb hx
  obtain ⟨sl',e2⟩:=slot b _ (neL b o e) hb (neC b o e hx) e1 (I.base.free b o e n hx)
  exact ⟨sl',e2⟩
 ·obtain ⟨o',e1⟩:=I.base.there b o e hx
  exact free b o' (neC b o e hx) e1 (I.base.free b o e n hx)
 ·obtain ⟨o',e1⟩:=I.base.there b o e hx
  exact there b o' (neC b o e hx) e1
 ·obtain ⟨m1,e1⟩:=I.base.tbls b ps e
  obtain ⟨m2,e2⟩:=tbls b _ e1
  exact ⟨m1++m2,by rw[e2,Hb]⟩
 ·obtain ⟨m,hn,hl⟩:=I.loc
  refine ⟨m,ns m hn,λi x v e1 e2 e3 =>?_⟩
  obtain ⟨u,r,l⟩:=hl i x v e1 e2 e3
  refine ⟨u,r,?_⟩
  rcases l with l | ⟨k,c,e,z⟩
  ·exact .inl l
  ·exact .inr ⟨k,c,e,cellK x c e _ z⟩
 ·obtain ⟨v,z⟩:=I.cell x c e
  exact ⟨v,cellK x c e v z⟩
 ·obtain ⟨m,⟨o,_,_,ho,_⟩,_⟩:=I.loc
  exact free _ o (λz=>(hch _ z).2.1 rfl) ho I.free
 ·obtain ⟨v,o,ho,hd⟩:=I.cell x c e
  exact free c o (λz=>(hch c z).2.2.1 x c e rfl) ho (I.freeC x c e)
 ·obtain ⟨e,n,ne,nf,d⟩:=I.pin p hp
  have nch:p.1∉ch:=λz=>(hch p.1 z).2.2.2 p hp rfl
  exact ⟨keep p.1 p.2 ne nf nch e n,free p.1 p.2 nch e n,ne,nf,d⟩
theorem Inv.un {t':Nat}(I:Inv X pins σ H s)(u:Un X.fs [] H H' s.heap h')(hok:HOk X.prog X.w H' h'):Inv X pins σ H' { s with heap:=h',toks:=t' }:=by
 obtain ⟨m,⟨o,es,ep,ho,r⟩,_⟩:=id I.loc
 obtain ⟨sl,hL⟩:=u.any ho I.free (by simp)
 exact I.step (g':=s.gens) (d':=s.drawn) (ch:=[]) (λ_ z=>nomatch z) (λb o _ hb _ e n=>u.keep b o e n hb (by simp)) (λb o _ hb _ e n=>u.slot b o e n hb (by simp)) (λb o _ e n=>u.free b o e n (by simp)) (λb o _ e=>u.there b o e (by simp)) u.tups u.frzs u.tbls (λm' hm=>by
  obtain ⟨o',es',ep',ho',r'⟩:=hm
  rw[ho] at ho';cases ho'
  exact ⟨_,es',ep',hL,r'⟩) hok I.bare
theorem Inv.call {g':Array GenState}{t':Nat}{d':Drawn}{ch:List Addr}(I:Inv X pins σ H s)(u:Un (frs X.stack) ch H H' s.heap h')(hok:HOk X.prog X.w H' h')(hg:AllBare g')
  (hch:∀b∈ch,(b∈X.ex\/X.s₀.heap.objs.size<=b)/\b≠X.env.locals/\(∀x c,X.env.cells.lookup x=some c->c≠b)/\∀p∈X.pn++pins,p.1≠b) :
  Inv X pins σ H' { s with heap:=h',gens:=g',drawn:=d',toks:=t' }:=by
 obtain ⟨m,⟨o,es,ep,ho,r⟩,_⟩:=id I.loc
 obtain ⟨sl,hL⟩:=u.any ho I.free λz=>(hch _ z).2.1 rfl
 exact I.step (ch:=ch) hch (λb o hL hb hc e n=>u.keep b o e n (λz=>(Cw.mp (I.nI b z)).elim hL hb) hc) (λb o _ _ hc e n=>u.any e n hc) (λb o hc e n=>u.free b o e n hc) (λb o hc e=>u.there b o e hc) u.tups u.frzs u.tbls (λm' hm=>by
  obtain ⟨o',es',ep',ho',r'⟩:=hm
  rw[ho] at ho';cases ho'
  exact ⟨_,es',ep',hL,r'⟩) hok hg
theorem Inv.turned {t':Nat}{it:Addr}(I:Inv X pins σ H s)(k:∀b o,b≠it->s.heap.get? b=some o->h'.get? b=some o)(hn:H it=none)(hL:it≠X.env.locals)
  (h1:it∈X.ex\/X.s₀.heap.objs.size<=it) (h2:∀x c,X.env.cells.lookup x=some c->c≠it) (h3:∀p∈X.pn++pins,p.1≠it):Inv X pins σ H { s with heap:=h',toks:=t' }:=by
 have nit:∀b u,H b=some u->b≠it:=λb u e z=>by rw[z,hn] at e;cases e
 refine I.step (g':=s.gens) (d':=s.drawn) (ch:=[it]) (λb hb =>?_) (λb o _ _ hc e _=>k b o (λz=>hc (by simp[z])) e) (λb o _ _ hc e _=>⟨o.slots,k b o (λz=>hc (by simp[z])) e⟩) (λ_ _ _ _ n=>n)
  (λb o hc e=>⟨o,k b o (λz=>hc (by simp[z])) e⟩) (λ_ _ e=>e) (λ_ _ _ e=>e) (λb ps e=>⟨#[],by rw[e];simp⟩) (λm hm =>?_) (λb u e =>?_) I.bare
 ·have e:b=it:=by simpa using hb
  subst e
  exact ⟨h1,hL,h2,h3⟩
 ·obtain ⟨o,es,ep,ho,r⟩:=hm
  exact ⟨o,es,ep,k _ o (DE hL) ho,r⟩
 ·refine (I.hok b u e).fV (λc v hc q=>k c v ?_ q) (λ_ q=>q) λ_ _ q=>q
  rcases hc with z | z
  ·rw[z];exact nit b u e
  ·exact nit c _ z
theorem Inv.tok (I:Inv X pins σ H s)(t:Nat):Inv X pins σ H { s with toks:=t }:=I.un (h':=s.heap) (t':=t) Un.refl I.hok
theorem Inv.kept {t':Nat}(I:Inv X pins σ H s)(k:∀b u,s.heap.get? b=some u->h'.get? b=some u):Inv X pins σ H { s with heap:=h',toks:=t' }:=I.un (Un.kept k) (I.hok.kept k)
theorem Inv.laid {a:Addr}{o:HO}{t':Nat}(I:Inv X pins σ H s)(k:∀b u,s.heap.get? b=some u->h'.get? b=some u)(hp:s.heap.objs.size<=a)(new:bo X.prog X.w (upd H a o) h' a o) :
  Inv X pins σ (upd H a o) { s with heap:=h',toks:=t' }:=I.un (Un.laid k hp (I.hok.fresh hp)) (I.hok.laid k hp new)
theorem Inv.write {x e:Addr}{o:HO}{t':Nat}(I:Inv X pins σ H s)(mu:Mut (H x))(he:e=x\/H e=some (.own x))(k:∀b u,b≠e->s.heap.get? b=some u->h'.get? b=some u)(heo:∃u,h'.get? e=some u)
  (new:bo X.prog X.w (upd H x o) h' x o):Inv X pins σ (upd H x o) { s with heap:=h',toks:=t' }:=I.un (Un.write mu he k heo) (I.hok.write mu he k heo new)
theorem Inv.eZ {pins':List (Addr×Obj)}(I:Inv X pins σ H s)(h:∀p∈pins',s.heap.get? p.1=some p.2/\H p.1=none/\p.1≠X.env.locals/\p.1∉X.fs/\∀v,p.2.data ≠ .cell v):Inv X pins' σ H s :=
 ⟨I.ok,I.os,I.bare,I.base,I.loc,I.cell,I.free,I.freeC,λp hp=>(B5.mp hp).elim (λz=>I.pin p (Gs _ z)) (h p),I.hok,I.len⟩
theorem kj {N:List Str}(hN:N.Nodup){i j:Nat}{x:Str}(a:N[i]? = some x)(b:N[j]? = some x):i=j:=by
 obtain ⟨h1,e1⟩:=Cg.mp a
 obtain ⟨h2,e2⟩:=Cg.mp b
 exact (List.getElem_inj hN).mp (e1.trans e2.symm)
theorem tY {M:Model}{A:CK}{E:BP->BR->Prop}{i:Nat}{x:Str}{v:V}{u:BP}{Q:Unit->BR->Prop}(I:Inv X pins σ H s)(hN:X.N.Nodup)(hi:X.N[i]? = some x)(hx:Loc X.env.scope x)(r:RelV v u)
  (h:∀s',Inv X pins (σ.set i (some v)) H s'->(∃a,Heap.SameBut a s.heap s'.heap/\(a=X.env.locals\/X.env.cells.lookup x=some a))->Q () s') (hf:X.fn x=true\/X.env.scope.names.lookup x=some .local:=by first | exact .inl rfl | exact .inr rfl | assumption):Cb M A (storeName X.env x u) Q E s:=by
 obtain ⟨m,hn,hl⟩:=id I.loc
 have hcls:(X.env.scope.kind == .class || (X.env.scope.kind == .module && X.env.locals != X.env.globals))=false:=by rw[I.ok.kind];rfl
 have hiσ:i<σ.length:=by rw[I.len];exact (Cg.mp hi).1
 have cne:=I.cne
 have tracked:∀{a:Addr} {h':Heap},(∃o,s.heap.get? a=some o/\H a=none)->Heap.SameBut a s.heap h'->HOk X.prog X.w H h':=λ{a h'} ha hs b ob e=>by
  obtain ⟨_,_,hfree⟩:=ha
  refine (I.hok b ob e).fV (λc w' hc q=>(hs.2 c ?_).trans q) (λ_ q=>q) λ_ _ q=>q
  rintro rfl
  rcases hc with rfl | hc
  ·rw[hfree] at e;cases e
  ·rw[hfree] at hc;cases hc
 rcases hx with hk | hk
 ·refine wpAny_storeName_local hk hn (λh' hn' hs =>?_) hcls
  obtain ⟨oL,_,_,hoL,_⟩:=id hn
  refine h _ ⟨I.ok,I.os,I.bare,⟨λb o e n hb hx =>?_,λb o e n hb hx =>?_,I.base.free,λb o e hx =>?_,I.base.tups,I.base.frzs,I.base.tbls⟩,⟨_,hn',λj y v' e1 e2 e3 =>?_⟩,λy c e =>?_,I.free,I.freeC,λp hp =>?_,tracked ⟨oL,hoL,I.free⟩ hs,by simpa using I.len⟩ ⟨_,hs,.inl rfl⟩
  ·exact (hs.2 b (Cp (B8 (BW e) I.ok.above))).trans (I.base.keep b o e n hb hx)
  ·obtain ⟨sl,e1⟩:=I.base.slot b o e n hb hx
   exact ⟨sl,(hs.2 b (Cp (B8 (BW e) I.ok.above))).trans e1⟩
  ·obtain ⟨o',e1⟩:=I.base.there b o e hx
   exact ⟨o',(hs.2 b (Cp (B8 (BW e) I.ok.above))).trans e1⟩
  ·by_cases hj:j=i
   ·subst hj
    rw[hi] at e1;cases e1
    rw[Ex hiσ] at e2
    cases e2
    exact ⟨u,r,.inl ⟨hk,by simp⟩⟩
   ·rw[Fq (DE hj)] at e2
    obtain ⟨u',r',q⟩:=hl j y v' e1 e2 e3
    refine ⟨u',r',?_⟩
    rcases q with ⟨k,e⟩ | ⟨k,c,e,z⟩
    ·refine .inl ⟨k,?_⟩
     have:y≠x:=λe=>hj (kj hN e1 (e ▸ hi))
     simp[this,e]
    ·exact .inr ⟨k,c,e,z.sameBut hs (cne y c e)⟩
  ·obtain ⟨w',z⟩:=I.cell y c e
   exact ⟨w',z.sameBut hs (cne y c e)⟩
  ·obtain ⟨e,n,ne,nf,d⟩:=I.pin p hp
   exact ⟨(hs.2 p.1 ne).trans e,n,ne,nf,d⟩
 ·have hfn:X.fn x=true:=by
   rcases hf with z | z
   ·exact z
   ·rw[z] at hk;cases hk
  obtain ⟨c,hc⟩:=I.ok.has x (.inl hk)
  obtain ⟨w',z⟩:=I.cell x c hc
  refine wpAny_storeName_cell I.ok.kind hk hc z (λh' hc' hs =>?_)
  obtain ⟨oc,hoc,hocd⟩:=id z
  refine h { s with heap:=h' } ⟨I.ok,I.os,I.bare,⟨λb o e n hb hx =>?_,λb o e n hb hx =>?_,I.base.free,λb o e hx =>?_,I.base.tups,I.base.frzs,I.base.tbls⟩,⟨m,hn.sameBut hs (DE (cne x c hc)),λj y v' e1 e2 e3 =>?_⟩,λy c' e =>?_,I.free,I.freeC,λp hp =>?_,tracked ⟨oc,hoc,I.freeC x c hc⟩ hs,by simpa using I.len⟩ ⟨c,hs,.inr hc⟩
  ·exact (hs.2 b (Cp (B8 (BW e) (I.ok.cab x c hfn hc)))).trans (I.base.keep b o e n hb hx)
  ·obtain ⟨sl,e1⟩:=I.base.slot b o e n hb hx
   exact ⟨sl,(hs.2 b (Cp (B8 (BW e) (I.ok.cab x c hfn hc)))).trans e1⟩
  ·obtain ⟨o',e1⟩:=I.base.there b o e hx
   exact ⟨o',(hs.2 b (Cp (B8 (BW e) (I.ok.cab x c hfn hc)))).trans e1⟩
  ·by_cases hj:j=i
   ·subst hj
    rw[hi] at e1;cases e1
    rw[Ex hiσ] at e2
    cases e2
    exact ⟨u,r,.inr ⟨.inl hk,c,hc,hc'⟩⟩
   ·rw[Fq (DE hj)] at e2
    obtain ⟨u',r',q⟩:=hl j y v' e1 e2 e3
    refine ⟨u',r',?_⟩
    rcases q with q | ⟨k,c',e,z'⟩
    ·exact .inl q
    ·refine .inr ⟨k,c',e,z'.sameBut hs ?_⟩
     rintro rfl
     exact hj (kj hN e1 (I.ok.inj _ _ _ e hc ▸ hi))
  ·by_cases hcc:c'=c
   ·subst hcc;exact ⟨_,hc'⟩
   ·obtain ⟨w2,z2⟩:=I.cell y c' e
    exact ⟨w2,z2.sameBut hs hcc⟩
  ·obtain ⟨e,n,ne,nf,d⟩:=I.pin p hp
   refine ⟨(hs.2 p.1 ?_).trans e,n,ne,nf,d⟩
   intro q
   rw[q,hoc] at e
   have q':oc=p.2:=Cv e
   exact d w' (by rw[<- q'];exact hocd)
theorem kq {M:Model}{A:CK}{E:BP->BR->Prop}{i:Nat}{x:Str}{v:V}{u:BP}{Q:Unit->BR->Prop}(I:Inv X pins σ H s)(hN:X.N.Nodup)(hi:X.N[i]? = some x)(hx:Loc X.env.scope x)(r:RelV v u)
  (h:∀s',Inv X pins (σ.set i (some v)) H s'->Q () s') (hf:X.fn x=true\/X.env.scope.names.lookup x=some .local:=by first | exact .inl rfl | exact .inr rfl | assumption):Cb M A (storeName X.env x u) Q E s :=
 tY I hN hi hx r (λs' I' _=>h s' I') hf
theorem Inv.vm {s':BR}{ch:List Addr}(I:Inv X pins σ H s)(ho:s'.os=s.os)(u:Un (frs X.stack) ch H H' s.heap s'.heap)(hok:HOk X.prog X.w H' s'.heap)(hg:AllBare s'.gens)
  (hch:∀b∈ch,(b∈X.ex\/X.s₀.heap.objs.size<=b)/\b≠X.env.locals/\(∀x c,X.env.cells.lookup x=some c->c≠b)/\∀p∈X.pn++pins,p.1≠b):Inv X pins σ H' s':=by
 obtain ⟨h',g',d',t',o'⟩:=s'
 have e:o'=s.os:=ho
 subst e
 exact I.call (g':=g') (t':=t') (d':=d') u hok hg hch
end
abbrev XK:=BP->Option Addr->Hp->Prop
abbrev St:=List (Option V)
abbrev VK:=V->Hp->Prop
abbrev TE:=St->Hp->VK->Prop
abbrev TT:=St->Hp->(Bool->Hp->Prop)->Prop
abbrev TA:=St->Hp->(List V->Hp->Prop)->Prop
structure Ends where
 nx:St->Hp->Prop
 rt:VK
 bk:St->Hp->Prop:=λ_ _=>False
 ct:St->Hp->Prop:=λ_ _=>False
abbrev TS:=Ends->St->Hp->Prop
def EP (X:Cx)(pins:List (Addr×Obj))(σ:St)(Q:VK)(u:BP)(s':BR):Prop:=∃v H',Inv X pins σ H' s'/\RelV v u/\Q v H'
def TP (X:Cx)(pins:List (Addr×Obj))(σ:St)(Q:Bool->Hp->Prop)(b:Bool)(s':BR):Prop:=∃H',Inv X pins σ H' s'/\Q b H'
def AP (X:Cx)(pins:List (Addr×Obj))(σ:St)(Q:List V->Hp->Prop)(us:List BP)(s':BR):Prop:=∃vs H',Inv X pins σ H' s'/\Vals vs us/\Q vs H'
def SP (X:Cx)(pins:List (Addr×Obj))(D:Ends)(f:Flow)(s':BR):Prop :=
 match f with
 | .next=>∃σ' H',Inv X pins σ' H' s'/\D.nx σ' H'
 | .brk=>∃σ' H',Inv X pins σ' H' s'/\D.bk σ' H'
 | .cont=>∃σ' H',Inv X pins σ' H' s'/\D.ct σ' H'
 | .ret u=>∃v σ' H',Inv X pins σ' H' s'/\RelV v u/\D.rt v H'
def PE (X:Cx)(e:Expr)(t:TE):Prop :=
 ∀(pins:List (Addr×Obj)) (s:BR) (σ:St) (H:Hp) (Q:VK),Inv X pins σ H s->t σ H Q->Cb (Cn X.prog X.w) X.A (eval e X.env) (EP X pins σ Q) X.xe s
def PT (X:Cx)(e:Expr)(t:TT):Prop :=
 ∀(pins:List (Addr×Obj)) (s:BR) (σ:St) (H:Hp) (Q:Bool->Hp->Prop),Inv X pins σ H s->t σ H Q->Cb (Cn X.prog X.w) X.A (isTrue e X.env (eval e X.env)) (TP X pins σ Q) X.xe s
def PW (X:Cx)(e:Expr)(t:TT):Prop :=
 ∀(whole:Sem BP) (pins:List (Addr×Obj)) (s:BR) (σ:St) (H:Hp) (Q:Bool->Hp->Prop),Inv X pins σ H s->t σ H Q->Cb (Cn X.prog X.w) X.A (isTrue e X.env whole) (TP X pins σ Q) X.xe s
theorem PW.pt {X:Cx}{e:Expr}{t:TT}(h:PW X e t):PT X e t:=h _
def PA (X:Cx)(es:List Expr)(t:TA):Prop :=
 ∀(pos:Pos) (pins:List (Addr×Obj)) (s:BR) (σ:St) (H:Hp) (Q:List V->Hp->Prop),Inv X pins σ H s->t σ H Q->Cb (Cn X.prog X.w) X.A (spliced (Fi pos (CO es X.env))) (AP X pins σ Q) X.xe s
def PS (X:Cx)(st:Stmt)(t:TS):Prop :=
 ∀(pins:List (Addr×Obj)) (s:BR) (σ:St) (H:Hp) (D:Ends),Inv X pins σ H s->t D σ H->Cb (Cn X.prog X.w) X.A (exec st X.env) (SP X pins D) X.xe s
def PSs (X:Cx)(st:List Stmt)(t:TS):Prop :=
 ∀(pins:List (Addr×Obj)) (s:BR) (σ:St) (H:Hp) (D:Ends),Inv X pins σ H s->t D σ H->Cb (Cn X.prog X.w) X.A (execs st X.env) (SP X pins D) X.xe s
theorem thn {α:Type}{t:Sem α}{Q Q':α -> BR->Prop}{M:Model}{A:CK}{E:BP->BR->Prop}{s:BR}(h:Cb M A t Q E s)(hQ:∀a s,Q a s->Q' a s):Cb M A t Q' E s:=C5 h hQ λ_ _ x=>x
open PySem PySem.Spec PyProof.Rows
section
variable  {X:Cx}
theorem bin {a b:Expr}{ta tb:TE}(ha:PE X a ta)(hb:PE X b tb){pins:List (Addr×Obj)}{s:BR}{σ:St}{H:Hp}{R:V->V->Hp->Prop}(I:Inv X pins σ H s)(h:ta σ H λx H1=>tb σ H1 λy H2=>R x y H2)
  {α:Type} {Q:α -> BR->Prop} {f:BP->BP->Sem α}
  (hf:∀v u s2 x y H2,Inv X pins σ H2 s2->RelV x v->RelV y u->R x y H2->Cb (Cn X.prog X.w) X.A (f v u) Q X.xe s2) :
  Cb (Cn X.prog X.w) X.A (eval a X.env) (λv s₁=>Cb (Cn X.prog X.w) X.A (eval b X.env) (λu s₂=>Cb (Cn X.prog X.w) X.A (f v u) Q X.xe s₂) X.xe s₁) X.xe s:=by
 refine thn (ha pins s σ H _ I h) λv s1 ⟨x,H1,I1,r1,q1⟩ =>?_
 refine thn (hb pins s1 σ H1 _ I1 q1) λu s2 ⟨y,H2,I2,r2,q2⟩ =>?_
 exact hf v u s2 x y H2 I2 r1 r2 q2
def zC (i:Nat):TE:=λσ H Q=>∃v,σ[i]? = some (some v)/\Q v H
def tC (v:V):TE:=λ_ H Q=>Q v H
theorem zD {i:Nat}{x:Str}{pos:Pos}(hN:X.N[i]? = some x)(hv:Vis X.env.scope x)(hd:(x == ("__debug__" : Str))=false:=by decide)(hcd:(x == ("__classdict__" : Str))=false:=by decide):PE X (.Name x pos) (zC i):=by
 intro pins s σ H Q I h
 obtain ⟨v,e,h⟩:=h
 obtain ⟨m,hn,hl⟩:=I.loc
 obtain ⟨u,r,l⟩:=hl i x v hN e hv
 have fin:EP X pins σ Q u s:=⟨v,H,I,r,h⟩
 rcases l with ⟨hk,hm⟩ | ⟨hk,c,hc,hcell⟩
 ·exact Ki (wpAny_loadName_local I.ok.kind hk hn hm fin) hd
 ·rcases hk with hk | hk
  ·exact Ki (wpAny_loadName_cell I.ok.kind hk hc hcell fin) hd
  ·exact Ki (wpAny_loadName_free I.ok.kind hk hc hcell fin hcd) hd
theorem ai {i j pos}:PE X (.Constant (.int i) j pos) (tC (.int i)):=λ_ _ _ H _ I h=>wpAny_Constant_int ⟨.int i,H,I.tok _,⟨_,rfl⟩,h⟩
theorem ku {b j pos}:PE X (.Constant (.bool b) j pos) (tC (.bl b)):=λ_ _ _ H _ I h=>Constant_bool ⟨.bl b,H,I,rfl,h⟩
theorem vn {j pos}:PE X (.Constant .none j pos) (tC .non):=λ_ _ _ H _ I h=>Constant_none ⟨.non,H,I,rfl,h⟩
theorem bU {x j pos}:PE X (.Constant (.str x) j pos) (tC (.str x)):=λ_ _ _ H _ I h=>Calls.Constant_str ⟨.str x,H,I.tok _,⟨_,rfl⟩,h⟩
def Gl (X:Cx)(x:Str):Prop:=X.env.kindOf x=some .globalImplicit
theorem fc {E:BP->BR->Prop}{pins:List (Addr×Obj)}{s:BR}{σ:St}{H:Hp}{x:Str}{u:BP}{pos:Pos}{Q:BP->BR->Prop}(I:Inv X pins σ H s)(hg:Gl X x)(hm:X.mg x=some u)(h:Q u s)
  (hd:(x == ("__debug__" : Str))=false:=by decide):Cb (Cn X.prog X.w) X.A (eval (.Name x pos) X.env) Q E s :=
 GU I.ok.kind hg (Calls.loadGlobal_global (by rw[I.ok.glob];exact I.mod.glob.keeps I.bk) hm h) hd
theorem fW {E:BP->BR->Prop}{pins:List (Addr×Obj)}{s:BR}{σ:St}{H:Hp}{x:Str}{u:BP}{pos:Pos}{Q:BP->BR->Prop}(I:Inv X pins σ H s)(hg:Gl X x)(hm:X.mg x=none)(hv:C2 x=some u)(h:Q u s)
  (hn:x ≠ "__name__" := by decide) (hd:(x == ("__debug__" : Str))=false:=by decide):Cb (Cn X.prog X.w) X.A (eval (.Name x pos) X.env) Q E s:=by
 obtain ⟨mb,h1,h2⟩:=I.mod.blt
 exact GU I.ok.kind hg (Calls.loadGlobal_builtin (by rw[I.ok.glob];exact I.mod.glob.keeps I.bk) hm (by rw[I.ok.blt];exact h1.keeps I.bk) ((h2 x hn).trans hv) h) hd
theorem jX {x:Str}{v:V}{u:BP}{pos:Pos}(hg:Gl X x)(hm:X.mg x=some u)(r:RelV v u)(hd:(x == ("__debug__" : Str))=false:=by decide):PE X (.Name x pos) (tC v) :=
 λ_ _ _ H _ I h=>fc I hg hm ⟨v,H,I,r,h⟩ hd
theorem aI {x:Str}{v:V}{u:BP}{pos:Pos}(hg:Gl X x)(hm:X.mg x=none)(hv:C2 x=some u)(r:RelV v u)(hn:x ≠ "__name__" := by decide)(hd:(x == ("__debug__" : Str))=false:=by decide):PE X (.Name x pos) (tC v) :=
 λ_ _ _ H _ I h=>fW I hg hm hv ⟨v,H,I,r,h⟩ hn hd
variable  {a b:Expr}{ta tb:TE}{pos:Pos}
def PC (X:Cx)(op:CmpOp)(a b:Expr)(t:TE):Prop :=
 ∀(pins:List (Addr×Obj)) (s:BR) (σ:St) (H:Hp) (Q:VK),Inv X pins σ H s->t σ H Q →
  Cb (Cn X.prog X.w) X.A (eval a X.env) (λv s₁=>Cb (Cn X.prog X.w) X.A (eval b X.env) (λu s₂=>Cb (Cn X.prog X.w) X.A (DZ op v u) (EP X pins σ Q) X.xe s₂) X.xe s₁) X.xe s
theorem vo (b:Expr){op:CmpOp}(h:op ≠ .In)(h2:op ≠ .NotIn):behindInMarks op b=false:=by
 have e1:(op == CmpOp.In)=false:=by cases op <;> first | rfl | exact absurd rfl h
 have e2:(op == CmpOp.NotIn)=false:=by cases op <;> first | rfl | exact absurd rfl h2
 cases b <;> simp[behindInMarks,e1,e2]
def tB (t:TE):TT:=λσ H Q=>t σ H λx H1=>∃c,x = .bl c/\Q c H1
theorem pt_cmp {op:CmpOp}{t:TE}(h:PC X op a b t)(h1:behindInMarks op b=false:=by first | exact vo _ (by decide) (by decide) | rfl):PT X (.Compare a [op] [b] pos) (tB t):=by
 intro pins s σ H Q I hw
 refine Ik (thn (h pins s σ H _ I hw) λv s1 h1=>thn h1 λu s2 h2=>thn h2 λc s3 ⟨x,H1,I1,r1,q1⟩ =>?_) h1
 obtain ⟨d,rfl,q⟩:=q1
 cases r1
 exact DC ⟨H1,I1,q⟩
theorem bV {e:Expr}{t:TE}(h:PE X e t)(he:∀whole,isTrue e X.env whole=(do let v ← whole;standAt e.pos;JT [v] (truthy v)):=by intro _;rfl):PT X e (tB t):=by
  intro pins s σ H Q I hw
  refine isTrue_plain (thn (h pins s σ H _ I hw) λv s1 ⟨x,H1,I1,r1,q1⟩ =>?_) (he _)
  obtain ⟨d,rfl,q⟩:=q1
  cases r1
  exact DC ⟨H1,I1,q⟩
variable  {tA tB':TT}{rest:List Expr}
def tAnd (t u:TT):TT:=λσ H Q=>t σ H λc H1=>if c=true then u σ H1 Q else Q false H1
def tOr (t u:TT):TT:=λσ H Q=>t σ H λc H1=>if c=true then Q true H1 else u σ H1 Q
def tNot (t:TT):TT:=λσ H Q=>t σ H λc H1=>Q (!c) H1
theorem jY (ha:PT X a tA):PW X (.BoolOp .And [a] pos) tA:=by
 intro wh pins s σ H Q I h
 refine isTrue_and (thn (ha pins s σ H Q I h) λc s1 e =>?_)
 cases c with
 | true=>exact isTrue_and_nil e
 | false=>exact e
theorem iP (ha:PT X a tA):PW X (.BoolOp .Or [a] pos) tA:=by
 intro wh pins s σ H Q I h
 refine isTrue_or (thn (ha pins s σ H Q I h) λc s1 e =>?_)
 cases c with
 | false=>exact isTrue_or_nil e
 | true=>exact e
theorem nJ (ha:PT X a tA)(hb:PW X (.BoolOp .And (b :: rest) pos) tB'):PW X (.BoolOp .And (a :: b :: rest) pos) (tAnd tA tB'):=by
 intro wh pins s σ H Q I h
 refine isTrue_and (thn (ha pins s σ H _ I h) λc s1 ⟨H1,I1,q1⟩ =>?_)
 cases c with
 | true=>exact hb wh pins s1 σ H1 Q I1 q1
 | false=>exact ⟨H1,I1,q1⟩
theorem l9 (ha:PT X a tA)(hb:PW X (.BoolOp .Or (b :: rest) pos) tB'):PW X (.BoolOp .Or (a :: b :: rest) pos) (tOr tA tB'):=by
 intro wh pins s σ H Q I h
 refine isTrue_or (thn (ha pins s σ H _ I h) λc s1 ⟨H1,I1,q1⟩ =>?_)
 cases c with
 | true=>exact ⟨H1,I1,q1⟩
 | false=>exact hb wh pins s1 σ H1 Q I1 q1
theorem dF (ha:PT X a tA):PT X (.UnaryOp .Not a pos) (tNot tA):=by
 intro pins s σ H Q I h
 exact isTrue_not (ha pins s σ H (λc H1=>Q (!c) H1) I h)
def AU (ta tb:TE):TE:=λσ H Q=>ta σ H λx H1=>∃c,x = .bl c/\if c=true then tb σ H1 Q else Q (.bl false) H1
def tOrV (ta tb:TE):TE:=λσ H Q=>ta σ H λx H1=>∃c,x = .bl c/\if c=true then Q (.bl true) H1 else tb σ H1 Q
def AV (ta:TE):TE:=λσ H Q=>ta σ H λx H1=>∃c,x = .bl c/\Q (.bl (!c)) H1
theorem cp {op}{t:TE}(h:PE X a t):PE X (.BoolOp op [a] pos) t:=λpins s σ H Q I hw=>BoolOp_one (h pins s σ H Q I hw)
theorem bP (ha:PE X a ta)(hb:PE X (.BoolOp .And (b :: rest) pos) tb):PE X (.BoolOp .And (a :: b :: rest) pos) (AU ta tb):=by
 intro pins s σ H Q I h
 refine BoolOp_and (thn (ha pins s σ H _ I h) λv s1 ⟨x,H1,I1,r1,q1⟩ =>?_)
 obtain ⟨c,rfl,q1⟩:=q1
 cases r1
 refine DC ?_
 cases c with
 | true=>exact hb pins s1 σ H1 Q I1 q1
 | false=>exact ⟨.bl false,H1,I1,rfl,q1⟩
theorem AW (ha:PE X a ta)(hb:PE X (.BoolOp .Or (b :: rest) pos) tb):PE X (.BoolOp .Or (a :: b :: rest) pos) (tOrV ta tb):=by
 intro pins s σ H Q I h
 refine BoolOp_or (thn (ha pins s σ H _ I h) λv s1 ⟨x,H1,I1,r1,q1⟩ =>?_)
 obtain ⟨c,rfl,q1⟩:=q1
 cases r1
 refine DC ?_
 cases c with
 | false=>exact hb pins s1 σ H1 Q I1 q1
 | true=>exact ⟨.bl true,H1,I1,rfl,q1⟩
theorem iQ (ha:PE X a ta):PE X (.UnaryOp .Not a pos) (AV ta):=by
 intro pins s σ H Q I h
 refine UnaryOp_ (thn (ha pins s σ H _ I h) λv s1 ⟨x,H1,I1,r1,q1⟩ =>?_)
 obtain ⟨c,rfl,q1⟩:=q1
 cases r1
 exact not_of (DC ⟨.bl (!c),H1,I1,rfl,q1⟩)
end
open PySem PySem.Spec PyProof.Rows
def SqL (K:BM)(H:Hp)(a:Addr)(xs:List V):Prop :=
 Rd H a (.lst xs) ∨
  ∃(o:Obj) (its:Array BP) (n:Nat),K.lookup a=some o/\o.cls = .type "list" /\ o.dict=none/\o.data = .seq its n/\its.size<=Ca/\Vals xs its.toList
def SqT (K:BM)(H:Hp)(a:Addr)(xs:List V):Prop :=
 Rd H a (.tup xs) ∨
  ∃(o:Obj) (its:Array BP) (n:Nat),K.lookup a=some o/\o.cls = .type "tuple" /\ o.data = .seq its n/\its.size<=Ca/\Vals xs its.toList
def absV:BP->Option V
 | .none=>some .non
 | .bool b=>some (.bl b)
 | .int i _=>some (.int i)
 | .str x _=>some (.str x)
 | .bytes b _=>some (.byt b)
 | .float b _=>some (.flt b)
 | .ref a=>some (.ref a)
 | .type n=>some (.ty n)
 | _=>none
theorem RelV.abs {x:V}{u:BP}(r:RelV x u):absV u=some x:=by
 cases x with
 | non=>cases r;rfl
 | bl _=>cases r;rfl
 | int _=>obtain ⟨t,rfl⟩:=r;rfl
 | str _=>obtain ⟨t,rfl⟩:=r;rfl
 | byt _=>obtain ⟨t,rfl⟩:=r;rfl
 | flt _=>obtain ⟨t,rfl⟩:=r;rfl
 | ref _=>cases r;rfl
 | ty _=>cases r;rfl
theorem RelV.inj {x y:V}{u:BP}(r:RelV x u)(q:RelV y u):x=y:=Cv (r.abs.symm.trans q.abs)
theorem Vals.inj:∀{xs ys:List V} {us:List BP},Vals xs us->Vals ys us->xs=ys
 | _,_,_,.nil,.nil=>rfl
 | _,_,_,.cons r t,.cons r' t'=>by rw[r.inj r',Vals.inj t t']
section
variable  {X:Cx}{pins:List (Addr×Obj)}{σ:St}{H:Hp}{s:BR}{a:Addr}{xs ys:List V}
theorem SqL.of {K:BM}(h:H a=some (.lst xs)):SqL K H a xs :=.inl (.inl h)
theorem SqT.of {K:BM}(h:H a=some (.tup xs)):SqT K H a xs :=.inl (.inl h)
theorem Inv.list (I:Inv X pins σ H s)(h:SqL X.K H a xs):∃its:List BP,Vals xs its/\PlainL s.heap a its.toArray/\xs.length<=Ca:=by
 rcases h with h | ⟨o,its,n,hk,hc,hd,hs,hz,r⟩
 ·obtain ⟨z,its,n,r,e⟩:=h.ok I.hok
  exact ⟨its,r,⟨_,n,e,rfl,rfl,rfl⟩,z⟩
 ·refine ⟨its.toList,r,⟨o,n,I.kIn a o hk,hc,hd,by simpa using hs⟩,?_⟩
  have e:=r.length
  simp only[B0] at e
  omega
theorem Inv.tuple (I:Inv X pins σ H s)(h:SqT X.K H a xs):∃its:List BP,Vals xs its/\IsTup s.heap a its.toArray/\xs.length<=Ca:=by
 rcases h with h | ⟨o,its,n,hk,hc,hs,hz,r⟩
 ·obtain ⟨z,its,r,p⟩:=h.ok I.hok
  exact ⟨its,r,p.tup,z⟩
 ·refine ⟨its.toList,r,⟨o,I.kIn a o hk,hc,n,by simpa using hs⟩,?_⟩
  have e:=r.length
  simp only[B0] at e
  omega
theorem Inv.oX (I:Inv X pins σ H s)(h:SqL X.K H a xs)(h':SqL X.K H a ys):xs=ys:=by
 obtain ⟨its,r,⟨o,n,e,_,_,d⟩,_⟩:=I.list h
 obtain ⟨its',r',⟨o',n',e',_,_,d'⟩,_⟩:=I.list h'
 rw[e] at e';cases e'
 rw[d] at d'
 injection d' with d1 _
 have:its=its':=by simpa using congrArg Array.toList d1
 subst this
 exact r.inj r'
theorem Inv.ma (I:Inv X pins σ H s)(h:SqT X.K H a xs)(h':SqT X.K H a ys):xs=ys:=by
 obtain ⟨its,r,⟨o,e,_,n,d⟩,_⟩:=I.tuple h
 obtain ⟨its',r',⟨o',e',_,n',d'⟩,_⟩:=I.tuple h'
 rw[e] at e';cases e'
 rw[d] at d'
 injection d' with d1 _
 have:its=its':=by simpa using congrArg Array.toList d1
 subst this
 exact r.inj r'
end
abbrev Cx.kB (X:Cx)(E:BP->BR->Prop):Cx:={ X with xe:=E }
abbrev Cx.nox (X:Cx):Cx:=X.kB λ_ _=>False
theorem Cx.Ok.kB {X:Cx}(ok:X.Ok)(E:BP->BR->Prop):(X.kB E).Ok :=
 ⟨ok.mod,ok.kind,ok.glob,ok.blt,ok.above,ok.inj,ok.has,ok.cab,ok.hd,ok.frames,ok.stk,ok.exf,ok.bs,ok.bsz,ok.noex,ok.exfs,ok.funs,ok.frf⟩
theorem Cx.Ok.eh {X:Cx}{E:BP->BR->Prop}(ok:(X.kB E).Ok):X.Ok :=
 ⟨ok.mod,ok.kind,ok.glob,ok.blt,ok.above,ok.inj,ok.has,ok.cab,ok.hd,ok.frames,ok.stk,ok.exf,ok.bs,ok.bsz,ok.noex,ok.exfs,ok.funs,ok.frf⟩
section
variable  {X:Cx}{pins:List (Addr×Obj)}{σ:St}{H:Hp}{s:BR}{E:BP->BR->Prop}
theorem Inv.kB (I:Inv X pins σ H s)(E:BP->BR->Prop):Inv (X.kB E) pins σ H s:=⟨I.ok.kB E,I.os,I.bare,I.base,I.loc,I.cell,I.free,I.freeC,I.pin,I.hok,I.len⟩
theorem Inv.eh (I:Inv (X.kB E) pins σ H s):Inv X pins σ H s:=⟨I.ok.eh,I.os,I.bare,I.base,I.loc,I.cell,I.free,I.freeC,I.pin,I.hok,I.len⟩
theorem SP.eh {D:Ends}{f:Flow}{s':BR}(h:SP (X.kB E) pins D f s'):SP X pins D f s':=by
 cases f with
 | next=>obtain ⟨σ',H',I,q⟩:=h;exact ⟨σ',H',I.eh,q⟩
 | brk=>obtain ⟨σ',H',I,q⟩:=h;exact ⟨σ',H',I.eh,q⟩
 | cont=>obtain ⟨σ',H',I,q⟩:=h;exact ⟨σ',H',I.eh,q⟩
 | ret u=>obtain ⟨v,σ',H',I,r,q⟩:=h;exact ⟨v,σ',H',I.eh,r,q⟩
theorem PSs.nox {st:List Stmt}{t:TS}(h:PSs X.nox st t):PSs X st t:=λpins s σ H D I hw =>
 C5 (h pins s σ H D (I.kB _) hw) (λ_ _ q=>q.eh) λ_ _ z=>False.elim z
end
section
variable  {X:Cx}{st:Stmt}{rest:List Stmt}{t u:TS}{e:Expr}{te:TE}{pos:Pos}
def AX:TS:=λD σ H=>D.nx σ H
def tSeq (t u:TS):TS:=λD σ H=>t { D with nx:=u D } σ H
theorem aK:PSs X [] AX:=λ_ _ σ H _ I h=>FQ ⟨σ,H,I,h⟩
theorem aj (h1:PS X st t)(h2:PSs X rest u):PSs X (st :: rest) (tSeq t u):=by
 intro pins s σ H D I h
 refine HV (thn (h1 pins s σ H { D with nx:=u D } I h) λf s1 q =>?_)
 cases f with
 | next =>
  obtain ⟨σ',H',I',q⟩:=q
  exact h2 pins s1 σ' H' D I' q
 | ret v=>exact q
 | brk=>exact q
 | cont=>exact q
theorem aq (h1:PS X st t):PSs X [st] t:=by
 intro pins s σ H D I h
 refine HV (thn (h1 pins s σ H D I h) λf s1 q =>?_)
 cases f with
 | next=>exact FQ q
 | ret v=>exact q
 | brk=>exact q
 | cont=>exact q
theorem Inv.quiet {pins:List (Addr×Obj)}{σ:St}{H:Hp}{s:BR}(I:Inv X pins σ H s):interactive X.env=false:=by simp[interactive,I.ok.kind]
def AY (te:TE):TS:=λD σ H=>te σ H λ_ H1=>D.nx σ H1
theorem cK (he:PE X e te)(hs:swapsWith e none pos.line X.env=pure false:=by rfl):PS X (.Expr e pos) (AY te):=by
 intro pins s σ H D I h
 exact wpAny_Expr_any (thn (he pins s σ H _ I h) λv s1 ⟨x,H1,I1,r1,q1⟩=>⟨σ,H1,I1,q1⟩) I.quiet hs
def tRet (te:TE):TS:=λD σ H=>te σ H D.rt
theorem aL (he:PE X e te):PS X (.Return (some e) pos) (tRet te):=by
 intro pins s σ H D I h
 exact wpAny_Return_some (thn (he pins s σ H _ I h) λv s1 ⟨x,H1,I1,r1,q1⟩=>⟨x,σ,H1,I1,r1,q1⟩)
def tIfS (c:TT)(t u:TS):TS:=λD σ H=>c σ H λb H1=>if b=true then t D σ H1 else u D σ H1
theorem ba {c:Expr}{a b:List Stmt}{tc:TT}(hc:PT X c tc)(ha:PSs X a t)(hb:PSs X b u):PS X (.If c a b pos) (tIfS tc t u):=by
 intro pins s σ H D I h
 refine wpAny_If (thn (hc pins s σ H _ I h) λd s1 ⟨H1,I1,q1⟩ =>?_)
 cases d with
 | true=>exact ha pins s1 σ H1 D I1 q1
 | false=>exact hb pins s1 σ H1 D I1 q1
def zE:TS:=λ_ _ _=>False
theorem eO {sts:List Stmt}:PSs X sts zE:=λ_ _ _ _ _ _ h=>h.elim
end
abbrev TG:=V->St->Hp->(St->Hp->Prop)->Prop
abbrev TGs:=List V->St->Hp->(St->Hp->Prop)->Prop
def PG (X:Cx)(target:Expr)(t:TG):Prop :=
 ∀(pins:List (Addr×Obj)) (s:BR) (σ:St) (H:Hp) (v:V) (u:BP) (Q:St->Hp->Prop),Inv X pins σ H s->RelV v u->t v σ H Q →
  Cb (Cn X.prog X.w) X.A (assign target X.env u) (λ_ s'=>∃σ' H',Inv X pins σ' H' s'/\Q σ' H') X.xe s
def PGs (X:Cx)(ts:List Expr)(t:TGs):Prop :=
 ∀(pins:List (Addr×Obj)) (s:BR) (σ:St) (H:Hp) (vs:List V) (us:List BP) (Q:St->Hp->Prop),Inv X pins σ H s->Vals vs us->t vs σ H Q →
  Cb (Cn X.prog X.w) X.A (assignInOrder ((assignEach ts X.env).map (·.2)) us) (λ_ s'=>∃σ' H',Inv X pins σ' H' s'/\Q σ' H') X.xe s
abbrev zF:=V->V->V->Hp->(Hp->Prop)->Prop
def AZ (X:Cx)(t:zF):Prop :=
 ∀(pins:List (Addr×Obj)) (s:BR) (σ:St) (H:Hp) (o i v:V) (ov iv u:BP) (Q:Hp->Prop),Inv X pins σ H s->RelV o ov->RelV i iv->RelV v u->t o i v H Q →
  Cb (Cn X.prog X.w) X.A (setItem ov iv u) (λ_ s'=>∃H',Inv X pins σ H' s'/\Q H') X.xe s
section
variable  {X:Cx}{pos:Pos}
def eQ (i:Nat):TG:=λv σ H Q=>Q (σ.set i (some v)) H
theorem aS {i:Nat}{x:Str}(hN:X.N.Nodup)(hi:X.N[i]? = some x)(hx:Loc X.env.scope x)(hf:X.fn x=true\/X.env.scope.names.lookup x=some .local:=by first | exact .inl rfl | exact .inr rfl | assumption):PG X (.Name x pos) (eQ i):=by
 intro pins s σ H v u Q I r h
 exact wpAny_assign_Name (kq I hN hi hx r (λs' I'=>⟨_,H,I',h⟩) hf)
def A0:TGs:=λvs σ H Q=>vs=[]/\Q σ H
def vp (t:TG)(u:TGs):TGs:=λvs σ H Q=>∃v r,vs=v :: r/\t v σ H λσ' H'=>u r σ' H' Q
theorem jZ:PGs X [] A0:=by
 intro pins s σ H vs us Q I r h
 obtain ⟨e,h⟩:=h
 subst e
 cases r
 exact assignInOrder_nil ⟨σ,H,I,h⟩
theorem cA {e:Expr}{es:List Expr}{t:TG}{u:TGs}(h1:PG X e t)(h2:PGs X es u)
  (hs:(assignEach (e :: es) X.env).map (·.2)=assign e X.env :: (assignEach es X.env).map (·.2):=by rfl):PGs X (e :: es) (vp t u):=by
 intro pins s σ H vs us Q I r h
 obtain ⟨v,vr,e1,h⟩:=h
 subst e1
 cases r with
 | cons r rr =>
  rw[hs]
  refine assignInOrder_cons (thn (h1 pins s σ H _ _ _ I r h) λ_ s1 ⟨σ1,H1,I1,q1⟩ =>?_)
  exact h2 pins s1 σ1 H1 _ _ Q I1 rr q1
def A1 (K:BM)(n:Nat)(t:TGs):TG:=λv σ H Q=>∃a xs,v = .ref a/\SqT K H a xs/\xs.length=n/\t xs σ H Q
theorem nK {es:List Expr}{k:Nat}{t:TGs}{n:Nat}(hc:X.calm=true)(h:PGs X es t)
  (hn:(assignEach es X.env).length=n:=by rfl) (hst:(assignEach es X.env).findIdx? (·.1)=none:=by rfl):PG X (.Tuple es k pos) (A1 X.K n t):=by
 intro pins s σ H v u Q I r hw
 obtain ⟨a,xs,e1,hq,hl,hw⟩:=hw
 subst e1
 cases r
 obtain ⟨its,rv,ht,hz⟩:=I.tuple hq
 refine assign_Tuple_tuple (I.ok.hd hc) ht (by simp[hn, <- hl,rv.length]) hst λh' hx =>?_
 have I1:Inv X pins σ H { s with heap:=h' }:=I.kept (t':=s.toks) λb o e=>hx b o (Cp (BW e)) e
 exact h pins _ σ H xs _ Q I1 (by simpa using rv) hw
def gSub (to ti:TE)(t:zF):TG:=λv σ H Q=>to σ H λo H1=>ti σ H1 λi H2=>t o i v H2 λH3=>Q σ H3
theorem zG {o i:Expr}{to ti:TE}{t:zF}(ho:PE X o to)(hi:PE X i ti)(hs:AZ X t)
    (ha:∀v,assign (.Subscript o i pos) X.env v=(do
      let ov ← JT [v] (eval o X.env)
      let iv ← JT [v,ov] (eval i X.env)
      standAt pos
      JT [v,ov,iv] (setItem ov iv v)
      release [v,ov,iv] []):=by intro _;rfl):PG X (.Subscript o i pos) (gSub to ti t):=by
  intro pins s σ H v u Q I r h
  rw[ha]
  refine BN (Dv (thn (ho pins s σ H _ I h) λov s1 ⟨x,H1,I1,r1,q1⟩ =>?_))
  refine BN (Dv (thn (hi pins s1 σ H1 _ I1 q1) λiv s2 ⟨y,H2,I2,r2,q2⟩ =>?_))
  refine BN (FR (BN (Dv (thn (hs pins s2 σ H2 x y v ov iv u _ I2 r1 r2 r q2) λ_ s3 ⟨H3,I3,q3⟩ =>?_))))
  exact wpAny_release ⟨σ,H3,I3,q3⟩
def zH (te:TE)(g:TG):TS:=λD σ H=>te σ H λx H1=>g x σ H1 D.nx
theorem qD {tg e:Expr}{te:TE}{g:TG}(he:PE X e te)(hg:PG X tg g)(hs:swapsWithSole [tg] e pos.line X.env=pure false:=by rfl)(hw:swappedStores [tg] e X.env=pure none:=by rfl)
  (h1:(assignEach [tg] X.env).map (·.2)=[assign tg X.env]:=by rfl):PS X (.Assign [tg] e pos) (zH te g):=by
 intro pins s σ H D I h
 refine wpAny_Assign_stores (thn (he pins s σ H _ I h) λv s1 ⟨x,H1,I1,r1,q1⟩ =>?_) hs hw
 rw[h1]
 exact thn (hg pins s1 σ H1 x v _ I1 r1 q1) λ_ s2 q=>q
theorem aU {i:Nat}{x:Str}{e:Expr}{te:TE}{pos':Pos}(hN:X.N.Nodup)(hi:X.N[i]? = some x)(hx:Loc X.env.scope x)(he:PE X e te)(hs:swapsWith e (some (.Name x pos')) pos.line X.env=pure false:=by rfl)(hf:X.fn x=true\/X.env.scope.names.lookup x=some .local:=by first | exact .inl rfl | exact .inr rfl | assumption) :
  PS X (.Assign [.Name x pos'] e pos) (zH te (eQ i)):=by
 intro pins s σ H D I h
 refine wpAny_Assign_Name (thn (he pins s σ H _ I h) λv s1 ⟨y,H1,I1,r1,q1⟩ =>?_) hs
 exact kq I1 hN hi hx r1 (λs2 I2=>⟨_,H1,I2,q1⟩) hf
end
section
variable  {X:Cx}{pos:Pos}
end
structure It where
 go:Nat->Hp->Prop
 yld:Nat->Hp->V->Hp->Prop
 stop:Nat->Hp->Prop
def jL (X:Cx)(pins:List (Addr×Obj))(H:Hp)(b:Addr):Prop :=
 H b=none/\b≠X.env.locals/\b∉X.fs/\(b∈X.ex\/X.s₀.heap.objs.size<=b)/\(∀x c,X.env.cells.lookup x=some c->c≠b)/\∀p∈X.pn++pins,p.1≠b
theorem Inv.vq {X:Cx}{pins:List (Addr×Obj)}{σ:St}{H H':Hp}{s:BR}{b:Addr}(I:Inv X pins σ H s)(hb:s.heap.objs.size<=b)(hn:H' b=none):jL X pins H' b:=by
 refine ⟨hn,E6 (B8 I.lt hb),I.xF hb,.inr (Cq I.sz hb),λx c e z =>?_,λp hp z =>?_⟩
 ·obtain ⟨v,q⟩:=I.cell x c e
  exact absurd (B8 q.lt (by rw[z];exact hb)) (Dc _)
 ·exact absurd (B8 (BW (I.pin p hp).1) (by rw[z];exact hb)) (Dc _)
structure Turn (P:B7)(w:CJ)(K:BM)(tg:Expr)(J:It)(fp:List Addr)(it:Addr)(tn:Nat->Heap->Prop):Prop where
 mem:it∈fp
 obj:∀i h,tn i h->∀b∈fp,∃o,h.get? b=some o/\∀v,o.data ≠ .cell v
 keep:∀i h h',tn i h->(∀b∈fp,∀o,h.get? b=some o->h'.get? b=some o)->tn i h'
 item:∀(X:Cx),X.prog=P->X.w=w->X.K=K->X.calm=true->∀(i:Nat) (pins:List (Addr×Obj)) (s:BR) (σ:St) (H:Hp) (E:BP->BR->Prop),Inv X pins σ H s->(∀b∈fp,jL X pins H b)->tn i s.heap->J.go i H →
  Cb (Cn P w) X.A (pyNext (.ref it)) (λr s1=>∃u,r=some u ∧
   Cb (Cn P w) X.A (letOwnedTupleGo tg (.ref it) u) (λ_ s2=>∃x H',Inv X pins σ H' s2/\RelV x u/\J.yld i H x H'/\tn (i+1) s2.heap/\∀b∈fp,H' b=none) E s1) E s
 done:∀(X:Cx),X.prog=P->X.w=w->X.K=K->X.calm=true->∀(i:Nat) (pins:List (Addr×Obj)) (s:BR) (σ:St) (H:Hp) (E:BP->BR->Prop),Inv X pins σ H s->(∀b∈fp,jL X pins H b)->tn i s.heap->J.stop i H →
  Cb (Cn P w) X.A (pyNext (.ref it)) (λr s1=>r=none/\Inv X pins σ H s1) E s
 self:∀(A:CK) (i:Nat) (s:BR) (Q:BP->BR->Prop) (E:BP->BR->Prop),tn i s.heap->Q (.ref it) s->Cb (Cn P w) A (pyIter (.ref it)) Q E s
abbrev TI:=St->Hp->(It->Hp->Prop)->Prop
def PIE (X:Cx)(pins:List (Addr×Obj))(σ:St)(tg:Expr)(R:It->Hp->Prop)(itv:BP)(s2:BR):Prop :=
 ∃(it:Addr) (fp:List Addr) (tn:Nat->Heap->Prop) (J:It) (H':Hp),itv = .ref it/\Inv X pins σ H' s2/\Turn X.prog X.w X.K tg J fp it tn/\tn 0 s2.heap/\(∀b∈fp,jL X pins H' b)/\R J H'
def PI (X:Cx)(tg iter:Expr)(wi:TI):Prop :=
 ∀(pins:List (Addr×Obj)) (s:BR) (σ:St) (H:Hp) (R:It->Hp->Prop),Inv X pins σ H s->wi σ H R →
  Cb (Cn X.prog X.w) X.A (eval iter X.env) (λv s1=>Cb (Cn X.prog X.w) X.A (pyIter v) (PIE X pins σ tg R) X.xe s1) X.xe s
theorem sg {M:Model}{A:CK}{E:BP->BR->Prop}{s:BR}{tg:Expr}{it:Addr}{u:BP}{o:Obj}{n:String}{vs:Array BP}{Q:Unit->BR->Prop}(ho:s.heap.get? it=some o)(hc:o.cls = .type n)(hd:o.data = .fields vs)
    (hn:["enumerate", "zip", "dict_itemiterator", "dict_reverseitemiterator", "odict_iterator", "itertools.zip_longest", "itertools.pairwise"].contains n=false) (hQ:Q () s):Cb M A (letOwnedTupleGo tg (.ref it) u) Q E s:=by
  unfold letOwnedTupleGo
  cases tg <;> first
    | exact BS hQ
    | (cases u <;> first
        | exact BS hQ
        | (refine BN (Jm ho ?_)
           rw[hc,hd]
           show Cb M A (if (["enumerate", "zip", "dict_itemiterator", "dict_reverseitemiterator", "odict_iterator", "itertools.zip_longest", "itertools.pairwise"].contains n && vs[0]? == some (Ea _))=true then _ else _) Q E s
           rw[if_neg (by intro h;rw[hn,IA] at h;cases h)]
           exact BS hQ))
def Itl (K:BM)(a:Addr):It :=
 ⟨λi H=>∃xs x,SqL K H a xs/\xs[i]? = some x,λi H x H'=>H'=H/\∀xs,SqL K H a xs->xs[i]? = some x,λi H=>∃xs,SqL K H a xs/\xs.length<=i⟩
def Itt (K:BM)(a:Addr):It :=
 ⟨λi H=>∃xs x,SqT K H a xs/\xs[i]? = some x,λi H x H'=>H'=H/\∀xs,SqT K H a xs->xs[i]? = some x,λi H=>∃xs,SqT K H a xs/\xs.length<=i⟩
def Itr (lo:Int)(n:Nat):It:=⟨λi _=>i<n,λi H x H'=>H'=H/\x = .int (lo+i),λi _=>n<=i⟩
theorem tZ {P:B7}{w:CJ}{K:BM}{tg:Expr}(a it:Addr):Turn P w K tg (Itl K a) [it] it (λi h=>h.IsListIter it a i) where
 mem:=by simp
 obj:=λi h st b hb=>by
  have e:b=it:=by simpa using hb
  subst e
  obtain ⟨o,e,c,d⟩:=st
  exact ⟨o,e,λv z=>by rw[d] at z;cases z⟩
 keep:=λi h h' st k=>st.at λo e=>k it (by simp) o e
 item:=by
  intro X hP hw hK hc i pins s σ H E I hf st hg
  subst hP hw hK
  obtain ⟨xs,x,hq,hx⟩:=hg
  obtain ⟨its,rv,p,hz⟩:=I.list hq
  obtain ⟨u,hu,ru⟩:=rv.get hx
  obtain ⟨f0,f1,f2,f3,f4,f5⟩:=hf it (by simp)
  refine wpAny_pyNext_list_item st p.isList (x:=u) (by simpa using hu) λh' st' sb =>?_
  have I1:Inv X pins σ H { s with heap:=h' }:=I.turned (t':=s.toks) (λb o hb e=>(sb.2 b hb).trans e) f0 f1 f3 f4 f5
  obtain ⟨o,e,c,d⟩:=id st'
  exact ⟨u,rfl,sg (s:={ s with heap:=h' }) e c d (by decide) ⟨x,H,I1,ru,⟨rfl,λys hy=>by rw[I.oX hy hq];exact hx⟩,st',λb hb=>(hf b hb).1⟩⟩
 done:=by
  intro X hP hw hK hc i pins s σ H E I hf st hg
  subst hP hw hK
  obtain ⟨xs,hq,hx⟩:=hg
  obtain ⟨its,rv,p,hz⟩:=I.list hq
  obtain ⟨f0,f1,f2,f3,f4,f5⟩:=hf it (by simp)
  have hl:=rv.length
  exact wpAny_pyNext_list_end (I.ok.hd hc) st p.isList (by simp;omega) λh' eb=>⟨rfl,I.turned (t':=s.toks) (λb o hb e=>eb b o hb e) f0 f1 f3 f4 f5⟩
 self:=λ_ _ _ _ _ st h=>wpAny_pyIter_listiter st h
theorem qE {P:B7}{w:CJ}{K:BM}{tg:Expr}(a it:Addr):Turn P w K tg (Itt K a) [it] it (λi h=>h.IsTupleIter it a i) where
 mem:=by simp
 obj:=λi h st b hb=>by
  have e:b=it:=by simpa using hb
  subst e
  obtain ⟨o,e,c,d⟩:=st
  exact ⟨o,e,λv z=>by rw[d] at z;cases z⟩
 keep:=λi h h' st k=>st.at λo e=>k it (by simp) o e
 item:=by
  intro X hP hw hK hc i pins s σ H E I hf st hg
  subst hP hw hK
  obtain ⟨xs,x,hq,hx⟩:=hg
  obtain ⟨its,rv,p,hz⟩:=I.tuple hq
  obtain ⟨u,hu,ru⟩:=rv.get hx
  obtain ⟨f0,f1,f2,f3,f4,f5⟩:=hf it (by simp)
  refine wpAny_pyNext_tuple_item st (show s.heap.IsTuple a its.toArray from p) (x:=u) (by simpa using hu) λh' st' sb =>?_
  have I1:Inv X pins σ H { s with heap:=h' }:=I.turned (t':=s.toks) (λb o hb e=>(sb.2 b hb).trans e) f0 f1 f3 f4 f5
  obtain ⟨o,e,c,d⟩:=id st'
  exact ⟨u,rfl,sg (s:={ s with heap:=h' }) e c d (by decide) ⟨x,H,I1,ru,⟨rfl,λys hy=>by rw[I.ma hy hq];exact hx⟩,st',λb hb=>(hf b hb).1⟩⟩
 done:=by
  intro X hP hw hK hc i pins s σ H E I hf st hg
  subst hP hw hK
  obtain ⟨xs,hq,hx⟩:=hg
  obtain ⟨its,rv,p,hz⟩:=I.tuple hq
  obtain ⟨f0,f1,f2,f3,f4,f5⟩:=hf it (by simp)
  have hl:=rv.length
  exact wpAny_pyNext_tuple_end (I.ok.hd hc) st (show s.heap.IsTuple a its.toArray from p) (by simp;omega) λh' eb=>⟨rfl,I.turned (t':=s.toks) (λb o hb e=>eb b o hb e) f0 f1 f3 f4 f5⟩
 self:=λ_ _ _ _ _ st h=>wpAny_pyIter_tupleiter st h
theorem qF {P:B7}{w:CJ}{K:BM}{tg:Expr}(it:Addr)(lo:Int)(n:Nat):Turn P w K tg (Itr lo n) [it] it (λi h=>IsRangeIter h it (lo+(i:Nat)*1) ((n:Int)-(i:Nat)) 1) where
 mem:=by simp
 obj:=λi h st b hb=>by
  have e:b=it:=by simpa using hb
  subst e
  exact ⟨_,st,λv z=>by
   have z':Data.fields _=Data.cell v:=z
   cases z'⟩
 keep:=λi h h' st k=>k it (by simp) _ st
 item:=by
  intro X hP hw hK hc i pins s σ H E I hf st hg
  subst hP hw hK
  obtain ⟨f0,f1,f2,f3,f4,f5⟩:=hf it (by simp)
  have W:=Walks.range (prog:=X.prog) (w:=X.w) (I.ok.hd hc) it lo 1 n
  refine W.item i s _ _ hg st λv h' tk hv st' kk =>?_
  obtain ⟨t,rfl⟩:=hv
  have I1:Inv X pins σ H { s with heap:=h',toks:=tk }:=I.turned (λb o hb e=>kk b o (by simpa using hb) e) f0 f1 f3 f4 f5
  refine ⟨_,rfl,sg (s:={ s with heap:=h',toks:=tk }) (n := "range_iterator") st' rfl rfl (by decide) ⟨.int (lo+i),H,I1,⟨t,?_⟩,⟨rfl,rfl⟩,st',λb hb=>(hf b hb).1⟩⟩
  rw[Int.mul_one]
 done:=by
  intro X hP hw hK hc i pins s σ H E I hf st hg
  subst hP hw hK
  obtain ⟨f0,f1,f2,f3,f4,f5⟩:=hf it (by simp)
  exact wpAny_pyNext_range_end (I.ok.hd hc) st (by have:n<=i:=hg;omega) λh' eb=>⟨rfl,I.turned (t':=s.toks) (λb o hb e=>eb b o hb e) f0 f1 f3 f4 f5⟩
 self:=λ_ _ _ _ _ st h=>wpAny_pyIter_rangeiter st h
open PySem PySem.Spec PyProof.Rows
section
variable  {X:Cx}{tg:Expr}
def A2 (K:BM)(tl:TE):TI:=λσ H R=>tl σ H λx H1=>∃a,x = .ref a/\(∃xs,SqL K H1 a xs)/\R (Itl K a) H1
def iTup (K:BM)(tl:TE):TI:=λσ H R=>tl σ H λx H1=>∃a,x = .ref a/\(∃xs,SqT K H1 a xs)/\R (Itt K a) H1
theorem j6 {l:Expr}{tl:TE}(hl:PE X l tl):PI X tg l (A2 X.K tl):=by
 intro pins s σ H R I h
 refine thn (hl pins s σ H _ I h) λv s1 ⟨x,H1,I1,r1,q1⟩ =>?_
 obtain ⟨a,e,⟨xs,hq⟩,q⟩:=q1
 subst e
 cases r1
 obtain ⟨its,rv,p,hz⟩:=I1.list hq
 refine F8 p.isList ?_
 refine ⟨s1.heap.objs.size,[s1.heap.objs.size],_,_,H1,rfl,I1.kept (t':=s1.toks) λb o e=>BO _ e,tZ a _,⟨_,BX _ rfl,rfl,rfl⟩,λb hb =>?_,q⟩
 have e:b=s1.heap.objs.size:=by simpa using hb
 subst e
 exact I1.vq (BV _) (I1.hok.fresh (BV _))
theorem cq {l:Expr}{tl:TE}(hl:PE X l tl):PI X tg l (iTup X.K tl):=by
 intro pins s σ H R I h
 refine thn (hl pins s σ H _ I h) λv s1 ⟨x,H1,I1,r1,q1⟩ =>?_
 obtain ⟨a,e,⟨xs,hq⟩,q⟩:=q1
 subst e
 cases r1
 obtain ⟨its,rv,p,hz⟩:=I1.tuple hq
 refine Hd (show s1.heap.IsTuple a its.toArray from p) ?_
 refine ⟨s1.heap.objs.size,[s1.heap.objs.size],_,_,H1,rfl,I1.kept (t':=s1.toks) λb o e=>BO _ e,qE a _,⟨_,BX _ rfl,rfl,rfl⟩,λb hb =>?_,q⟩
 have e:b=s1.heap.objs.size:=by simpa using hb
 subst e
 exact I1.vq (BV _) (I1.hok.fresh (BV _))
theorem vt {pins:List (Addr×Obj)}{σ:St}{H:Hp}{s:BR}{R:It->Hp->Prop}{E:BP->BR->Prop}{lo hi:Int}{t u v:Tok}{tk:Nat}(I:Inv X pins σ H s)(h1 : -(2 ^ 62)<=lo)(h2:lo<2 ^ 62)(h3 : -(2 ^ 62)<=hi)(h4:hi<2 ^ 62)
  (q:R (Itr lo (hi-lo).toNat) H):Cb (Cn X.prog X.w) X.A (pyIter (.ref s.heap.objs.size)) (PIE X pins σ tg R) E { s with heap:=s.heap.push { cls :=.type "range",data :=.fields #[.int lo t,.int hi u,.int 1 v] },toks:=tk }:=by
 refine wpAny_pyIter_range (IsRange.new ..) (small_one h1 h2 h3 h4) ?_
 have I1:Inv X pins σ H { s with heap:=s.heap.push { cls :=.type "range",data :=.fields #[.int lo t,.int hi u,.int 1 v] },toks:=tk }:=I.kept λb o e=>BO _ e
 refine ⟨(s.heap.push { cls :=.type "range",data :=.fields #[.int lo t,.int hi u,.int 1 v] }).objs.size,[(s.heap.push { cls :=.type "range",data :=.fields #[.int lo t,.int hi u,.int 1 v] }).objs.size],_,_,H,rfl,
  I1.kept (t':=tk) λb o e=>BO _ e,qF _ lo (hi-lo).toNat,?_,λb hb =>?_,q⟩
 ·have e1:lo+((0:Nat):Int)*1=lo:=by simp
  have e2:(((hi-lo).toNat:Nat):Int)-((0:Nat):Int)=Builtin.Range.rangeSize lo hi 1:=by rw[rangeSize_one];split <;> omega
  show IsRangeIter _ _ (lo+((0:Nat):Int)*1) ((((hi-lo).toNat:Nat):Int)-((0:Nat):Int)) 1
  rw[e1,e2]
  exact BX _ rfl
 ·have e:b=(s.heap.push { cls :=.type "range",data :=.fields #[.int lo t,.int hi u,.int 1 v] }).objs.size:=by simpa using hb
  subst e
  exact I1.vq (BV _) (I1.hok.fresh (BV _))
def A3 (ta:TA):TI:=λσ H R=>ta σ H λvs H1=>∃j:Int,vs=[.int j] /\ -(2 ^ 62)<=j/\j<2 ^ 62/\R (Itr 0 j.toNat) H1
theorem iR {a:Expr}{ta:TA}{p pos:Pos}(hg:Gl X "range")(hm:X.mg "range" = none)(ha:PA X [a] ta)(hs:CO [a] X.env=[(false,eval a X.env)]:=by rfl):PI X tg (.Call (.Name "range" p) [a] [] pos) (A3 ta):=by
 intro pins s σ H R I h
 refine Call_ (fW I hg hm boot_range (DQ (thn (ha pos pins s σ H _ I h) λus s1 ⟨vs,H1,I1,r1,q1⟩ =>?_) hs rfl))
 obtain ⟨j,e,q1,q2,q⟩:=q1
 subst e
 cases r1 with
 | cons r rr =>
  cases rr
  obtain ⟨t,rfl⟩:=r
  exact call_range_1 (vt I1 (by omega) (by omega) q1 q2 (by simpa using q))
def tFor (wi:TI)(g:TG)(tb:TS):TS:=λD σ H=>wi σ H λJ H1=>∃W:Nat->Nat->St->Hp->Prop,(∃m,W 0 m σ H1)/\∀i m σ H,W i m σ H →
 (J.stop i H/\D.nx σ H)\/(J.go i H/\∃N:St->Hp->Prop,(∀σ' H',N σ' H'->∃m',m'<m/\W (i+1) m' σ' H')/\∀x H',J.yld i H x H'->g x σ H' λσ2 H2=>tb { D with nx:=N,ct:=N,bk:=D.nx } σ2 H2)
def gU (fp:List Addr)(h:Heap):List (Addr×Obj):=fp.filterMap λb=>(h.get? b).map λo=>(b,o)
theorem dG {fp:List Addr}{h:Heap}{b:Addr}{o:Obj}(hb:b∈fp)(e:h.get? b=some o):(b,o)∈gU fp h:=E5.mpr ⟨b,hb,by rw[e];rfl⟩
theorem me {fp:List Addr}{h:Heap}{p:Addr×Obj}(hp:p∈gU fp h):p.1∈fp/\h.get? p.1=some p.2:=by
 obtain ⟨b,hb,e⟩:=E5.mp hp
 cases q:h.get? b with
 | none=>rw[q] at e;cases e
 | some o =>
  rw[q] at e
  have e':(b,o)=p:=Cv e
  subst e'
  exact ⟨hb,q⟩
theorem Inv.pinned {pins:List (Addr×Obj)}{σ:St}{H:Hp}{s:BR}{fp:List Addr}(I:Inv X pins σ H s)(hf:∀b∈fp,jL X pins H b)(ho:∀b∈fp,∃o,s.heap.get? b=some o/\∀v,o.data ≠ .cell v):Inv X (pins++gU fp s.heap) σ H s :=
 I.eZ λp hp=>(B5.mp hp).elim (λz=>I.pin p (Cu _ z)) λz=>by
  obtain ⟨hb,e⟩:=me z
  obtain ⟨f0,f1,f2,_⟩:=hf p.1 hb
  obtain ⟨o,e',d⟩:=ho p.1 hb
  rw[e] at e';cases e'
  exact ⟨e,f0,f1,f2,d⟩
theorem Inv.eR {pins pl:List (Addr×Obj)}{σ:St}{H:Hp}{s:BR}(I:Inv X (pins++pl) σ H s):Inv X pins σ H s:=I.eZ λp hp=>I.pin p (Cu _ (Gs _ hp))
theorem fe {iter:Expr}{body:List Stmt}{wi:TI}{g:TG}{tb:TS}{pos:Pos}(hp:PassesOwn (Cn X.prog X.w) X.A X.env X.xe)(hc:X.calm=true)(hi:PI X tg iter wi)(hg:PG X tg g)(hb:PSs X body tb)
  (hs:∀x,foldedSetIterable iter X.env x=pure x:=by intro _;rfl):PS X (.For tg iter body [] pos) (tFor wi g tb):=by
 intro pins s σ H D I h
 refine wpAny_For (thn (hi pins s σ H _ I h) λv s1 h1=>thn h1 λitv s2 h2 =>?_) hs
 obtain ⟨it,fp,tn,J,H2,e,I2,T,st2,f2,W,⟨m0,w0⟩,turn⟩:=h2
 subst e
 have stat:∀{H':Hp},(∀b∈fp,H' b=none)->∀b∈fp,jL X pins H' b:=λhn b hb=>⟨hn b hb,(f2 b hb).2⟩
 refine codeAny_forLoop_any (λn s'=>∃i σ' H',Inv X pins σ' H' s'/\tn i s'.heap/\(∀b∈fp,H' b=none)/\W i n σ' H') ?_ m0 ⟨0,σ,H2,I2,st2,λb hb=>(f2 b hb).1,w0⟩
 rintro n s3 ⟨i,σ3,H3,I3,st3,fr3,w3⟩
 rcases turn i n σ3 H3 w3 with ⟨stop,qn⟩ | ⟨go,N,hN,step⟩
 ·refine FT hp (thn (T.done X rfl rfl rfl hc i pins s3 σ3 H3 X.xe I3 (stat fr3) st3 stop) λr s4 ⟨hr,I4⟩ =>?_)
  subst hr
  exact FQ ⟨σ3,H3,I4,qn⟩
 ·refine FT hp (thn (T.item X rfl rfl rfl hc i pins s3 σ3 H3 X.xe I3 (stat fr3) st3 go) λr s4 ⟨u,hr,h4⟩ =>?_)
  subst hr
  refine FT hp (thn h4 λ_ s5 ⟨x,H5,I5,r5,y5,st5,fr5⟩ =>?_)
  have I5':=I5.pinned (stat fr5) (T.obj _ _ st5)
  refine FT hp (thn (hg _ s5 σ3 H5 x u _ I5' r5 (step x H5 y5)) λ_ s6 ⟨σ6,H6,I6,q6⟩ =>?_)
  refine FT hp (thn (hb _ s6 σ6 H6 _ I6 q6) λf s7 q7 =>?_)
  have again:∀{σ7:St} {H7:Hp},Inv X (pins++gU fp s5.heap) σ7 H7 s7->N σ7 H7->∃m,m<n/\∃i σ' H',Inv X pins σ' H' s7/\tn i s7.heap/\(∀b∈fp,H' b=none)/\W i m σ' H':=λ{σ7 H7} I7 n7=>by
   obtain ⟨m',hm,w7⟩:=hN σ7 H7 n7
   refine ⟨m',hm,i+1,σ7,H7,I7.eR,T.keep _ _ _ st5 λb hb o e=>(I7.pin (b,o) (Cu _ (Cu _ (dG hb e)))).1,λb hb =>?_,w7⟩
   obtain ⟨o,e,d⟩:=T.obj _ _ st5 b hb
   exact (I7.pin (b,o) (Cu _ (Cu _ (dG hb e)))).2.1
  cases f with
  | next=>obtain ⟨σ7,H7,I7,n7⟩:=q7;exact again I7 n7
  | cont=>obtain ⟨σ7,H7,I7,n7⟩:=q7;exact again I7 n7
  | brk=>obtain ⟨σ7,H7,I7,q7⟩:=q7;exact ⟨σ7,H7,I7.eR,q7⟩
  | ret v=>obtain ⟨x7,σ7,H7,I7,r7,q7⟩:=q7;exact ⟨x7,σ7,H7,I7.eR,r7,q7⟩
end
theorem vv {K:BM}{a:Addr}{xs:List V}{g:TG}{tb:TS}{D:Ends}{σ:St}{H:Hp}(Pv:Nat->St->Hp->Prop)(h0:Pv 0 σ H)(hl:∀i σ H,i<=xs.length->Pv i σ H->SqL K H a xs)
  (hs:∀i x σ H,xs[i]? = some x->Pv i σ H->g x σ H λσ2 H2=>tb { D with nx:=Pv (i+1),ct:=Pv (i+1),bk:=D.nx } σ2 H2) (hd:∀σ H,Pv xs.length σ H->D.nx σ H) :
  ∃W:Nat->Nat->St->Hp->Prop,(∃m,W 0 m σ H)/\∀i m σ H,W i m σ H →
   ((Itl K a).stop i H/\D.nx σ H)\/((Itl K a).go i H/\∃N:St->Hp->Prop,(∀σ' H',N σ' H'->∃m',m'<m/\W (i+1) m' σ' H')/\∀x H',(Itl K a).yld i H x H'->g x σ H' λσ2 H2=>tb { D with nx:=N,ct:=N,bk:=D.nx } σ2 H2):=by
 refine ⟨λi m σ H=>m=xs.length-i/\i<=xs.length/\Pv i σ H,⟨xs.length,by simp,CC _,h0⟩,?_⟩
 rintro i m σ H ⟨rfl,hi,p⟩
 have q:=hl i σ H hi p
 by_cases hlt:i<xs.length
 ·refine .inr ⟨⟨xs,xs[i],q,by simp[hlt]⟩,Pv (i+1),λσ' H' p'=>⟨xs.length-(i+1),by omega,rfl,hlt,p'⟩,λx H' y =>?_⟩
  obtain ⟨e,y⟩:=y
  subst e
  exact hs i x σ _ (y xs q) p
 ·have e:i=xs.length:=by omega
  subst e
  exact .inl ⟨⟨xs,q,BV _⟩,hd σ H p⟩
theorem sh {K:BM}{a:Addr}{xs:List V}{g:TG}{tb:TS}{D:Ends}{σ:St}{H:Hp}(Pv:Nat->St->Hp->Prop)(h0:Pv 0 σ H)(hl:∀i σ H,i<=xs.length->Pv i σ H->SqT K H a xs)
  (hs:∀i x σ H,xs[i]? = some x->Pv i σ H->g x σ H λσ2 H2=>tb { D with nx:=Pv (i+1),ct:=Pv (i+1),bk:=D.nx } σ2 H2) (hd:∀σ H,Pv xs.length σ H->D.nx σ H) :
  ∃W:Nat->Nat->St->Hp->Prop,(∃m,W 0 m σ H)/\∀i m σ H,W i m σ H →
   ((Itt K a).stop i H/\D.nx σ H)\/((Itt K a).go i H/\∃N:St->Hp->Prop,(∀σ' H',N σ' H'->∃m',m'<m/\W (i+1) m' σ' H')/\∀x H',(Itt K a).yld i H x H'->g x σ H' λσ2 H2=>tb { D with nx:=N,ct:=N,bk:=D.nx } σ2 H2):=by
 refine ⟨λi m σ H=>m=xs.length-i/\i<=xs.length/\Pv i σ H,⟨xs.length,by simp,CC _,h0⟩,?_⟩
 rintro i m σ H ⟨rfl,hi,p⟩
 have q:=hl i σ H hi p
 by_cases hlt:i<xs.length
 ·refine .inr ⟨⟨xs,xs[i],q,by simp[hlt]⟩,Pv (i+1),λσ' H' p'=>⟨xs.length-(i+1),by omega,rfl,hlt,p'⟩,λx H' y =>?_⟩
  obtain ⟨e,y⟩:=y
  subst e
  exact hs i x σ _ (y xs q) p
 ·have e:i=xs.length:=by omega
  subst e
  exact .inl ⟨⟨xs,q,BV _⟩,hd σ H p⟩
theorem iS {lo:Int}{n:Nat}{g:TG}{tb:TS}{D:Ends}{σ:St}{H:Hp}(Pv:Nat->St->Hp->Prop)(h0:Pv 0 σ H)
  (hs:∀i σ H,i<n->Pv i σ H->g (.int (lo+i)) σ H λσ2 H2=>tb { D with nx:=Pv (i+1),ct:=Pv (i+1),bk:=D.nx } σ2 H2) (hd:∀σ H,Pv n σ H->D.nx σ H) :
  ∃W:Nat->Nat->St->Hp->Prop,(∃m,W 0 m σ H)/\∀i m σ H,W i m σ H →
   ((Itr lo n).stop i H/\D.nx σ H)\/((Itr lo n).go i H/\∃N:St->Hp->Prop,(∀σ' H',N σ' H'->∃m',m'<m/\W (i+1) m' σ' H')/\∀x H',(Itr lo n).yld i H x H'->g x σ H' λσ2 H2=>tb { D with nx:=N,ct:=N,bk:=D.nx } σ2 H2):=by
 refine ⟨λi m σ H=>m=n-i/\i<=n/\Pv i σ H,⟨n,by simp,CC _,h0⟩,?_⟩
 rintro i m σ H ⟨rfl,hi,p⟩
 by_cases hlt:i<n
 ·refine .inr ⟨hlt,Pv (i+1),λσ' H' p'=>⟨n-(i+1),by omega,rfl,hlt,p'⟩,λx H' y =>?_⟩
  obtain ⟨e,y⟩:=y
  subst e y
  exact hs i σ _ hlt p
 ·have e:i=n:=by omega
  subst e
  exact .inl ⟨BV _,hd σ H p⟩
open PySem PySem.Spec PyProof.Rows
abbrev R2:=V->V->Hp->VK->Prop
def OpR (X:Cx)(f:BP->BP->Sem BP)(r:R2):Prop :=
 ∀(pins:List (Addr×Obj)) (s:BR) (σ:St) (H:Hp) (x y:V) (v u:BP) (Q:VK),Inv X pins σ H s->RelV x v->RelV y u->r x y H Q →
  Cb (Cn X.prog X.w) X.A (f v u) (EP X pins σ Q) X.xe s
def UnR (X:Cx)(f:BP->Sem BP)(r:V->Hp->VK->Prop):Prop :=
 ∀(pins:List (Addr×Obj)) (s:BR) (σ:St) (H:Hp) (x:V) (v:BP) (Q:VK),Inv X pins σ H s->RelV x v->r x H Q →
  Cb (Cn X.prog X.w) X.A (f v) (EP X pins σ Q) X.xe s
def cM (X:Cx)(f:BP)(r:List V->Hp->VK->Prop):Prop :=
 ∀(pins:List (Addr×Obj)) (s:BR) (σ:St) (H:Hp) (xs:List V) (us:List BP) (Q:VK),Inv X pins σ H s->Vals xs us->r xs H Q →
  Cb (Cn X.prog X.w) X.A (call f us) (EP X pins σ Q) X.xe s
def tOp (r:R2)(ta tb:TE):TE:=λσ H Q=>ta σ H λx H1=>tb σ H1 λy H2=>r x y H2 Q
def tUn (r:V->Hp->VK->Prop)(ta:TE):TE:=λσ H Q=>ta σ H λx H1=>r x H1 Q
def rI (C:Int->Int->Prop)(g:Int->Int->V):R2:=λx y H Q=>∃i j,x = .int i/\y = .int j/\C i j/\Q (g i j) H
def rI0 (g:Int->Int->V):R2:=λx y H Q=>∃i j,x = .int i/\y = .int j/\Q (g i j) H
def rU (g:Int->V):V->Hp->VK->Prop:=λx H Q=>∃i,x = .int i/\Q (g i) H
section
variable  {X:Cx}{a b c:Expr}{ta tb tc:TE}{pos:Pos}
theorem zI (ha:PE X a ta)(hb:PE X b tb){pins:List (Addr×Obj)}{s:BR}{σ:St}{H:Hp}{R:V->V->Hp->Prop}(I:Inv X pins σ H s)
  (h:ta σ H λx H1=>tb σ H1 λy H2=>R x y H2) {Q:BP->BR->Prop} {f:BP->BP->Sem BP}
  (hf:∀v u s2 x y H2,Inv X pins σ H2 s2->RelV x v->RelV y u->R x y H2->Cb (Cn X.prog X.w) X.A (f v u) Q X.xe s2) :
  Cb (Cn X.prog X.w) X.A (eval a X.env) (λv s₁=>Cb (Cn X.prog X.w) X.A (eval b X.env) (λu s₂=>Cb (Cn X.prog X.w) X.A (f v u) Q X.xe s₂) X.xe s₁) X.xe s:=by
 refine thn (ha pins s σ H _ I h) λv s1 ⟨x,H1,I1,r1,q1⟩ =>?_
 refine thn (hb pins s1 σ H1 _ I1 q1) λu s2 ⟨y,H2,I2,r2,q2⟩ =>?_
 exact hf v u s2 x y H2 I2 r1 r2 q2
theorem bC {op:Operator}{r:R2}(ho:OpR X (binaryOp op) r)(ha:PE X a ta)(hb:PE X b tb):PE X (.BinOp a op b pos) (tOp r ta tb):=by
 intro pins s σ H Q I h
 exact wpAny_BinOp (zI ha hb I h λv u s2 x y H2 I2 rx ry q=>ho pins s2 σ H2 x y v u Q I2 rx ry q)
theorem ze {op:UnaryOp}{r:V->Hp->VK->Prop}(ho:UnR X (unaryOp op) r)(ha:PE X a ta):PE X (.UnaryOp op a pos) (tUn r ta):=by
 intro pins s σ H Q I h
 exact UnaryOp_ (thn (ha pins s σ H _ I h) λv s1 ⟨x,H1,I1,r1,q1⟩=>ho pins s1 σ H1 x v Q I1 r1 q1)
theorem opI {f:BP->BP->Sem BP}{C:Int->Int->Prop}{g:Int->Int->Int}
  (rule:∀(i j:Int) (t u:Tok) (s:BR) (Q:BP->BR->Prop) (E:BP->BR->Prop),C i j->Q (.int (g i j) s.toks) { s with toks:=s.toks+1 }->Cb (Cn X.prog X.w) X.A (f (.int i t) (.int j u)) Q E s) :
  OpR X f (rI C λi j =>.int (g i j)):=by
 intro pins s σ H x y v u Q I rx ry h
 obtain ⟨i,j,rfl,rfl,hc,q⟩:=h
 obtain ⟨t,rfl⟩:=rx
 obtain ⟨t',rfl⟩:=ry
 exact rule i j t t' s _ _ hc ⟨.int (g i j),H,I.tok _,⟨_,rfl⟩,q⟩
theorem A4 {f:BP->BP->Sem BP}{g:Int->Int->Int}
  (rule:∀(i j:Int) (t u:Tok) (s:BR) (Q:BP->BR->Prop) (E:BP->BR->Prop),Q (.int (g i j) s.toks) { s with toks:=s.toks+1 }->Cb (Cn X.prog X.w) X.A (f (.int i t) (.int j u)) Q E s) :
  OpR X f (rI0 λi j =>.int (g i j)):=by
 intro pins s σ H x y v u Q I rx ry h
 obtain ⟨i,j,rfl,rfl,q⟩:=h
 obtain ⟨t,rfl⟩:=rx
 obtain ⟨t',rfl⟩:=ry
 exact rule i j t t' s _ _ ⟨.int (g i j),H,I.tok _,⟨_,rfl⟩,q⟩
theorem xG {f:BP->BP->Sem BP}{g:Int->Int->Bool}
  (rule:∀(i j:Int) (t u:Tok) (s:BR) (Q:BP->BR->Prop) (E:BP->BR->Prop),Q (.bool (g i j)) s->Cb (Cn X.prog X.w) X.A (f (.int i t) (.int j u)) Q E s) :
  OpR X f (rI0 λi j =>.bl (g i j)):=by
 intro pins s σ H x y v u Q I rx ry h
 obtain ⟨i,j,rfl,rfl,q⟩:=h
 obtain ⟨t,rfl⟩:=rx
 obtain ⟨t',rfl⟩:=ry
 exact rule i j t t' s _ _ ⟨.bl (g i j),H,I,rfl,q⟩
def CDiv (i j:Int):Prop:=0<j/\j<1073741824
def CPow (i j:Int):Prop:=0<=j/\j<=1000000/\i.natAbs<2 ^ 64
def zJ (i j:Int):Prop:=(-(2 ^ 64)<i/\i<2 ^ 64)\/(-(2 ^ 64)<j/\j<2 ^ 64)
theorem zJ.ok {i j:Int}(h:zJ i j):IntMulOk i j:=by
 rcases h with ⟨h1,h2⟩ | ⟨h1,h2⟩
 ·exact .of_left (intBits_le_64 h1 h2)
 ·exact .of_right (intBits_le_64 h1 h2)
theorem eB:OpR X (binaryOp .Add) (rI0 λi j =>.int (i+j)):=A4 λ_ _ _ _ _ _ _ q=>add_int q
theorem vw:OpR X (binaryOp .Sub) (rI0 λi j =>.int (i-j)):=A4 λ_ _ _ _ _ _ _ q=>sub_int q
theorem kC:OpR X (binaryOp .Mult) (rI zJ λi j =>.int (i*j)):=opI λ_ _ _ _ _ _ _ hc q=>mul_int q hc.ok
theorem nM:OpR X (binaryOp .FloorDiv) (rI CDiv λi j =>.int (i/j)):=opI λi j _ _ _ _ _ hc q=>by
 have h1:(0:Int)<j:=hc.1
 have h2:j<1073741824:=hc.2
 exact floordiv_int (by omega) (by rw[GV i (by omega)];exact q) (.inl (PyProof.noPylong_small (by omega)))
theorem iT:OpR X (binaryOp .Mod) (rI (λ_ j=>0<j) λi j =>.int (i%j)):=opI λi j _ _ _ _ _ hc q=>by
 have h1:(0:Int)<j:=hc
 exact mod_int' (by omega) (by rw[Int.fmod_eq_emod_of_nonneg i (by omega)];exact q)
theorem qG:OpR X (binaryOp .Pow) (rI CPow λi j =>.int (i ^ j.toNat)):=opI λ_ _ _ _ _ _ _ hc q=>pow_int_small hc.1 hc.2.1 hc.2.2 q
theorem unI {f:BP->Sem BP}{g:Int->Int}
  (rule:∀(i:Int) (t:Tok) (s:BR) (Q:BP->BR->Prop) (E:BP->BR->Prop),Q (.int (g i) s.toks) { s with toks:=s.toks+1 }->Cb (Cn X.prog X.w) X.A (f (.int i t)) Q E s) :
  UnR X f (rU λi =>.int (g i)):=by
 intro pins s σ H x v Q I rx h
 obtain ⟨i,rfl,q⟩:=h
 obtain ⟨t,rfl⟩:=rx
 exact rule i t s _ _ ⟨.int (g i),H,I.tok _,⟨_,rfl⟩,q⟩
theorem vx:UnR X (unaryOp .USub) (rU λi =>.int (-i)):=unI λ_ _ _ _ _ q=>neg_int q
end
def A5:V->V->Bool
 | .non,.non=>true | .non,.int _=>true | .int _,.non=>true | .non,.bl _=>true | .bl _,.non=>true | .non,.str _=>true | .str _,.non=>true
 | .int _,.int _=>true | .bl _,.bl _=>true | .str _,.str _=>true | .byt _,.byt _=>true
 | .int _,.str _=>true | .str _,.int _=>true | .bl _,.str _=>true | .str _,.bl _=>true
 | _,_=>false
def rEq:R2:=λx y H Q=>A5 x y=true/\Q (.bl (decide (x=y))) H
def rNe:R2:=λx y H Q=>A5 x y=true/\Q (.bl (!decide (x=y))) H
theorem si {i j:Int}:decide (V.int i=V.int j)=(i == j):=by
 rw[Dx]
 simp
theorem vy {i j:Bool}:decide (V.bl i=V.bl j)=(i == j):=by
 rw[Dx]
 simp
theorem sk {i j:Str}:decide (V.str i=V.str j)=(i == j):=by
 rw[Dx]
 simp
theorem sq {i j:Array UInt8}:decide (V.byt i=V.byt j)=(i.toList == j.toList):=by
 rw[Dx]
 cases i
 cases j
 simp
section
variable  {X:Cx}{a b c:Expr}{ta tb tc:TE}{pos:Pos}
theorem bj {pins:List (Addr×Obj)}{σ:St}{H:Hp}{s:BR}{Q:VK}{k k':Bool}(I:Inv X pins σ H s)(q:Q (.bl k) H)(e:k=k'):EP X pins σ Q (.bool k') s:=by
 subst e
 exact ⟨.bl k,H,I,rfl,q⟩
theorem bp:OpR X (DZ .Eq) rEq:=by
 intro pins s σ H x y v u Q I rx ry h
 obtain ⟨hs,q⟩:=h
 cases x with
 | non =>
  cases rx
  cases y with
  | non=>cases ry;exact PySem.EqNone.eq_none_none (bj I q (by simp))
  | bl j=>cases ry;exact PySem.EqNone.eq_none_bool (bj I q (by simp))
  | int j=>obtain ⟨t',rfl⟩:=ry;exact PySem.EqNone.eq_none_int (bj I q (by simp))
  | str j=>obtain ⟨t',rfl⟩:=ry;exact PySem.EqNone.eq_none_str (bj I q (by simp))
  | _=>exact absurd (show false=true from hs) B2
 | bl i =>
  cases rx
  cases y with
  | non=>cases ry;exact PySem.EqNone.eq_bool_none (bj I q (by simp))
  | bl j=>cases ry;exact eq_bool (bj I q vy)
  | str j=>obtain ⟨t',rfl⟩:=ry;exact JU (bj I q (by simp))
  | _=>exact absurd (show false=true from hs) B2
 | int i =>
  obtain ⟨t,rfl⟩:=rx
  cases y with
  | non=>cases ry;exact PySem.EqNone.eq_int_none (bj I q (by simp))
  | int j=>obtain ⟨t',rfl⟩:=ry;exact eq_int (bj I q si)
  | str j=>obtain ⟨t',rfl⟩:=ry;exact Ke (bj I q (by simp))
  | _=>exact absurd (show false=true from hs) B2
 | str i =>
  obtain ⟨t,rfl⟩:=rx
  cases y with
  | non=>cases ry;exact PySem.EqNone.eq_str_none (bj I q (by simp))
  | bl j=>cases ry;exact JV (bj I q (by simp))
  | int j=>obtain ⟨t',rfl⟩:=ry;exact Kf (bj I q (by simp))
  | str j=>obtain ⟨t',rfl⟩:=ry;exact eq_str (bj I q sk)
  | _=>exact absurd (show false=true from hs) B2
 | byt i =>
  obtain ⟨t,rfl⟩:=rx
  cases y with
  | byt j=>obtain ⟨t',rfl⟩:=ry;exact PySem.W.eq_bytes (bj I q sq)
  | _=>exact absurd (show false=true from hs) B2
 | _=>cases y <;> exact absurd (show false=true from hs) B2
theorem mf:OpR X (DZ .NotEq) rNe:=by
 intro pins s σ H x y v u Q I rx ry h
 obtain ⟨hs,q⟩:=h
 cases x with
 | non =>
  cases rx
  cases y with
  | non=>cases ry;exact PySem.EqNone.ne_none_none (bj I q (by simp))
  | bl j=>cases ry;exact PySem.EqNone.ne_none_bool (bj I q (by simp))
  | int j=>obtain ⟨t',rfl⟩:=ry;exact PySem.EqNone.ne_none_int (bj I q (by simp))
  | str j=>obtain ⟨t',rfl⟩:=ry;exact PySem.EqNone.ne_none_str (bj I q (by simp))
  | _=>exact absurd (show false=true from hs) B2
 | bl i =>
  cases rx
  cases y with
  | non=>cases ry;exact PySem.EqNone.ne_bool_none (bj I q (by simp))
  | bl j=>cases ry;exact ne_bool (bj I q (congrArg not vy))
  | str j=>obtain ⟨t',rfl⟩:=ry;exact JW (bj I q (by simp))
  | _=>exact absurd (show false=true from hs) B2
 | int i =>
  obtain ⟨t,rfl⟩:=rx
  cases y with
  | non=>cases ry;exact PySem.EqNone.ne_int_none (bj I q (by simp))
  | int j=>obtain ⟨t',rfl⟩:=ry;exact ne_int (bj I q (congrArg not si))
  | str j=>obtain ⟨t',rfl⟩:=ry;exact Kg (bj I q (by simp))
  | _=>exact absurd (show false=true from hs) B2
 | str i =>
  obtain ⟨t,rfl⟩:=rx
  cases y with
  | non=>cases ry;exact PySem.EqNone.ne_str_none (bj I q (by simp))
  | bl j=>cases ry;exact JX (bj I q (by simp))
  | int j=>obtain ⟨t',rfl⟩:=ry;exact Kh (bj I q (by simp))
  | str j=>obtain ⟨t',rfl⟩:=ry;exact ne_str (bj I q (congrArg not sk))
  | _=>exact absurd (show false=true from hs) B2
 | byt i =>
  obtain ⟨t,rfl⟩:=rx
  cases y with
  | byt j=>obtain ⟨t',rfl⟩:=ry;exact PySem.W.ne_bytes (bj I q (congrArg not sq))
  | _=>exact absurd (show false=true from hs) B2
 | _=>cases y <;> exact absurd (show false=true from hs) B2
theorem vz:OpR X (DZ .Lt) (rI0 λi j =>.bl (decide (i<j))):=xG λ_ _ _ _ _ _ _ q=>lt_int q
theorem A6:OpR X (DZ .LtE) (rI0 λi j =>.bl (decide (i<=j))):=xG λ_ _ _ _ _ _ _ q=>le_int q
theorem sr:OpR X (DZ .Gt) (rI0 λi j =>.bl (decide (j<i))):=xG λ_ _ _ _ _ _ _ q=>gt_int q
theorem A7:OpR X (DZ .GtE) (rI0 λi j =>.bl (decide (j<=i))):=xG λ_ _ _ _ _ _ _ q=>ge_int q
theorem xH:OpR X (DZ .IsNot) (λx y H Q=>y = .non/\Q (.bl (!decide (x = .non))) H):=by
 intro pins s σ H x y v u Q I rx ry h
 obtain ⟨rfl,q⟩:=h
 cases ry
 refine isnot_none_gen (bj I q ?_)
 cases x <;> first
  | (cases rx;rfl)
  | (obtain ⟨t,rfl⟩:=rx;rfl)
theorem aH (b:Expr){op:CmpOp}(h:op ≠ .In:=by decide)(h2:op ≠ .NotIn:=by decide):behindInMarks op b=false:=by
 have e1:(op == CmpOp.In)=false:=by cases op <;> first | rfl | exact absurd rfl h
 have e2:(op == CmpOp.NotIn)=false:=by cases op <;> first | rfl | exact absurd rfl h2
 cases b <;> simp[behindInMarks,e1,e2]
theorem bD {op:CmpOp}{r:R2}(ho:OpR X (DZ op) r)(ha:PE X a ta)(hb:PE X b tb)(hm:behindInMarks op b=false):PE X (.Compare a [op] [b] pos) (tOp r ta tb):=by
 intro pins s σ H Q I h
 exact wpAny_Compare1 (zI ha hb I h λv u s2 x y H2 I2 rx ry q=>ho pins s2 σ H2 x y v u Q I2 rx ry q) hm
def A8 (t:TE):TT:=λσ H Q=>t σ H λx H'=>∃k,x = .bl k/\Q k H'
theorem aJ {op:CmpOp}{r:R2}(ho:OpR X (DZ op) r)(ha:PE X a ta)(hb:PE X b tb)(hm:behindInMarks op b=false):PT X (.Compare a [op] [b] pos) (A8 (tOp r ta tb)):=by
 intro pins s σ H Q I h
 refine Ik (thn (ha pins s σ H _ I h) λv s1 ⟨x,H1,I1,r1,q1⟩=>thn (hb pins s1 σ H1 _ I1 q1) λu s2 ⟨y,H2,I2,r2,q2⟩ =>
  thn (ho pins s2 σ H2 x y v u _ I2 r1 r2 q2) λc s3 ⟨z,H3,I3,r3,k,e,q3⟩ =>?_) hm
 subst e
 cases r3
 exact DC ⟨H3,I3,q3⟩
theorem nN:(Ca:Nat)<2 ^ 63:=by rw[IL];decide
theorem vals1 {x:V}{us:List BP}(r:Vals [x] us):∃u,us=[u]/\RelV x u:=by
 cases r with
 | cons r1 r2=>cases r2;exact ⟨_,rfl,r1⟩
theorem vals2 {x y:V}{us:List BP}(r:Vals [x,y] us):∃u w',us=[u,w']/\RelV x u/\RelV y w':=by
 cases r with
 | cons r1 r2 =>
  cases r2 with
  | cons r3 r4=>cases r4;exact ⟨_,_,rfl,r1,r3⟩
theorem mh (hc:X.calm=true):cM X (.builtin "max") (λxs H Q=>∃i j,xs=[.int i,.int j]/\Q (.int (if j>i then j else i)) H):=by
 intro pins s σ H xs us Q I r h
 obtain ⟨i,j,rfl,q⟩:=h
 obtain ⟨u,w',rfl,⟨t,rfl⟩,⟨t',rfl⟩⟩:=vals2 r
 refine max_two_ints (I.ok.hd hc) λh' tk k=>⟨_,H,I.kept k,?_,q⟩
 by_cases hj:j>i
 ·rw[if_pos hj,if_pos hj];exact ⟨_,rfl⟩
 ·rw[if_neg hj,if_neg hj];exact ⟨_,rfl⟩
theorem iU (hc:X.calm=true):cM X (.builtin "min") (λxs H Q=>∃i j,xs=[.int i,.int j]/\Q (.int (if j<i then j else i)) H):=by
 intro pins s σ H xs us Q I r h
 obtain ⟨i,j,rfl,q⟩:=h
 obtain ⟨u,w',rfl,⟨t,rfl⟩,⟨t',rfl⟩⟩:=vals2 r
 refine min_two_ints (I.ok.hd hc) λh' tk k=>⟨_,H,I.kept k,?_,q⟩
 by_cases hj:j<i
 ·rw[if_pos hj,if_pos hj];exact ⟨_,rfl⟩
 ·rw[if_neg hj,if_neg hj];exact ⟨_,rfl⟩
theorem mi:cM X (.type "int") (λxs H Q=>(∃i,xs=[.int i]/\Q (.int i) H)\/∃k,xs=[.bl k]/\Q (.int (if k then 1 else 0)) H):=by
 intro pins s σ H xs us Q I r h
 rcases h with ⟨i,rfl,q⟩ | ⟨k,rfl,q⟩
 ·obtain ⟨u,rfl,t,rfl⟩:=vals1 r
  exact call_int_int ⟨.int i,H,I,⟨_,rfl⟩,q⟩
 ·obtain ⟨u,rfl,r1⟩:=vals1 r
  cases r1
  exact call_int_bool ⟨.int (if k then 1 else 0),H,I.tok _,⟨_,rfl⟩,q⟩
end
open PySem PySem.Spec PyProof.Rows
structure zK (h:Heap)(x dx C:Addr)(mA:Str->Option BP):Prop where
 obj:h.get? x=some (PySem.W.instObj C dx)
 ns:h.Ns1 dx mA
 ne:dx≠x
theorem t6 {h:Heap}{dx:Addr}{mA:Str->Option BP}(n:h.Ns1 dx mA):∃od,h.get? dx=some od/\∀name,PySem.W.lookIn name od=some (mA name):=by
 obtain ⟨o,es,ep,ho,hd,hk,_,hm⟩:=n
 refine ⟨o,ho,λname =>?_⟩
 have e:=hm name
 unfold nsFind findBy at e
 rw[<- Array.find?_toList] at e
 unfold PySem.W.lookIn
 rw[hd]
 dsimp only
 split
 ·rename_i y q
  rw[q] at e
  exact congrArg some e
 ·rename_i q
  rw[q] at e
  have a:es.toList.any (·.refKey)=false:=by
   rw[Je]
   intro y hy
   obtain ⟨z,t,hkey⟩:=hk y (Array.mem_toList_iff.mp hy)
   simp[DictEntry.refKey,hkey]
  have a':¬ es.toList.any (·.refKey)=true:=by rw[a];exact B2
  rw[if_neg a']
  exact congrArg some e
theorem zK.look {h:Heap}{x dx C:Addr}{mA:Str->Option BP}(I:zK h x dx C mA):∃od,PySem.W.InstAt h x (PySem.W.instObj C dx) C (some od)/\∀name,PySem.W.lookIn name od=some (mA name) :=
 let ⟨od,ho,hl⟩:=t6 I.ns
 ⟨od,⟨I.obj,rfl,rfl,ho⟩,hl⟩
section
variable  {prog:B7}{w:CJ}{A:CK}{E:BP->BR->Prop}{s:BR}{K:BM}{x dx C f:Addr}{mA:Str->Option BP}{name:Str}{v:BP}
end
theorem gT.some_of {v:V}{o:Option BP}(r:gT (some v) o):∃u,o=some u/\RelV v u:=by
 cases o with
 | none=>exact (show False from r).elim
 | some u=>exact ⟨u,rfl,r⟩
theorem t9 {v:V}{u:BP}(r:RelV v u):PySem.W.handedIn u=true:=by
 cases v with
 | non=>cases (show u=Ee from r);rfl
 | bl b=>cases (show u=Value.bool b from r);rfl
 | int i=>obtain ⟨t,e⟩:=(show ∃t,u=EN i t from r);cases e;rfl
 | str x=>obtain ⟨t,e⟩:=(show ∃t,u=Value.str x t from r);cases e;rfl
 | byt b=>obtain ⟨t,e⟩:=(show ∃t,u=Value.bytes b t from r);cases e;rfl
 | flt b=>obtain ⟨t,e⟩:=(show ∃t,u=Value.float b t from r);cases e;rfl
 | ref a=>cases (show u=Cc a from r);rfl
 | ty n=>cases (show u=Fn n from r);rfl
section
variable  {P:B7}{w:CJ}{H H':Hp}{h h':Heap}{a C dx:Addr}{fs fs':List (Str×V)}
theorem xI (hok:HOk P w H h)(e:H a=some (.ins C dx fs)):∃mA,zK h a dx C mA/\(∀f,gT (fs.lookup f) (mA f))/\PySem.Within mA (fs.map (·.1))/\fs.length<=1000/\H dx=some (.own a):=by
 obtain ⟨d,z,ne,ob,mA,n,r,q⟩:=(show bo P w H h a (.ins C dx fs) from hok a _ e)
 exact ⟨mA,⟨ob,n,ne⟩,r,q,z,d⟩
end
structure Cls (K:BM)(C:Addr):Prop where
 pg:PySem.W.plainGet K C Str.empty=true
 hd:PySem.W.hasDictIn K C=true
 po:PySem.W.plainOver K C=true
 sa:PySem.W.findIn K (.ref C) "__setattr__" = some (some (.builtin "object.__setattr__"))
theorem Cls.get {K:BM}{C:Addr}(c:Cls K C)(f:Str):PySem.W.plainGet K C f=true:=c.pg
section
variable  {X:Cx}{pins:List (Addr×Obj)}{σ:St}{H:Hp}{s:BR}{a C dx:Addr}{fs:List (Str×V)}{f:Str}{v:V}{A:CK}{E:BP->BR->Prop}
theorem xJ {prog:B7}{w:CJ}{env:Env}{e:Expr}{f:Str}{pos:Pos}{s:BR}{Q:BP->BR->Prop}(hb:attributeBase e f env (eval e env)=eval e env)
  (h:Cb (Cn prog w) A (eval e env) (λo s₁=>Cb (Cn prog w) A (getAttr o f true) Q E s₁) E s):Cb (Cn prog w) A (eval (.Attribute e f pos) env) Q E s :=
 Attribute_any_ h (by rw[arm_eval_Attribute,hb])
end
section
variable  {X:Cx}{o e value:Expr}{f:Str}{pos pos' tpos:Pos}{ta tv:TE}
end
section
variable  {X:Cx}{pins:List (Addr×Obj)}{σ:St}{H:Hp}{s:BR}{A:CK}{E:BP->BR->Prop}{Q:BP->BR->Prop}{c:BP}{b:Bool}
inductive jM (K:BM)(H:Hp):V->BP->Prop where
 | non:jM K H .non (.type "NoneType")
 | bl (x:Bool):jM K H (.bl x) (.type "bool")
 | int (i:Int):jM K H (.int i) (.type "int")
 | str (x:Str):jM K H (.str x) (.type "str")
 | flt (x:UInt64):jM K H (.flt x) (.type "float")
 | lst {a:Addr} {xs:List V} (e:H a=some (.lst xs)):jM K H (.ref a) (.type "list")
 | frz {a:Addr} {o:Obj} {xs:List V} (e:H a=some (.frz o (.lst xs))):jM K H (.ref a) (.type "list")
 | tup {a:Addr} {xs:List V} (e:H a=some (.tup xs)):jM K H (.ref a) (.type "tuple")
 | dK {a:Addr} {kvs:List (Key×V)} (e:H a=some (.dK kvs)):jM K H (.ref a) (.type "dict")
 | dT {a:Addr} {kvs:List (List Key×V)} (e:H a=some (.dT kvs)):jM K H (.ref a) (.type "dict")
 | ins {a C dx:Addr} {fs:List (Str×V)} (e:H a=some (.ins C dx fs)) (cl:Cls K C) (ha:PySem.W.findIn K (.ref C) "__class__" = some (some (.builtin "object.__class__")))
   (hn:PySem.W.specialIn K (.builtin "object.__class__") "__get__" = some (some (.builtin "getset_descriptor.__get__"))) (htk:PySem.W.takesIn K (.builtin "object.__class__")=some true)
   (hm:PySem.W.mroIn K C (.type "object")=some true):jM K H (.ref a) (.ref C)
theorem mj {x:V}{u t:BP}(I:Inv X pins σ H s)(rx:RelV x u)(ty:jM X.K H x t)(e:PySem.W.kitOne X.K t c=some b)(h:∀tk,Q (.bool b) { s with toks:=tk }) :
  Cb (Cn X.prog X.w) A (call (.builtin "isinstance") [u,c]) Q E s:=by
 cases ty with
 | non=>cases (show u=Ee from rx);exact Dq PySem.W.kitx_none I.kIn True.intro e (λz=>nomatch z) h
 | bl y=>cases (show u=Value.bool y from rx);exact Dq PySem.W.kitx_bool I.kIn True.intro e (λz=>nomatch z) h
 | int i=>obtain ⟨t,q⟩:=(show ∃t,u=EN i t from rx);cases q;exact Dq Jv I.kIn True.intro e (λz=>nomatch z) h
 | str y=>obtain ⟨t,q⟩:=(show ∃t,u=Value.str y t from rx);cases q;exact Dq Jw I.kIn True.intro e (λz=>nomatch z) h
 | flt y=>obtain ⟨t,q⟩:=(show ∃t,u=Value.float y t from rx);cases q;exact Dq PySem.W.kitx_float I.kIn True.intro e (λz=>nomatch z) h
 | @lst a xs ea =>
  cases (show u=Cc a from rx)
  obtain ⟨_,_,n,_,h1⟩:=(show bo X.prog X.w H s.heap a (.lst xs) from I.hok a _ ea)
  exact Dq F0 I.kIn ⟨_,h1,rfl⟩ e (λz=>nomatch z) h
 | @frz a ob xs ea =>
  cases (show u=Cc a from rx)
  obtain ⟨_,_,_,n,_,h1⟩:=(show bo X.prog X.w H s.heap a (.frz ob (.lst xs)) from I.hok a _ ea)
  exact Dq F0 I.kIn ⟨_,h1,rfl⟩ e (λz=>nomatch z) h
 | @tup a xs ea =>
  cases (show u=Cc a from rx)
  obtain ⟨_,_,_,p⟩:=(show bo X.prog X.w H s.heap a (.tup xs) from I.hok a _ ea)
  obtain ⟨o,h1,h2,_⟩:=p
  exact Dq Hc I.kIn ⟨o,h1,h2.1⟩ e (λz=>nomatch z) h
 | @dK a kvs ea =>
  cases (show u=Cc a from rx)
  obtain ⟨_,_,vs,_,p⟩:=(show bo X.prog X.w H s.heap a (.dK kvs) from I.hok a _ ea)
  obtain ⟨o,es,ep,h1,h2,_⟩:=p
  exact Dq Jf I.kIn ⟨o,h1,h2.1⟩ e (λz=>nomatch z) h
 | @dT a kvs ea =>
  cases (show u=Cc a from rx)
  obtain ⟨_,_,xs,_,o,es,ep,h1,h2,_⟩:=(show bo X.prog X.w H s.heap a (.dT kvs) from I.hok a _ ea)
  exact Dq Jf I.kIn ⟨o,h1,h2.1⟩ e (λz=>nomatch z) h
 | @ins a C dx fs ea cl ha hn htk hm =>
  cases (show u=Cc a from rx)
  obtain ⟨mA,O,_⟩:=xI I.hok ea
  obtain ⟨od,J,_⟩:=O.look
  exact Dq (PySem.W.kitx_own (cl.get _) cl.hd ha hn htk hm) I.kIn J e (λz=>nomatch z) h
end
open PySem PySem.Spec PyProof.Rows
structure bX (k:Nat)(A:CK):Prop where
 hd:A.handled=none
 dp:A.depth+3*k+5<recursionLimit
 un:A.units+16*k+200<cLine
theorem bX.mono {j k:Nat}{A:CK}(r:bX k A)(h:j<=k):bX j A:=⟨r.hd,by have:=r.dp;omega,by have:=r.un;omega⟩
theorem bX.deeper {k:Nat}{A:CK}(r:bX (k+1) A)(env:Env):bX k (A.deeper env) :=
 ⟨r.hd,by have:=r.dp;show A.depth+1+3*k+5<_;omega,by have:=r.un;show A.units+3+16*k+200<_;omega⟩
theorem bX.in1 {k:Nat}{A:CK}(r:bX (k+1) A):bX k A.in1 :=
 ⟨r.hd,by have:=r.dp;show A.depth+3*k+5<_;omega,by have:=r.un;show A.units+1+16*k+200<_;omega⟩
theorem qH {A:CK}{C:Addr}{us:List BP}{kw:List (Str×BP)}:(A.under (.builtin "type.__call__" ⟨.ref C :: us,kw⟩)).depth=A.depth+1:=by
 first | rfl | simp[Around.under,Code.weight,Code.isCreation,Code.isGuard,Code.isCaller,Code.frames,Code.isFrame,guardIds]
theorem qI {A:CK}{C:Addr}{us:List BP}{kw:List (Str×BP)}:(A.under (.builtin "type.__call__" ⟨.ref C :: us,kw⟩)).units=A.units+1:=by
 first | rfl | simp[Around.under,Code.cUnits,Code.frames,Code.isFrame]
theorem bX.make {k:Nat}{A:CK}(r:bX (k+1) A)(C:Addr)(us:List BP)(kw:List (Str×BP)):bX k (A.under (.builtin "type.__call__" ⟨.ref C :: us,kw⟩)) :=
 ⟨r.hd,by have:=r.dp;rw[qH];omega,by have:=r.un;rw[qI];omega⟩
theorem bX.depth {k:Nat}{A:CK}(r:bX k A):A.depth<recursionLimit:=by have:=r.dp;omega
theorem bX.units {k:Nat}{A:CK}(r:bX k A):A.units+64<cLine:=by have:=r.un;omega
def tNil:TA:=λ_ H Q=>Q [] H
def A9 (ta:TE)(tr:TA):TA:=λσ H Q=>ta σ H λx H1=>tr σ H1 λxs H2=>Q (x :: xs) H2
section
variable  {X:Cx}{e:Expr}{es:List Expr}{te:TE}{t:TA}{pos:Pos}
theorem ag:PA X [] tNil:=λ_ _ _ _ H Q I h=>Hw ⟨[],H,I,.nil,h⟩
theorem aa (ha:PE X e te)(hr:PA X es t)(hs:CO (e :: es) X.env=(false,eval e X.env) :: CO es X.env:=by rfl):PA X (e :: es) (A9 te t):=by
 intro pos pins s σ H Q I h
 rw[hs]
 show Cb _ _ (spliced ((false,eval e X.env) :: Fi pos (CO es X.env))) _ _ s
 refine FI (thn (ha pins s σ H _ I h) λu s1 ⟨x,H1,I1,r1,q1⟩ =>?_)
 exact thn (hr pos pins s1 σ H1 _ I1 q1) λus s2 ⟨xs,H2,I2,r2,q2⟩=>⟨x :: xs,H2,I2,.cons r1 r2,q2⟩
def tTup (t:TA):TE:=λσ H Q=>t σ H λxs H1=>xs.length<=Ca/\∀p,H1 p=none->Q (.ref p) (upd H1 p (.tup xs))
def tLst (t:TA):TE:=λσ H Q=>t σ H λxs H1=>xs.length<=Ca/\∀p,H1 p=none->Q (.ref p) (upd H1 p (.lst xs))
theorem aP {x1}(h:PA X es t):PE X (.Tuple es x1 pos) (tTup t):=by
 intro pins s σ H Q I hq
 refine wpAny_Tuple_spliced (thn (h pos pins s σ H _ I hq) λus s1 ⟨xs,H1,I1,r,z,q⟩=>⟨by rw[<- r.length];exact z,?_⟩)
 have hf:H1 s1.heap.objs.size=none:=I1.hok.fresh (BV _)
 refine ⟨.ref s1.heap.objs.size,upd H1 s1.heap.objs.size (.tup xs),I1.laid (t':=s1.toks) (λb u e=>BO _ e) (BV _) ?_,rfl,q _ hf⟩
 exact ⟨z,us,r,⟨_,BX _ rfl,⟨rfl,rfl⟩,_,rfl⟩⟩
theorem dH (h:PA X es t):PE X (.List es pos) (tLst t):=by
 intro pins s σ H Q I hq
 refine wpAny_List_spliced (thn (h pos pins s σ H _ I hq) λus s1 ⟨xs,H1,I1,r,z,q⟩=>⟨by rw[<- r.length];exact z,?_⟩)
 have hf:H1 s1.heap.objs.size=none:=I1.hok.fresh (BV _)
 refine ⟨.ref s1.heap.objs.size,upd H1 s1.heap.objs.size (.lst xs),I1.laid (t':=s1.toks) (λb u e=>BO _ e) (BV _) ?_,rfl,q _ hf⟩
 exact ⟨z,us,0,r,BX _ rfl⟩
end
abbrev Sp:=List V->Hp->VK->XK->Prop
abbrev CXT:=List Env->Hp->BR->XK->BP->BR->Prop
structure nO (P:B7)(w:CJ)(K:BM)(mg:Str->Option BP)(base:Heap)(A:CK)(outer:List Env)(s:BR)(H:Hp):Prop where
 frames:A.frames=some outer
 mod:Mod K mg base
 bs:∀b o,base.get? b=some o->s.heap.get? b=some o/\H b=none
 bsz:base.objs.size<=s.heap.objs.size
 funs:s.heap.FunFrames base outer
 frf:∀b∈frs outer,H b=none
 hok:HOk P w H s.heap
 bare:AllBare s.gens
def CE (outer:List Env)(P:B7)(w:CJ)(H:Hp)(s:BR)(Q:VK)(u:BP)(s':BR):Prop :=
 ∃v H',s'.os=s.os/\AllBare s'.gens/\Un (frs outer) [] H H' s.heap s'.heap/\HOk P w H' s'.heap/\RelV v u/\Q v H'
def CR (CX:CXT)(outer:List Env)(P:B7)(w:CJ)(H:Hp)(s:BR)(Q:VK)(E:XK)(r:Result)(s':BR):Prop :=
 match r with
 | .ok (.ret u)=>CE outer P w H s Q u s'
 | .ok _=>False
 | .error e=>CX outer H s E e s'
structure bS (P:B7)(w:CJ)(K:BM)(mg:Str->Option BP)(base:Heap)(CX:CXT)(k:Nat)(f:Addr)(fd:CT)(ps:List Str)(sp:Sp):Prop where
 len:∀vs H Q E,sp vs H Q E->vs.length=ps.length
 run:∀(A:CK) (outer:List Env) (s:BR) (H:Hp) (args:Args) (us:List BP) (vs:List V) (Q:VK) (E:XK),bX k A->nO P w K mg base A outer s H->BindsTo s fd args (ps.zip us)->Vals vs us->sp vs H Q E →
  Hv (Cn P w) A (.call (.ref f) args) (CR CX outer P w H s Q E) s
theorem nO.make {P:B7}{w:CJ}{K:BM}{mg:Str->Option BP}{base:Heap}{A:CK}{outer:List Env}{s:BR}{H:Hp}(e:nO P w K mg base A outer s H)(C:Addr)(us:List BP)(kw:List (Str×BP)) :
  nO P w K mg base (A.under (.builtin "type.__call__" ⟨.ref C :: us,kw⟩)) outer s H:=⟨by first | exact e.frames | (simpa [Around.under,Code.envs,Code.isFrame,pushEnvs] using e.frames),e.mod,e.bs,e.bsz,e.funs,e.frf,e.hok,e.bare⟩
section
variable  {X:Cx}{pins:List (Addr×Obj)}{σ:St}{H:Hp}{s s':BR}
theorem Inv.xK (I:Inv X pins σ H s):nO X.prog X.w X.K X.mg X.base X.A X.stack s H :=
 ⟨I.ok.frames,I.ok.mod,I.bs,Cq I.ok.bsz I.sz,I.stack,I.jW,I.hok,I.bare⟩
theorem Inv.after {Q:VK}{u:BP}(I:Inv X pins σ H s)(h:CE X.stack X.prog X.w H s Q u s'):EP X pins σ Q u s':=by
 obtain ⟨v,H',os,bare,un,hok,r,q⟩:=h
 obtain ⟨hh,g,d,t,os'⟩:=s'
 obtain rfl:os'=s.os:=os
 exact ⟨v,H',I.call (h':=hh) (g':=g) (d':=d) (t':=t) (ch:=[]) un hok bare (λb z=>absurd z (by simp)),r,q⟩
end
def vA (sp:Sp)(dvs:List V)(E:XK)(t:TA):TE:=λσ H Q=>t σ H λvs H1=>sp (vs++dvs) H1 Q E
def Binds (K:BM)(fd:CT)(ps:List Str)(ds:List BP):Prop :=
 ∀(s:BR) (us:List BP),K.In s.heap->(us++ds).length=ps.length->BindsTo s fd ⟨us,[]⟩ (ps.zip (us++ds))
theorem Binds.all {K:BM}{fd:CT}{ps:List Str}(h:∀us:List BP,us.length=ps.length->bindArgs fd ⟨us,[]⟩=pure (ps.zip us)):Binds K fd ps []:=λs us _ hl=>by
 rw[CF] at hl ⊢
 exact .of_eq (h us hl)
def Passes (CX:CXT)(X:Cx)(E:XK):Prop:=∀(pins:List (Addr×Obj)) (σ:St) (H:Hp) (s:BR) (e:BP) (s':BR),Inv X pins σ H s->CX X.stack H s E e s'->X.xe e s'
section
variable  {X:Cx}{CX:CXT}{k:Nat}{f C:Addr}{fd:CT}{ps:List Str}{sp:Sp}{dvs:List V}{ds:List BP}{E:XK}{x m:Str}{p pos apos:Pos}{e o:Expr}{es:List Expr}{ta:TE}{t:TA}
theorem zL {pins:List (Addr×Obj)}{σ:St}{H:Hp}{s:BR}{Q:VK}{us:List BP}{vs:List V}(F:bS X.prog X.w X.K X.mg X.base CX k f fd ps sp)(hr:bX k X.A)(hb:Binds X.K fd ps ds)(hd:Vals dvs ds)(hx:Passes CX X E)
  (I:Inv X pins σ H s) (r:Vals vs us) (h:sp (vs++dvs) H Q E):Cb (Cn X.prog X.w) X.A (call (.ref f) us) (EP X pins σ Q) X.xe s:=by
 have r2:Vals (vs++dvs) (us++ds):=r.append hd
 have hl:(us++ds).length=ps.length:=by rw[<- r2.length];exact F.len _ _ _ _ h
 refine GG (Ff (F.run X.A X.stack s H ⟨us,[]⟩ (us++ds) (vs++dvs) Q E hr I.xK (hb s us I.kIn hl) r2 h) λr s' hq =>?_)
 cases r with
 | error e=>exact hx pins σ H s e s' I hq
 | ok fl =>
  cases fl with
  | ret u=>exact I.after hq
  | next=>exact False.elim hq
  | brk=>exact False.elim hq
  | cont=>exact False.elim hq
theorem xM (F:bS X.prog X.w X.K X.mg X.base CX k f fd ps sp)(hr:bX k X.A)(hg:Gl X x)(hm:X.mg x=some (.ref f))(hk:PySem.W.keepIn X.K (.ref f)=true)(hb:Binds X.K fd ps ds)(hd:Vals dvs ds)(hx:Passes CX X E)
  (ha:PA X (e :: es) t) (hdb:(x == ("__debug__" : Str))=false:=by decide) (he:CO (e :: es) X.env=(false,eval e X.env) :: CO es X.env:=by rfl) (hpl:(Fi pos (CO es X.env)).any (·.1)=false:=by rfl) :
  PE X (.Call (.Name x p) (e :: es) [] pos) (vA sp dvs E t):=by
 intro pins s σ H Q I h
 refine DG (fc I hg hm ?_ hdb)
 refine FJ (h₀:=X.base) I.ok.mod.kin hk (thn (ha pos pins s σ H _ I h) λus s1 ⟨vs,H1,I1,r,q⟩=>⟨I1.kIn,?_⟩) he hpl
 exact zL F hr hb hd hx I1 r q
end
section
variable  {X:Cx}{CX:CXT}{k:Nat}{f C:Addr}{fd:CT}{ps ks:List Str}{sp:Sp}{E:XK}{x m:Str}{p pos apos kpos:Pos}{e o:Expr}{es:List Expr}{kws:List Keyword}{te ta:TE}{t tk:TA}{nm:Option Str}
variable  {g:List BP->List BP->List BP}{gV:List V->List V->List V}
end
structure aV (N P:List Str)(sc:Scope):Prop where
 kind:sc.kind = .function
 co:sc.isCoroutine=false
 gen:sc.isGenerator=false
 nd:N.Nodup
 pre:N.take P.length=P
 par:∀x∈P,sc.names.lookup x=some .local\/sc.names.lookup x=some .cell
 nofree:∀y∈sc.names,y.2 ≠ .free
theorem ml {kindOf:Str->Option NameKind}{x:Str}:∀{binds:List (Str×BP)} {m:Str->Option BP},(∀v,(x,v)∉binds)->bindL kindOf binds m x=m x
 | [],_,_=>rfl
 | (n,v) :: r,m,h=>by
  unfold bindL
  rw[ml λw hw=>h w (B9 _ hw)]
  split
  ·have:x≠n:=by rintro rfl;exact h v B1
   simp[this]
  ·rfl
theorem mn {kindOf:Str->Option NameKind}{x:Str}:∀{binds:List (Str×BP)} {m:Str->Option BP},(∀v,(x,v)∉binds)->bindC kindOf binds m x=m x
 | [],_,_=>rfl
 | (n,v) :: r,m,h=>by
  unfold bindC
  rw[mn λw hw=>h w (B9 _ hw)]
  split
  ·rfl
  ·have:x≠n:=by rintro rfl;exact h v B1
   simp[this]
theorem mq {kindOf:Str->Option NameKind}{x:Str}{v:BP}:∀{P:List Str} {vs:List BP} {i:Nat} {m:Str->Option BP},P.Nodup->P[i]? = some x->vs[i]? = some v->kindOf x=some .local →
  bindL kindOf (P.zip vs) m x=some v
 | [],_,_,_,_,h,_,_=>by simp at h
 | _ :: _,[],_,_,_,_,h,_=>by simp at h
 | p :: P,w :: vs,0,m,nd,h1,h2,hk=>by
  simp at h1 h2;subst h1;subst h2
  show bindL kindOf ((p,w) :: P.zip vs) m p=_
  unfold bindL
  rw[ml λv hv=>(E7.mp nd).1 (FK hv).1,if_pos hk]
  simp
 | p :: P,w :: vs,i+1,m,nd,h1,h2,hk=>by
  show bindL kindOf ((p,w) :: P.zip vs) m x=_
  unfold bindL
  exact mq (i:=i) (E7.mp nd).2 (by simpa using h1) (by simpa using h2) hk
theorem mw {kindOf:Str->Option NameKind}{x:Str}{v:BP}:∀{P:List Str} {vs:List BP} {i:Nat} {m:Str->Option BP},P.Nodup->P[i]? = some x->vs[i]? = some v->kindOf x≠some .local →
  bindC kindOf (P.zip vs) m x=some v
 | [],_,_,_,_,h,_,_=>by simp at h
 | _ :: _,[],_,_,_,_,h,_=>by simp at h
 | p :: P,w :: vs,0,m,nd,h1,h2,hk=>by
  simp at h1 h2;subst h1;subst h2
  show bindC kindOf ((p,w) :: P.zip vs) m p=_
  unfold bindC
  rw[mn λv hv=>(E7.mp nd).1 (FK hv).1,if_neg hk]
  simp
 | p :: P,w :: vs,i+1,m,nd,h1,h2,hk=>by
  show bindC kindOf ((p,w) :: P.zip vs) m x=_
  unfold bindC
  exact mw (i:=i) (E7.mp nd).2 (by simpa using h1) (by simpa using h2) hk
def start (N:List Str)(vs:List V):St:=vs.map some++Ga (N.length-vs.length) none
def gW (CX:CXT)(P:B7)(w:CJ)(K:BM)(mg:Str->Option BP)(base:Heap)(N:List Str)(qual:Str)(scope:Scope)(f:Addr)(cd:BP)(A:CK)(outer:List Env)(s:BR)(H:Hp)(E:XK):Cx where
 prog:=P
 w:=w
 K:=K
 mg:=mg
 base:=base
 A:=A.deeper (envOfC qual scope s.heap.objs.size f cd)
 N:=N
 s₀:=s
 H₀:=H
 env:=envOfC qual scope s.heap.objs.size f cd
 outer:=outer
 stack:=envOfC qual scope s.heap.objs.size f cd :: outer
 ex:=[]
 calm:=true
 fn:=λ_=>true
 pn:=[]
 xe:=λe s'=>Cb (Cn P w) (A.deeper (envOfC qual scope s.heap.objs.size f cd)) (leaving (envOfC qual scope s.heap.objs.size f cd) e) (λ_ s''=>CX outer H s E e s'') (λe' s''=>CX outer H s E e' s'') s'
theorem oY {sc:Scope}{n:Nat}{x:Str}(h:sc.names.lookup x=some .cell):∃c,(cellsFrom n sc.names []).lookup x=some c:=by
 have q:=FX sc.names n [] (.inl h)
 exact Hx.mp q
theorem mB {CX:CXT}{P:B7}{w:CJ}{K:BM}{mg:Str->Option BP}{base:Heap}{N ps:List Str}{qual:Str}{scope:Scope}{f:Addr}{cd:BP}{A:CK}{outer:List Env}{s s1:BR}{H:Hp}{E:XK}{us:List BP}{vs:List V}
  (S:aV N ps scope) (hd:A.handled=none) (e0:nO P w K mg base A outer s H) (hl:vs.length=ps.length) (r:Vals vs us)
  (x:InCallC s s.heap.objs.size (bindL (envOfC qual scope s.heap.objs.size f cd).kindOf (ps.zip us) λ_=>none) (cellsFrom (s.heap.objs.size+1) scope.names []) (bindC (envOfC qual scope s.heap.objs.size f cd).kindOf (ps.zip us) λ_=>none) s1) :
  Inv (gW CX P w K mg base N qual scope f cd A outer s H E) [] (start N vs) H s1:=by
 have hpl:ps.length<=N.length:=by have:=congrArg List.length S.pre;rw[DK] at this;omega
 obtain ⟨h1,tk,rfl,hk⟩:=x.done
 have noA:∀b:Addr,b∉(gW CX P w K mg base N qual scope f cd A outer s H E).ex:=λb z=>absurd (show b∈([]:List Addr) from z) (by simp)
 refine ⟨⟨e0.mod,S.kind,rfl,rfl,BV _,λy z c h1 h2 =>?_,λy hy =>?_,λy c _ h =>?_,λ_=>hd,Ip e0.frames,.inr ⟨rfl,rfl⟩,λb z=>absurd z (noA b),e0.bs,e0.bsz,λb _ _=>noA b,λb z=>absurd z (noA b),e0.funs,e0.frf⟩,
  rfl,e0.bare,Un.kept hk,⟨_,x.toInCall.ns,λi y v h1 h2 h3 =>?_⟩,λy c h=>⟨_,x.cell y c h⟩,e0.hok.fresh (BV _),λy c h =>?_,λp hp=>absurd (show p∈([]:List (Addr×Obj)) from hp) (by simp),e0.hok.kept hk,?_⟩
 ·exact name_of_addr x.apart (Ep h1) (Ep h2)
 ·have hy:scope.names.lookup y=some .cell\/scope.names.lookup y=some .free:=hy
  rcases hy with hy | hy
  ·exact oY hy
  ·exact absurd rfl (S.nofree _ (Ep hy))
 ·exact FF (x.above y c (Ep h))
 ·have hi:i<vs.length:=by
   unfold start at h2
   by_cases hi:i<vs.length
   ·exact hi
   ·rw[GW (by simpa using hi)] at h2
    rw[List.getElem?_replicate] at h2
    split at h2 <;> cases h2
  have ha:vs[i]? = some v:=by
   unfold start at h2
   rw[Hi (by simpa using hi),CA] at h2
   cases e:vs[i]? with
   | none=>rw[e] at h2;cases h2
   | some a=>rw[e] at h2;cases h2;rfl
  obtain ⟨u,hu,rv⟩:=r.get ha
  have hp:ps[i]? = some y:=by
   rw[<- S.pre,List.getElem?_take_of_lt (by omega)];exact h1
  have ndP:ps.Nodup:=by rw[<- S.pre];exact S.nd.sublist (Ds _ _)
  refine ⟨u,rv,?_⟩
  rcases S.par y (Cy hp) with k | k
  ·exact .inl ⟨k,mq ndP hp hu k⟩
  ·obtain ⟨c,e⟩:=oY (n:=s.heap.objs.size+1) k
   refine .inr ⟨.inl k,c,e,?_⟩
   have q:=x.cell y c e
   rw[mw ndP hp hu (by show scope.names.lookup y≠_;rw[k];decide)] at q
   exact q
 ·exact e0.hok.fresh (FF (x.above y c (Ep h)))
 ·unfold start
  show _=N.length
  rw[BU,BQ,List.length_replicate]
  omega
theorem vB {CX:CXT}{P:B7}{w:CJ}{K:BM}{mg:Str->Option BP}{base:Heap}{k:Nat}{f:Addr}{name qual:Str}{params:Arguments}{body:List Stmt}{scope:Scope}{dV kV doc pm cdv ct oc:BP}{an od:Option Addr}
  {osl:Array (Option BP)} {N ps:List Str} {sp:Sp} (lk:K.lookup f=some ⟨oc,od,.func (PySem.W.fnOf name qual params body scope dV kV doc pm an cdv ct),osl⟩) (hcd:PySem.W.codeIn K cdv qual=true) (S:aV N ps scope)
  (len:∀vs H Q E,sp vs H Q E->vs.length=ps.length)
  (hbody:∀(A:CK) (outer:List Env) (s:BR) (H:Hp) (vs:List V) (Q:VK) (E:XK),bX k (A.deeper (envOfC qual scope s.heap.objs.size f cdv))->sp vs H Q E →
   ∃t,PSs (gW CX P w K mg base N qual scope f cdv A outer s H E) body t/\t { nx:=λ_ H'=>Q .non H',rt:=Q } (start N vs) H) :
  bS P w K mg base CX (k+1) f (PySem.W.fnOf name qual params body scope dV kV doc pm an cdv ct) ps sp:=by
 refine ⟨len,λA outer s H args us vs Q E hr e0 hb r hsp =>?_⟩
 have hl:=len _ _ _ _ hsp
 have KX:K.In s.heap:=e0.mod.kin.keeps λb o e=>(e0.bs b o e).1
 have lim:s.heap.NoLimit:=e0.mod.nolimit.keeps λb o e=>(e0.bs b o e).1
 have hkind:∀y∈ps.zip us,scope.names.lookup y.1=some .local\/(scope.names.lookup y.1=some .cell/\((cellsFrom (s.heap.objs.size+1) scope.names []).lookup y.1).isSome=true):=λ⟨n,v⟩ hy=>by
  rcases S.par n (FK hy).1 with q | q
  ·exact .inl q
  ·exact .inr ⟨q,FX _ _ _ (.inl q)⟩
 refine Il hr.depth (KX _ _ lk) rfl S.co S.gen rfl (IU KX hcd) (hb _ _ _ _ ?_)
 refine GZ S.kind hkind λenv he s1 x =>?_
 subst he
 refine ⟨lim.keeps x.toInCall.keep,codeAny_func ?_⟩
 obtain ⟨t,ht,hq⟩:=hbody A outer s H vs Q E (hr.deeper _) hsp
 have I:Inv (gW CX P w K mg base N qual scope f cdv A outer s H E) [] (start N vs) H s1:=mB S hr.hd e0 hl r x
 refine C5 (ht [] s1 (start N vs) H _ I hq) (λfl s' hs =>?_) λe s' hs=>hs
 have fin:∀{σ':St} {H':Hp} {v:V} {u:BP},Inv (gW CX P w K mg base N qual scope f cdv A outer s H E) [] σ' H' s'->RelV v u->Q v H'->CE outer P w H s Q u s' :=
  λ{σ' H' v u} J rv q=>⟨v,H',J.os,J.bare,J.base,J.hok,rv,q⟩
 cases fl with
 | ret u =>
  obtain ⟨v,σ',H',J,rv,q⟩:=hs
  exact fin J rv q
 | next =>
  obtain ⟨σ',H',J,q⟩:=hs
  exact fin (v:=V.non) (u:=Ee) J rfl q
 | brk =>
  obtain ⟨_,_,_,q⟩:=hs
  exact False.elim q
 | cont =>
  obtain ⟨_,_,_,q⟩:=hs
  exact False.elim q
open PySem PySem.Spec PyProof.Rows
section
variable  {X:Cx}{x:Str}{p pos:Pos}{e:Expr}{es:List Expr}{t:TA}{id T:String}{r:List V->Hp->VK->Prop}
def tCB (r:List V->Hp->VK->Prop)(t:TA):TE:=λσ H Q=>t σ H λvs H1=>r vs H1 Q
theorem ak (hc:cM X (.builtin id) r)(hg:Gl X x)(hm:X.mg x=none)(hv:C2 x=some (.builtin id))(ha:PA X (e :: es) t)(hn:x ≠ "__name__" := by decide)(hdb:(x == ("__debug__" : Str))=false:=by decide)
  (he:CO (e :: es) X.env=(false,eval e X.env) :: CO es X.env:=by rfl) (hpl:(Fi pos (CO es X.env)).any (·.1)=false:=by rfl):PE X (.Call (.Name x p) (e :: es) [] pos) (tCB r t):=by
 intro pins s σ H Q I h
 refine DG (fW I hg hm hv ?_ hn hdb)
 exact PyProof.Rows.callWith_builtin1 (thn (ha pos pins s σ H _ I h) λus s1 ⟨vs,H1,I1,r1,q1⟩=>hc pins s1 σ H1 vs us Q I1 r1 q1) he hpl
theorem bh (hc:cM X (.type T) r)(hg:Gl X x)(hm:X.mg x=none)(hv:C2 x=some (.type T))(ha:PA X (e :: es) t)(hn:x ≠ "__name__" := by decide)(hdb:(x == ("__debug__" : Str))=false:=by decide)
  (he:CO (e :: es) X.env=(false,eval e X.env) :: CO es X.env:=by rfl) (hpl:(Fi pos (CO es X.env)).any (·.1)=false:=by rfl):PE X (.Call (.Name x p) (e :: es) [] pos) (tCB r t):=by
 intro pins s σ H Q I h
 refine DG (fW I hg hm hv ?_ hn hdb)
 exact DQ (thn (ha pos pins s σ H _ I h) λus s1 ⟨vs,H1,I1,r1,q1⟩=>hc pins s1 σ H1 vs us Q I1 r1 q1) he hpl
end
end L2
namespace HT
open PySem PyProof.Rows
def lexLt:List Int->List Int->Bool
 | [],[]=>false
 | [],_ :: _=>true
 | _ :: _,[]=>false
 | x :: xs,y :: ys=>if x=y then lexLt xs ys else decide (x<y)
theorem aY (x y:Int)(xs ys:List Int):lexLt (x :: xs) (y :: ys)=if x=y then lexLt xs ys else decide (x<y):=rfl
theorem lN:lexLt [] []=false:=rfl
theorem kD (y:Int)(ys:List Int):lexLt [] (y :: ys)=true:=rfl
theorem kE (x:Int)(xs:List Int):lexLt (x :: xs) []=false:=rfl
theorem vC (A:CK)(s:BR)(a:Int)(t:Tok)(c:Int)(u:Tok):∃e,GH A s (.int a t) (.int c u) e/\(e=true↔a=c) :=
 ⟨(a == c),FL a t c u,by simp⟩
theorem kF (A:CK)(s:BR)(a:Int)(t:Tok)(c:Int)(u:Tok)(prog:B7)(w:CJ)(E:BP->BR->Prop)(Q:BP->BR->Prop)(h:Q (.bool (decide (a<c))) s) :
  Cb (Cn prog w) A (richCompare .Lt (.int a t) (.int c u)) Q E s :=
 (PyProof.Rows.lt_int h:Cb (Cn prog w) A (DZ .Lt (.int a t) (.int c u)) Q E s)
section
open PySem.SeqAt
open PySem.AutoSeq1 (wpAny_loadPart')
open PySem.MeetsSeq PySem.MeetsSeq2 PySem.MeetsSeq3
theorem lO (l b:Addr)(items items2:Array BP)(n n2:Nat)(dd dd2:Option Addr)(sl sl2:Array (Option BP))(ns ms:List Int)(hi:D5 items.toList ns)(hj:D5 items2.toList ms) :
  Meets (Builtin.«tuple.__lt__» ⟨[.ref l,.ref b],[]⟩)
   (λ_ R s=>s.heap.get? l=some { cls :=.type "tuple",dict:=dd,data :=.seq items n,slots:=sl }/\s.heap.get? b=some { cls :=.type "tuple",dict:=dd2,data :=.seq items2 n2,slots:=sl2 } ∧
    R (.ok (.ret (.bool (lexLt ns ms)))) s) :=
 .of_wp λprog w A R s h=>by
  obtain ⟨hp,g,d,tk,os⟩:=s;obtain ⟨hl,hb,h⟩:=h
  have f2:=AutoSeq1.sub_tuple_tuple
  have z1:items.size=ns.length:=by rw[<- hi.length];simp
  have z2:items2.size=ms.length:=by rw[<- hj.length];simp
  wp_walk using wpAny_loadPart' hl,wpAny_loadPart' hb,wpAny_forIn_list _ (λrest b s'=>b.1=none/\s'=⟨hp,g,d,tk,os⟩/\∃(vs ws:List BP) (ns' ms':List Int),rest=vs.zip ws ∧
   D5 vs ns'/\D5 ws ms'/\ns'.length+items2.size=ms'.length+items.size/\R (.ok (.ret (.bool (lexLt ns' ms')))) ⟨hp,g,d,tk,os⟩) _
  case turn =>
   rintro ⟨y,x⟩ rest b s' ⟨hb',rfl,vs,ws,ns',ms',hz,hvi,hwi,hlen,hR⟩
   cases hvi with
   | nil=>rw[List.zip_nil_left] at hz;cases hz
   | cons a t hvi' =>
    cases hwi with
    | nil=>rw[List.zip_nil_right] at hz;cases hz
    | cons c u hwi' =>
     rw[EC] at hz
     injection hz with hyx hrest
     injection hyx with hy hx
     subst hy hx
     rw[aY] at hR
     simp only[B3] at hlen
     obtain ⟨e,he,hiff⟩:=vC A.in1 ⟨hp,g,d,tk,os⟩ a t c u
     refine BN (he prog w _ _ ?_)
     cases e with
     | true =>
      rw[if_pos (hiff.mp rfl)] at hR
      wp_walk
      exact ⟨rfl,rfl,_,_,_,_,hrest,hvi',hwi',by omega,hR⟩
     | false =>
      rw[if_neg (λq=>absurd (hiff.mpr q) B2)] at hR
      have hri:=kF A.in1 ⟨hp,g,d,tk,os⟩ a t c u prog w
      wp_walk using hri
      exact ⟨_,rfl,by simpa using hR⟩
  case fin =>
   rintro ⟨b1,b2⟩ s' ⟨hb',rfl,vs,ws,ns',ms',hz,hvi,hwi,hlen,hR⟩
   simp only at hb'
   subst hb'
   have hv:lexLt ns' ms'=decide (items.size<items2.size):=by
    cases hvi with
    | nil =>
     cases hwi with
     | nil =>
      simp only[Dj] at hlen
      rw[lN]
      exact (decide_eq_false (by omega)).symm
     | cons c u hw =>
      simp only[Dj,B3] at hlen
      rw[kD]
      exact (decide_eq_true (by omega)).symm
    | cons a t hv =>
     cases hwi with
     | nil =>
      simp only[Dj,B3] at hlen
      rw[kE]
      exact (decide_eq_false (by omega)).symm
     | cons c u hw =>
      rw[EC] at hz
      cases hz
   rw[hv] at hR
   wp_walk
   exact ⟨_,rfl,by simpa [Builtin.Tuple.tupleCompareSizes] using hR⟩
  case h =>
   exact ⟨rfl,rfl,items.toList,items2.toList,ns,ms,rfl,hi,hj,by omega,h⟩
end
section
variable  {prog:B7}{w:CJ}{A:CK}{E:BP->BR->Prop}{s:BR}
theorem kG {l b:Addr}{items items2:Array BP}{ns ms:List Int}{Q:BP->BR->Prop}(hl:IsTup s.heap l items)(hb:IsTup s.heap b items2)(hi:D5 items.toList ns)(hj:D5 items2.toList ms)
  (hu:A.units<cLine) (h:Q (.bool (lexLt ns ms)) s):Cb (Cn prog w) A (DZ .Lt (.ref l) (.ref b)) Q E s:=by
 obtain ⟨⟨cls,dd,data,sl⟩,ho,hc,n,hd⟩:=id hl
 obtain ⟨⟨cls2,dd2,data2,sl2⟩,ho2,hc2,n2,hd2⟩:=id hb
 simp only at hc hd hc2 hd2
 subst hc hd hc2 hd2
 exact richCompare_meets_room (op :=.Lt) ⟨_,ho,rfl⟩ ⟨_,ho2,rfl⟩ PySem.F.slot_tuple_lt PySem.F.entry_tuple_lt (PySem.F.args_tuple_lt_2 _ _) (lO l b items items2 n n2 dd dd2 sl sl2 ns ms hi hj)
  ⟨ho,ho2,show Value.bool (lexLt ns ms)≠Value.notImplemented/\Q (.bool (lexLt ns ms)) s from ⟨(λx=>nomatch x),h⟩⟩ hu
theorem xN {t b:Addr}{vs ws:List BP}{Q:BP->BR->Prop}(ht:IsTup s.heap t vs.toArray)(hb:IsTup s.heap b ws.toArray)(hv:vs≠[])
  (h1:ws=[]->Q (.ref t) s) (h2:ws≠[]->Q (.ref s.heap.objs.size) { s with heap:=s.heap.push { cls :=.type "tuple",data :=.seq (vs++ws).toArray } })
  (hsz:vs.length+ws.length<=Ca):Cb (Cn prog w) A (binaryOp .Add (.ref t) (.ref b)) Q E s:=by
 obtain ⟨⟨cls,dd,data,sl⟩,ho,hc,n,hd⟩:=id ht
 obtain ⟨⟨cls2,dd2,data2,sl2⟩,ho2,hc2,n2,hd2⟩:=id hb
 simp only at hc hd hc2 hd2
 subst hc hd hc2 hd2
 have e:vs.toArray++ws.toArray=(vs++ws).toArray:=by simp
 by_cases hw:ws=[]
 ·exact He ⟨_,ho,rfl⟩ ⟨_,ho2,rfl⟩ Gp HM E2 ES (EJ _ _)
   (tuple_addW1 t b vs.toArray ws.toArray n n2 dd dd2 sl sl2 (by simpa using hv) (by simp[hw])) ⟨ho,ho2,h1 hw⟩
 ·refine He ⟨_,ho,rfl⟩ ⟨_,ho2,rfl⟩ Gp HM E2 ES (EJ _ _)
   (tuple_addW2 t b vs.toArray ws.toArray n n2 dd dd2 sl sl2 (by simpa using hv) (by simpa using hw) (by rw[BZ,BZ];exact hsz)) ⟨ho,ho2,?_⟩
  rw[e]
  exact h2 hw
def sIx (n d:Nat):Option Int->Nat
 | none=>d
 | some v=>if v<0 then (v+(n:Int)).toNat else min v.toNat n
theorem zM (n d:Nat)(hd:d<=n)(o:Option Int):sIx n d o<=n:=by
 cases o with
 | none=>exact hd
 | some v =>
  show (if v<0 then (v+(n:Int)).toNat else min v.toNat n)<=n
  by_cases hv:v<0
  ·rw[if_pos hv];omega
  ·rw[if_neg hv];exact Nat.min_le_right _ _
theorem su (v:Int)(n d:Nat):(if v<0 then max (v+(n:Int)) 0 else min v (n:Int))=((sIx n d (some v):Nat):Int):=by
 show (if v<0 then max (v+(n:Int)) 0 else min v (n:Int))=(((if v<0 then (v+(n:Int)).toNat else min v.toNat n):Nat):Int)
 by_cases hv:v<0
 ·simp only[if_pos hv];omega
 ·simp only[if_neg hv];omega
theorem qJ (lo hi:Option Int)(n:Nat):Builtin.Slice.sliceAdjust lo hi 1 (n:Int)=(((sIx n 0 lo:Nat):Int),((sIx n n hi:Nat):Int)):=by
 have h1:¬ ((1:Int)<0):=by omega
 unfold Builtin.Slice.sliceAdjust
 simp only[h1,if_false]
 refine Prod.ext ?_ ?_
 ·cases lo with
  | none=>rfl
  | some v=>exact su v n 0
 ·cases hi with
  | none=>rfl
  | some v=>exact su v n n
theorem qK (i j:Nat):Builtin.Slice.slicePlaces (i:Int) (j:Int) 1=j-i:=by
 unfold Builtin.Slice.slicePlaces
 have h1:(1:Int)>0:=by omega
 simp only[h1,if_true,Int.ediv_one]
 split <;> omega
theorem kH {v:BP}{o:Option Int}{Q:Option Int->BR->Prop}(p:IsPart v o)(h:Q o s):Cb (Cn prog w) A (Builtin.Slice.slicePartIndex v) Q E s:=by
 cases p with
 | none=>exact Ht h
 | int i t=>exact slicePart_int h
theorem eS {sl:Addr}{vl vu:BP}{lo hi:Option Int}{n:Nat}{Q:Int×Int×Nat->BR->Prop}(hs:s.heap.IsSliceOf sl vl vu .none)(pl:IsPart vl lo)(pu:IsPart vu hi)
  (h:Q (((sIx n 0 lo:Nat):Int),1,sIx n n hi-sIx n 0 lo) s):Cb (Cn prog w) A (Builtin.Slice.sliceApplied (.ref sl) (pure (n:Int))) Q E s:=by
 obtain ⟨os,hos,hcs,hds⟩:=id hs
 unfold Builtin.Slice.sliceApplied Builtin.Slice.sliceFields
 refine BN (BN (De hos hds (x:=vl) rfl (BN (De hos hds (x:=vu) rfl (BN (De hos hds (x :=.none) rfl (BS ?_)))))))
 refine BN (Ht ?_)
 show Cb _ _ (if ((1:Int) == 0)=true then _ else _) _ _ s
 rw[if_neg (by decide)]
 refine BN (kH pl (BN (kH pu (BN (BS ?_)))))
 show Cb _ _ (match Builtin.Slice.sliceAdjust lo hi 1 (n:Int) with | (lo,hi)=>pure (lo,(1:Int),Builtin.Slice.slicePlaces lo hi 1)) _ _ s
 rw[qJ lo hi n]
 show Cb _ _ (pure (((sIx n 0 lo:Nat):Int),(1:Int),Builtin.Slice.slicePlaces ((sIx n 0 lo:Nat):Int) ((sIx n n hi:Nat):Int) 1)) _ _ s
 rw[qK]
 exact BS h
theorem vD (xs:Array BP)(i k:Nat):((Dh k).filterMap λ(m:Nat)=>xs[((i:Int)+(m:Int)*1).toNat]?).toArray=((xs.toList.drop i).take k).toArray:=by
 have e:(λ(m:Nat)=>xs[((i:Int)+(m:Int)*1).toNat]?)=λm=>xs[i+m]? := by
  funext m
  have:((i:Int)+(m:Int)*1).toNat=i+m:=by omega
  rw[this]
 rw[e]
 have:=pick_run xs i k
 rw[List.filterMap_map] at this
 have e2:((λx=>xs[x]?) ∘ λx=>i+x)=λm=>xs[i+m]? := rfl
 rw[e2] at this
 rw[this]
theorem ig {t sl:Addr}{items:Array BP}{vl vu:BP}{lo hi:Option Int}{Q:BP->BR->Prop}(ht:IsTup s.heap t items)(hs:s.heap.IsSliceOf sl vl vu .none)(pl:IsPart vl lo)(pu:IsPart vu hi)
  (hw:¬ (sIx items.size 0 lo=0/\sIx items.size items.size hi=items.size))
  (h:Q (.ref s.heap.objs.size) { s with heap:=s.heap.push { cls :=.type "tuple",data :=.seq ((items.toList.drop (sIx items.size 0 lo)).take (sIx items.size items.size hi-sIx items.size 0 lo)).toArray } })
  (hsz:items.size<=Ca):Cb (Cn prog w) A (getItem (.ref t) (.ref sl)) Q E s:=by
 have htake:sizeOk (.seq ((items.toList.drop (sIx items.size 0 lo)).take (sIx items.size items.size hi-sIx items.size 0 lo)).toArray):=by
  show ((items.toList.drop (sIx items.size 0 lo)).take (sIx items.size items.size hi-sIx items.size 0 lo)).toArray.size<=Ca
  rw[BZ,DK,EA,B0]
  omega
 have hj:sIx items.size items.size hi<=items.size:=zM _ _ (BV _) hi
 obtain ⟨os,hos,hcs,hds⟩:=id hs
 have hTs:s.TypeIs (.ref sl) "slice" :=⟨os,hos,hcs⟩
 unfold getItem
 try with_reducible refine Dv ?_
 first | refine BN (BS ?_) | skip
 refine BN (HE ht.typeIs (by decide) ?_)
 refine BN (C4 (name:=Str.ofString "__getitem__") ht.typeIs CB
  (C8 CB ht.typeIs entry_tuple_getitem ?_ (Hf _ _)))
 show Cb _ _ (Builtin.Tuple.tupleItemsOf (.ref t) >>= _) _ _ s
 refine BN (Jb ht ?_)
 refine BN (EO hTs ?_)
 rw[if_pos (by decide)]
 refine BN (eS hs pl pu ?_)
 have hno:¬ ((((sIx items.size 0 lo:Nat):Int) == 0 && (1:Int) == 1 && (sIx items.size items.size hi-sIx items.size 0 lo) == items.size)=true):=by
  intro q
  rw[CQ,CQ] at q
  have q1:((sIx items.size 0 lo:Nat):Int)=0:=eq_of_beq q.1.1
  have q2:sIx items.size items.size hi-sIx items.size 0 lo=items.size:=eq_of_beq q.2
  exact hw ⟨by omega,by omega⟩
 show Cb _ _ (if (((sIx items.size 0 lo:Nat):Int) == 0 && (1:Int) == 1 && (sIx items.size items.size hi-sIx items.size 0 lo) == items.size)=true then _ else _) _ _ s
 rw[if_neg hno,vD]
 first
  | exact BN (m:=Builtin.Tuple.tupleExact _) (CM (BS ⟨_,rfl,BS h⟩) htake)
  | exact BN (m:=Builtin.Tuple.tupleExact _) (CM (BN (BS (BS ⟨_,rfl,BS h⟩))) htake)
  | exact BN (BN (m:=Builtin.Tuple.tupleExact _) (CM (BS (BS ⟨_,rfl,BS h⟩)) htake))
  | exact BN (BN (m:=Builtin.Tuple.tupleExact _) (CM (BS ⟨_,rfl,BS h⟩) htake))
end
end HT
namespace L2
open PySem PySem.Spec PyProof.Rows
abbrev TO:=St->Hp->(Option Int->Hp->Prop)->Prop
def PO (X:Cx)(e:Option Expr)(t:TO):Prop :=
 ∀(pins:List (Addr×Obj)) (s:BR) (σ:St) (H:Hp) (Q:Option Int->Hp->Prop),Inv X pins σ H s->t σ H Q →
  Cb (Cn X.prog X.w) X.A (evalPart e X.env) (λu s'=>∃o H',Inv X pins σ H' s'/\IsPart u o/\Q o H') X.xe s
def xO:TO:=λ_ H Q=>Q none H
def Ba (t:TE):TO:=λσ H Q=>t σ H λx H1=>∃i,x = .int i/\Q (some i) H1
theorem intsAre_of {ns:List Int}:∀{us:List BP},Vals (ns.map V.int) us->D5 us ns:=by
 induction ns with
 | nil=>intro us r;rw[Jq] at r;cases r;exact .nil
 | cons n ns ih =>
  intro us r
  rw[Ci] at r
  cases r with
  | cons r1 r2 =>
   obtain ⟨t,e⟩:=r1
   subst e
   exact .cons n t (ih r2)
section
variable  {X:Cx}{e:Expr}{te:TE}{lo hi:Option Expr}{tl th:TO}{pos p2:Pos}
theorem dw:PO X none xO:=by
 intro pins s σ H Q I h
 rw[Jc]
 exact BS ⟨none,H,I,.none,h⟩
theorem dy (h:PE X e te):PO X (some e) (Ba te):=by
 intro pins s σ H Q I hw
 rw[evalPart_some]
 refine thn (h pins s σ H _ I hw) λu s1 ⟨x,H1,I1,r1,q1⟩ =>?_
 obtain ⟨i,rfl,q⟩:=q1
 obtain ⟨t,rfl⟩:=r1
 exact ⟨some i,H1,I1,.int i t,q⟩
def SlR (X:Cx)(r:V->Option Int->Option Int->Hp->VK->Prop):Prop :=
 ∀(pins:List (Addr×Obj)) (s:BR) (σ:St) (H:Hp) (x:V) (v vl vu:BP) (lo hi:Option Int) (sl:Addr) (Q:VK),Inv X pins σ H s->RelV x v->s.heap.IsSliceOf sl vl vu .none->IsPart vl lo->IsPart vu hi->r x lo hi H Q →
  ∃T id,typeLookup (.type T) "__getitem__" = pure (some (.builtin id))/\s.TypeIs v T/\Cb (Cn X.prog X.w) X.A (getItem v (.ref sl)) (EP X pins σ Q) X.xe s
def tSl (r:V->Option Int->Option Int->Hp->VK->Prop)(te:TE)(tl th:TO):TE:=λσ H Q=>te σ H λx H1=>tl σ H1 λl H2=>th σ H2 λu H3=>r x l u H3 Q
theorem cR {r:V->Option Int->Option Int->Hp->VK->Prop}(hr:SlR X r)(he:PE X e te)(hl:PO X lo tl)(hu:PO X hi th):PE X (.Subscript e (.Slice lo hi none p2) pos) (tSl r te tl th):=by
 intro pins s σ H Q I h
 refine Subscript_ (thn (he pins s σ H _ I h) λv s1 ⟨x,H1,I1,r1,q1⟩ =>?_)
 refine wpAny_Slice (thn (hl pins s1 σ H1 _ I1 q1) λvl s2 ⟨l,H2,I2,pl,q2⟩=>thn (hu pins s2 σ H2 _ I2 q2) λvu s3 ⟨u,H3,I3,pu,q3⟩ =>?_)
 rw[Jc]
 refine BS ?_
 have I4:Inv X pins σ H3 { s3 with heap:=s3.heap.push { cls :=.type "slice",data :=.fields #[vl,vu,.none] } }:=I3.kept (t':=s3.toks) λb ob q=>BO _ q
 obtain ⟨T,id,hT,ht,hg⟩:=hr pins { s3 with heap:=s3.heap.push { cls :=.type "slice",data :=.fields #[vl,vu,.none] } } σ H3 x v vl vu l u s3.heap.objs.size Q I4 r1 (IV ..) pl pu q3
 show Cb (Cn X.prog X.w) X.A (subscriptTail e (.Slice lo hi none p2) v (.ref s3.heap.objs.size)) (EP X pins σ Q) X.xe { s3 with heap:=s3.heap.push { cls :=.type "slice",data :=.fields #[vl,vu,.none] } }
 exact tail_any (ops:=[.ref s3.heap.objs.size,v]) ht hT hg (by with_unfolding_all rfl)
def gI (xs:List V)(lo hi:Option Int):List V:=(xs.drop (HT.sIx xs.length 0 lo)).take (HT.sIx xs.length xs.length hi-HT.sIx xs.length 0 lo)
theorem jw (xs:List V)(lo hi:Option Int):(gI xs lo hi).length<=xs.length:=by
 unfold gI
 rw[DK,EA]
 omega
def rSlT (K:BM):V->Option Int->Option Int->Hp->VK->Prop:=λx lo hi H Q=>∃a xs,x = .ref a/\SqT K H a xs ∧
 ¬ (HT.sIx xs.length 0 lo=0/\HT.sIx xs.length xs.length hi=xs.length)/\∀p,H p=none->Q (.ref p) (upd H p (.tup (gI xs lo hi)))
theorem zN:SlR X (rSlT X.K):=by
 intro pins s σ H x v vl vu lo hi sl Q I rx hs pl pu h
 obtain ⟨a,xs,rfl,hx,hw,q⟩:=h
 cases rx
 obtain ⟨its,r,ht,hz⟩:=I.tuple hx
 have hlen:its.toArray.size=xs.length:=by rw[BZ];exact r.length.symm
 refine ⟨"tuple",_,CB.lookup,ht.typeIs,?_⟩
 refine HT.ig ht hs pl pu (by rw[hlen];exact hw) ?_ (by rw[hlen];exact hz)
 rw[hlen]
 refine ⟨.ref s.heap.objs.size,_,I.laid (t':=s.toks) (o :=.tup (gI xs lo hi)) (λb ob q=>BO _ q) (BV _) ?_,rfl,q _ (I.hok.fresh (BV _))⟩
 exact ⟨Cq (jw xs lo hi) hz,_,(r.drop (HT.sIx xs.length 0 lo)).take (HT.sIx xs.length xs.length hi-HT.sIx xs.length 0 lo),dq.new _ _⟩
def Bb (K:BM):R2:=λx y H Q=>∃a b xs ys,x = .ref a/\y = .ref b/\SqT K H a xs/\SqT K H b ys/\xs≠[]/\xs.length+ys.length<=Ca ∧
 (ys=[]->Q (.ref a) H)/\(ys≠[]->∀p,H p=none->Q (.ref p) (upd H p (.tup (xs++ys))))
theorem Vals.ij {xs:List V}{us:List BP}(r:Vals xs us):us=[]↔xs=[]:=by
 cases r with
 | nil=>simp
 | cons _ _=>simp
theorem sv:OpR X (binaryOp .Add) (Bb X.K):=by
 intro pins s σ H x y v u Q I rx ry h
 obtain ⟨a,b,xs,ys,rfl,rfl,ha,hb,hx,hz,q1,q2⟩:=h
 cases rx
 cases ry
 obtain ⟨its,r1,p1,_⟩:=I.tuple ha
 obtain ⟨its2,r2,p2,_⟩:=I.tuple hb
 refine HT.xN p1 p2 (λz=>hx (r1.ij.mp z)) (λz=>⟨.ref a,H,I,rfl,q1 (r2.ij.mp z)⟩) (λz =>?_) (by rw[<- r1.length, <- r2.length];exact hz)
 refine ⟨.ref s.heap.objs.size,_,I.laid (t':=s.toks) (o :=.tup (xs++ys)) (λb ob q=>BO _ q) (BV _) ?_,rfl,q2 (λw=>z (r2.ij.mpr w)) _ (I.hok.fresh (BV _))⟩
 exact ⟨by rw[BU];exact hz,_,r1.append r2,dq.new _ _⟩
end
open PySem PySem.Spec PyProof.Rows
def ixN (n:Nat)(i:Int):Option Nat:=if 0<=i then (if i<n then some i.toNat else none) else if -(n:Int)<=i then some (i+n).toNat else none
def atI {α:Type}(xs:List α)(i:Int):Option α:=(ixN xs.length i).bind λj=>xs[j]?
theorem sC {n:Nat}{i:Int}{j:Nat}(h:ixN n i=some j):seqIndex? i n=some j/\j<n /\ -(n:Int)<=i/\i<n:=by
 unfold ixN at h
 by_cases h0:0<=i
 ·rw[if_pos h0] at h
  by_cases h1:i<n
  ·rw[if_pos h1] at h
   have e:i.toNat=j:=Cv h
   exact ⟨by rw[IM h0 h1,e],by omega,by omega,h1⟩
  ·rw[if_neg h1] at h;cases h
 ·rw[if_neg h0] at h
  by_cases h1 : -(n:Int)<=i
  ·rw[if_pos h1] at h
   have e:(i+n).toNat=j:=Cv h
   exact ⟨by rw[Js (by omega) h1,e],by omega,h1,by omega⟩
  ·rw[if_neg h1] at h;cases h
theorem sD {α:Type}{xs:List α}{i:Int}{v:α}(h:atI xs i=some v):∃j,seqIndex? i xs.length=some j/\xs[j]? = some v/\j<xs.length /\ -(xs.length:Int)<=i/\i<xs.length:=by
 unfold atI at h
 cases e:ixN xs.length i with
 | none=>rw[e] at h;cases h
 | some j =>
  rw[e] at h
  obtain ⟨h1,h2,h3,h4⟩:=sC e
  exact ⟨j,h1,h,h2,h3,h4⟩
theorem xP {α:Type}{xs:List α}{j:Nat}{v:α}(h:xs[j]? = some v):atI xs (j:Int)=some v:=by
 have hj:j<xs.length:=(Cg.mp h).1
 have e:ixN xs.length (j:Int)=some j:=by
  unfold ixN
  rw[if_pos (by omega),if_pos (by omega)];simp
 unfold atI;rw[e];exact h
theorem vE {α:Type}(xs:List α)(v:α):atI (xs++[v]) (-1)=some v:=by
 have hl:(xs++[v]).length=xs.length+1:=by simp
 have e:ixN (xs++[v]).length (-1)=some xs.length:=by
  unfold ixN
  rw[hl,if_neg (by decide),if_pos (by omega)]
  congr 1
  omega
 unfold atI
 rw[e]
 show (xs++[v])[xs.length]? = some v
 simp
def xQ (b:Expr):Prop:=∀o i,subscripted b false o i=operate [o,i] (getItem o i)
def IxR (X:Cx)(r:R2):Prop :=
 ∀(value slice:Expr) (pins:List (Addr×Obj)) (s:BR) (σ:St) (H:Hp) (x y:V) (v u:BP) (Q:VK),Inv X pins σ H s->RelV x v->RelV y u->r x y H Q →
  subscripted slice false v u=operate [v,u] (getItem v u)->Cb (Cn X.prog X.w) X.A (subscriptTail value slice v u) (EP X pins σ Q) X.xe s
def MtR (X:Cx)(id:String)(r:V->List V->Hp->VK->Prop):Prop :=
 ∀(pins:List (Addr×Obj)) (s:BR) (σ:St) (H:Hp) (x:V) (xs:List V) (v:BP) (us:List BP) (Q:VK),Inv X pins σ H s->RelV x v->Vals xs us->r x xs H Q →
  Cb (Cn X.prog X.w) X.A (call (.builtin id) (v :: us)) (EP X pins σ Q) X.xe s
section
variable  {X:Cx}{a b:Expr}{ta tb:TE}{pos:Pos}
theorem aG {r:R2}(hr:IxR X r)(ha:PE X a ta)(hb:PE X b tb)(hs:xQ b):PE X (.Subscript a b pos) (tOp r ta tb):=by
 intro pins s σ H Q I h
 exact Subscript_ (zI ha hb I h λv u s2 x y H2 I2 rx ry q=>hr a b pins s2 σ H2 x y v u Q I2 rx ry q (hs _ _))
def rIxL (K:BM):R2:=λx y H Q=>∃p xs i v,x = .ref p/\y = .int i/\SqL K H p xs/\atI xs i=some v/\Q v H
def Bc (K:BM):R2:=λx y H Q=>∃p xs i v,x = .ref p/\y = .int i/\SqT K H p xs/\atI xs i=some v/\Q v H
theorem bQ:IxR X (rIxL X.K):=by
 intro value slice pins s σ H x y v u Q I rx ry h hs
 obtain ⟨p,xs,i,z,rfl,rfl,hq,he,q⟩:=h
 cases rx
 obtain ⟨t,rfl⟩:=ry
 obtain ⟨its,r,pl,hz⟩:=I.list hq
 obtain ⟨j,h1,h2,h3,h4,h5⟩:=sD he
 obtain ⟨w,ew,rw'⟩:=r.get h2
 have hl:=r.length
 have hn:=nN
 have fin:EP X pins σ Q w s:=⟨z,H,I,rw',q⟩
 by_cases h0:0<=i
 ·have hj:i.toNat=j:=by
   rw[IM h0 h5] at h1
   exact Cv h1
  exact item_listR pl.isList h0 (by omega) (by rw[hj];simpa using ew) fin hs
 ·have hj:(i+(its.toArray.size:Int)).toNat=j:=by
   rw[Js (by omega) h4] at h1
   rw[BZ, <- hl]
   exact Cv h1
  exact HZ (x:=w) pl.isList.typeIs slot_list_getitem.lookup
   (wpAny_getItem_list_neg (Q:=λr s'=>r=w/\EP X pins σ Q r s') pl.isList (by omega) (by rw[BZ] <;> omega) (by omega) (by rw[hj];simpa using ew) ⟨rfl,fin⟩) hs
theorem aM:IxR X (Bc X.K):=by
 intro value slice pins s σ H x y v u Q I rx ry h hs
 obtain ⟨p,xs,i,z,rfl,rfl,hq,he,q⟩:=h
 cases rx
 obtain ⟨t,rfl⟩:=ry
 obtain ⟨its,r,pl,hz⟩:=I.tuple hq
 obtain ⟨j,h1,h2,h3,h4,h5⟩:=sD he
 obtain ⟨w,ew,rw'⟩:=r.get h2
 have hl:=r.length
 have hn:=nN
 have fin:EP X pins σ Q w s:=⟨z,H,I,rw',q⟩
 exact HZ (x:=w) pl.typeIs slot_tuple_getitem.lookup
  (getItem_tuple (j:=j) (Q:=λr s'=>r=w/\EP X pins σ Q r s') pl (by omega) (by omega) (by rw[BZ, <- hl];exact h1) (by simpa using ew) ⟨rfl,fin⟩) hs
theorem qL (its:List BP)(n j:Nat)(u:BP):C9 (·.setIfInBounds j u) { cls :=.type "list",data :=.seq its.toArray n }={ cls :=.type "list",data :=.seq (its.set j u).toArray n }:=by
 simp[C9]
theorem Inv.lst {pins:List (Addr×Obj)}{σ:St}{H:Hp}{s:BR}{p:Addr}{xs:List V}(I:Inv X pins σ H s)(h:H p=some (.lst xs)) :
  ∃(its:List BP) (n:Nat),Vals xs its/\s.heap.get? p=some { cls :=.type "list",data :=.seq its.toArray n }/\xs.length<=Ca:=by
 obtain ⟨z,its,n,r,e⟩:=I.hok p _ h
 exact ⟨its,n,r,e,z⟩
theorem Inv.zO {pins:List (Addr×Obj)}{σ:St}{H:Hp}{s:BR}{p:Addr}{xs ys:List V}{its its':List BP}{n n':Nat}{f:Obj->Obj}(I:Inv X pins σ H s)(h:H p=some (.lst xs))
  (ho:s.heap.get? p=some { cls :=.type "list",data :=.seq its.toArray n }) (hf:f { cls :=.type "list",data :=.seq its.toArray n }={ cls :=.type "list",data :=.seq its'.toArray n' }) (r:Vals ys its') (hz:ys.length<=Ca) (t:Nat) :
  Inv X pins σ (upd H p (.lst ys)) { s with heap:=s.heap.update p f,toks:=t }:=by
 have e:(s.heap.update p f).get? p=some { cls :=.type "list",data :=.seq its'.toArray n' }:=by
  rw[C6 f ho (by rw[hf] <;> rfl),hf]
 refine I.write (x:=p) (e:=p) (by rw[h];trivial) (.inl rfl) (λb u hb q=>(CV _ _ (DE hb)).trans q) ⟨_,e⟩ ?_
 exact ⟨hz,its',n',r,e⟩
def Bd:V->V->V->Hp->(Hp->Prop)->Prop:=λo i v H Q=>∃p xs k j,o = .ref p/\i = .int k/\H p=some (.lst xs)/\ixN xs.length k=some j/\Q (upd H p (.lst (xs.set j v)))
theorem set_list:AZ X Bd:=by
 intro pins s σ H o i v ov iv u Q I ro ri rv h
 obtain ⟨p,xs,k,j,rfl,rfl,hp,hj,q⟩:=h
 cases ro
 obtain ⟨t,rfl⟩:=ri
 obtain ⟨its,n,r,ho,hz⟩:=I.lst hp
 obtain ⟨h1,h2,h3,h4⟩:=sC hj
 have hl:=r.length
 have hn:=nN
 have I':Inv X pins σ (upd H p (.lst (xs.set j v))) { s with heap:=s.heap.update p (C9 (·.setIfInBounds j u)) } :=
  I.zO hp ho (qL its n j u) (r.set rv j) (by rw[JH];exact hz) s.toks
 by_cases h0:0<=k
 ·have hk:k.toNat=j:=by
   rw[IM h0 h4] at h1
   exact Cv h1
  exact PySem.W.ki_setAt ho h0 (by omega) (by rw[BZ, <- hl];exact h4) (by rw[hk];exact ⟨_,I',q⟩)
 ·have hk:(k+(its.toArray.size:Int)).toNat=j:=by
   rw[Js (by omega) h3] at h1
   rw[BZ, <- hl]
   exact Cv h1
  exact PySem.W.ki_setBack ho (by omega) (by rw[BZ, <- hl];exact h3) (by omega) (by rw[hk];exact ⟨_,I',q⟩)
theorem nP (lo hi:Option Int)(n:Nat):(sliceBounds lo hi none n).1=((HT.sIx n 0 lo:Nat):Int)/\(sliceBounds lo hi none n).2.1=((HT.sIx n n hi:Nat):Int)/\(sliceBounds lo hi none n).2.2=1:=by
 refine ⟨?_,?_,rfl⟩
 ·cases lo with
  | none=>simp[sliceBounds,HT.sIx]
  | some i =>
   simp only[sliceBounds,HT.sIx,Jx,show (1:Int)>0 by decide,if_true]
   by_cases h:i<0
   ·simp only[h,if_true] <;> omega
   ·simp only[h,if_false] <;> omega
 ·cases hi with
  | none=>simp[sliceBounds,HT.sIx]
  | some i =>
   simp only[sliceBounds,HT.sIx,Jx,show (1:Int)>0 by decide,if_true]
   by_cases h:i<0
   ·simp only[h,if_true] <;> omega
   ·simp only[h,if_false] <;> omega
theorem lP (its:List BP)(lo hi:Option Int):slicePick its.toArray lo hi none=((its.drop (HT.sIx its.length 0 lo)).take (HT.sIx its.length its.length hi-HT.sIx its.length 0 lo)).toArray:=by
 obtain ⟨h1,h2,h3⟩:=nP lo hi its.toArray.size
 unfold slicePick
 rw[h1,h2,h3]
 simp only[sliceRange_one,pick_run,BZ] <;> rfl
def rSlL (K:BM):V->Option Int->Option Int->Hp->VK->Prop:=λx lo hi H Q=>∃a xs,x = .ref a/\SqL K H a xs/\∀p,H p=none->Q (.ref p) (upd H p (.lst (gI xs lo hi)))
theorem nQ:SlR X (rSlL X.K):=by
 intro pins s σ H x v vl vu lo hi sl Q I rx hs pl pu h
 obtain ⟨a,xs,rfl,hx,q⟩:=h
 cases rx
 obtain ⟨its,r,ht,hz⟩:=I.list hx
 have hlen:=r.length
 refine ⟨"list",_,slot_list_getitem.lookup,ht.isList.typeIs,?_⟩
 refine wpAny_getItem_list_slice ht.isList hs pl pu .none (by simp) ?_ (by rw[BZ] <;> omega)
 rw[lP, <- hlen]
 refine ⟨.ref s.heap.objs.size,_,I.laid (t':=s.toks) (o :=.lst (gI xs lo hi)) (λb ob q=>BO _ q) (BV _) ?_,rfl,q _ (I.hok.fresh (BV _))⟩
 exact ⟨Cq (jw xs lo hi) hz,_,0,(r.drop (HT.sIx xs.length 0 lo)).take (HT.sIx xs.length xs.length hi-HT.sIx xs.length 0 lo),BX _ rfl⟩
def ik:V->Bool
 | .non=>true
 | .bl _=>true
 | .int _=>true
 | .str _=>true
 | _=>false
def eqV:V->V->Bool
 | .non,.non=>true
 | .bl a,.bl b=>a == b
 | .bl a,.int b=>(if a then 1 else 0) == b
 | .int a,.bl b=>a == (if b then 1 else 0)
 | .int a,.int b=>a == b
 | .str a,.str b=>a == b
 | _,_=>false
theorem zP {A:CK}{s:BR}{y x:V}{u v:BP}(ry:RelV y u)(rx:RelV x v)(fy:ik y=true)(fx:ik x=true):GH A s u v (eqV y x):=by
 cases y with
 | non =>
  cases ry
  cases x with
  | non=>cases rx;exact JI _
  | bl b=>cases rx;exact SeqAt.EqAt.none_bool b
  | int b=>obtain ⟨t,rfl⟩:=rx;exact SeqAt.EqAt.none_int b t
  | str b=>obtain ⟨t,rfl⟩:=rx;exact SeqAt.EqAt.none_str b t
  | _=>exact absurd (show false=true from fx) B2
 | bl a =>
  cases ry
  cases x with
  | non=>cases rx;exact SeqAt.EqAt.bool_none a
  | bl b=>cases rx;exact SeqAt.EqAt.bool_bool a b
  | int b=>obtain ⟨t,rfl⟩:=rx;exact SeqAt.EqAt.bool_int a b t
  | str b=>obtain ⟨t,rfl⟩:=rx;exact SeqAt.EqAt.bool_str a b t
  | _=>exact absurd (show false=true from fx) B2
 | int a =>
  obtain ⟨t',rfl⟩:=ry
  cases x with
  | non=>cases rx;exact SeqAt.EqAt.int_none a t'
  | bl b=>cases rx;exact SeqAt.EqAt.int_bool a t' b
  | int b=>obtain ⟨t,rfl⟩:=rx;exact FL a t' b t
  | str b=>obtain ⟨t,rfl⟩:=rx;exact G0 a t' b t
  | _=>exact absurd (show false=true from fx) B2
 | str a =>
  obtain ⟨t',rfl⟩:=ry
  cases x with
  | non=>cases rx;exact SeqAt.EqAt.str_none a t'
  | bl b=>cases rx;exact SeqAt.EqAt.str_bool a t' b
  | int b=>obtain ⟨t,rfl⟩:=rx;exact Ha a t' b t
  | str b=>obtain ⟨t,rfl⟩:=rx;exact IW a t' b t
  | _=>exact absurd (show false=true from fx) B2
 | _=>exact absurd (show false=true from fy) B2
def eqU (x:V)(u:BP):Bool:=match u with
 | .none=>eqV .non x
 | .bool b=>eqV (.bl b) x
 | .int i _=>eqV (.int i) x
 | .str z _=>eqV (.str z) x
 | _=>false
theorem vF {x y:V}{u:BP}(r:RelV y u)(f:ik y=true):eqU x u=eqV y x:=by
 cases y with
 | non=>cases r;rfl
 | bl b=>cases r;rfl
 | int i=>obtain ⟨t,rfl⟩:=r;rfl
 | str z=>obtain ⟨t,rfl⟩:=r;rfl
 | _=>exact absurd (show false=true from f) B2
theorem il {x:V}:∀{xs:List V} {us:List BP},Vals xs us->xs.all ik=true->us.any (eqU x)=xs.any λy=>eqV y x
 | _,_,.nil,_=>rfl
 | y :: xs,u :: us,.cons r t,f=>by
  rw[Kk,CQ] at f
  rw[ED,ED,vF r f.1,il t f.2]
theorem fX {A:CK}{s:BR}{x:V}{v:BP}(rx:RelV x v)(fx:ik x=true):∀{xs:List V} {us:List BP},Vals xs us->xs.all ik=true->∀u∈us,GH A s u v (eqU x u)
 | _,_,.nil,_=>λu hu=>by cases hu
 | y :: xs,u :: us,.cons r t,f=>λu' hu=>by
  rw[Kk,CQ] at f
  rcases Cw.mp hu with rfl | hu
  ·rw[vF r f.1];exact zP r rx f.1 fx
  ·exact fX rx fx t f.2 u' hu
def inV (x:V)(xs:List V):Bool:=xs.any λy=>eqV y x
def rIn (K:BM)(neg:Bool):R2:=λx y H Q=>∃p xs,y = .ref p/\(SqL K H p xs\/SqT K H p xs)/\ik x=true/\xs.all ik=true/\Q (.bl (if neg then !inV x xs else inV x xs)) H
theorem mC:OpR X (DZ .In) (rIn X.K false):=by
 intro pins s σ H x y v u Q I rx ry h
 obtain ⟨p,xs,rfl,hq,fx,fs,q⟩:=h
 cases ry
 rcases hq with hq | hq
 ·obtain ⟨its,r,pl,hz⟩:=I.list hq
  refine JJ (eqU x) pl.isList (λw hw=>fX rx fx r fs w (by simpa using hw)) ⟨.bl _,H,I,rfl,?_⟩
  rw[show its.toArray.any (eqU x)=its.any (eqU x) by simp,il r fs]
  exact q
 ·obtain ⟨its,r,pl,hz⟩:=I.tuple hq
  refine Jy (eqU x) pl (λw hw=>fX rx fx r fs w (by simpa using hw)) ⟨.bl _,H,I,rfl,?_⟩
  rw[show its.toArray.any (eqU x)=its.any (eqU x) by simp,il r fs]
  exact q
theorem nR:OpR X (DZ .NotIn) (rIn X.K true):=by
 intro pins s σ H x y v u Q I rx ry h
 obtain ⟨p,xs,rfl,hq,fx,fs,q⟩:=h
 cases ry
 rcases hq with hq | hq
 ·obtain ⟨its,r,pl,hz⟩:=I.list hq
  refine IX (eqU x) pl.isList (λw hw=>fX rx fx r fs w (by simpa using hw)) ⟨.bl _,H,I,rfl,?_⟩
  rw[show its.toArray.any (eqU x)=its.any (eqU x) by simp,il r fs]
  exact q
 ·obtain ⟨its,r,pl,hz⟩:=I.tuple hq
  refine IH (eqU x) pl (λw hw=>fX rx fx r fs w (by simpa using hw)) ⟨.bl _,H,I,rfl,?_⟩
  rw[show its.toArray.any (eqU x)=its.any (eqU x) by simp,il r fs]
  exact q
theorem aX:cM X (.builtin "len") (λxs H Q=>∃p ys,xs=[.ref p]/\(SqL X.K H p ys\/SqT X.K H p ys)/\Q (.int ys.length) H):=by
 intro pins s σ H xs us Q I r h
 obtain ⟨p,ys,rfl,hq,q⟩:=h
 obtain ⟨u,rfl,rx⟩:=vals1 r
 cases rx
 have hn:=nN
 rcases hq with hq | hq
 ·obtain ⟨its,r',pl,hz⟩:=I.list hq
  have hlen:=r'.length
  exact Calls.call_len_list pl.isList (by simp only[BZ] <;> omega) ⟨.int ys.length,H,I.tok _,⟨s.toks+1,by rw[BZ,hlen]⟩,q⟩
 ·obtain ⟨its,r',pl,hz⟩:=I.tuple hq
  have hlen:=r'.length
  exact len_tuple pl (by simp only[BZ] <;> omega) ⟨.int ys.length,H,I.tok _,⟨s.toks+1,by rw[BZ,hlen]⟩,q⟩
theorem aW:cM X (.type "tuple") (λxs H Q=>∃p ys,xs=[.ref p]/\((SqL X.K H p ys/\∀l,H l=none->Q (.ref l) (upd H l (.tup ys)))\/(SqT X.K H p ys/\Q (.ref p) H))):=by
 intro pins s σ H xs us Q I r h
 obtain ⟨p,ys,rfl,h⟩:=h
 obtain ⟨u,rfl,rx⟩:=vals1 r
 cases rx
 rcases h with ⟨hq,q⟩ | ⟨hq,q⟩
 ·obtain ⟨its,r',pl,hz⟩:=I.list hq
  have hlen:=r'.length
  refine call_tuple_list pl.isList (λh' kp =>?_) (by simp only[BZ] <;> omega)
  have I1:Inv X pins σ H { s with heap:=h' }:=I.kept (t':=s.toks) kp
  have I2:Inv X pins σ (upd H h'.objs.size (.tup ys)) { s with heap:=h'.push { cls :=.type "tuple",data :=.seq its.toArray } } :=
   I1.laid (t':=s.toks) (λb o e=>BO _ e) (BV _) (show bo X.prog X.w _ _ _ (.tup ys) from ⟨hz,its,r',dq.new _ _⟩)
  exact ⟨.ref h'.objs.size,_,I2,rfl,q _ (I1.hok.fresh (BV _))⟩
 ·obtain ⟨its,r',pl,hz⟩:=I.tuple hq
  exact call_tuple_same pl ⟨.ref p,H,I,rfl,q⟩
def tyV (K:BM)(T:String)(x:V)(H:Hp):Prop:=match x with
 | .str _=>T = "str"
 | .int _=>T = "int"
 | .ref p=>(T = "list" /\ ∃xs,SqL K H p xs)\/(T = "tuple" /\ ∃o,K.lookup p=some o/\o.cls = .type "tuple" /\ o.dict=none) ∨
   (T = "dict" /\ ((∃kvs,H p=some (.dK kvs))\/∃kvs,H p=some (.dT kvs)))\/(T = "set" /\ ∃S n,H p=some (.set S n))
 | _=>False
theorem zQ {pins:List (Addr×Obj)}{σ:St}{H:Hp}{s:BR}{T:String}{x:V}{v:BP}(I:Inv X pins σ H s)(r:RelV x v)(ty:tyV X.K T x H) :
  s.TypeIs v T/\∀a,v = .ref a->∃ob,s.heap.get? a=some ob/\ob.dict=none:=by
 cases x with
 | str z =>
  obtain ⟨t,rfl⟩:=r
  cases (show T = "str" from ty)
  exact ⟨typeIs_str s z t,λ_ e=>nomatch e⟩
 | int i =>
  obtain ⟨t,rfl⟩:=r
  cases (show T = "int" from ty)
  exact ⟨typeIs_int s i t,λ_ e=>nomatch e⟩
 | ref p =>
  cases r
  rcases ty with ⟨rfl,xs,hq⟩ | ⟨rfl,o,hk,hc,hd⟩ | ⟨rfl,hk⟩ | ⟨rfl,S,n,hk⟩
  ·obtain ⟨its,_,pl,_⟩:=I.list hq
   refine ⟨pl.isList.typeIs,λa e =>?_⟩
   cases e
   obtain ⟨o,n,e,c,hd,_⟩:=pl
   exact ⟨o,e,hd⟩
  ·refine ⟨⟨o,I.kIn p o hk,hc⟩,λa e =>?_⟩
   cases e
   exact ⟨o,I.kIn _ o hk,hd⟩
  ·have z:∃o,s.heap.get? p=some o/\o.ExactDict:=by
    rcases hk with ⟨kvs,hk⟩ | ⟨kvs,hk⟩
    ·obtain ⟨_,_,_,_,o,_,_,e,ex,_⟩:=I.hok p _ hk
     exact ⟨o,e,ex⟩
    ·obtain ⟨_,_,_,_,o,_,_,e,ex,_⟩:=I.hok p _ hk
     exact ⟨o,e,ex⟩
   obtain ⟨o,e,ex⟩:=z
   refine ⟨⟨o,e,ex.1⟩,λa e2 =>?_⟩
   cases e2
   exact ⟨o,e,ex.2.1⟩
  ·obtain ⟨o,_,_,_,e,ex,_⟩:=I.hok p _ hk
   refine ⟨⟨o,e,ex.1⟩,λa e2 =>?_⟩
   cases e2
   exact ⟨o,e,ex.2.1⟩
 | _=>exact False.elim ty
def tBM (K:BM)(T:String)(r:V->List V->Hp->VK->Prop)(to:TE)(t:TA):TE:=λσ H Q=>to σ H λx H1=>tyV K T x H1/\t σ H1 λxs H2=>r x xs H2 Q
variable  {o e:Expr}{es:List Expr}{to:TE}{t:TA}{name:Str}{apos cpos:Pos}{T id:String}{r:V->List V->Hp->VK->Prop}
theorem fY (pa:PlainAttrs T)(slot:Slot T name id)(hty:typeOf (.builtin id)=pure (.type "method_descriptor"))(hm:MtR X id r)(ho:PE X o to)(ha:PA X (e :: es) t)
  (hbase:attributeBase o name X.env (eval o X.env)=eval o X.env:=by rfl)
  (hfew:((Fi cpos (CO (e :: es) X.env)).all (λx => !x.1) && (backToKw cpos (keywordEach [] X.env)).all (λx=>x.1.isSome)
   && decide ((e :: es).length+([]:List Keyword).length+(if ([]:List Keyword).isEmpty then 0 else 1)<30))=true:=by rfl)
  (hline:(apos.endLine == cpos.line)=true:=by rfl) (hs:CO (e :: es) X.env=(false,eval e X.env) :: CO es X.env:=by rfl) (hplain:(Fi cpos (CO es X.env)).any (·.1)=false:=by rfl) :
  PE X (.Call (.Attribute o name apos) (e :: es) [] cpos) (tBM X.K T r to t):=by
 intro pins s σ H Q I h
 refine wpAny_Call_method_late hbase hfew hline rfl (thn (ho pins s σ H _ I h) λv s1 ⟨x,H1,I1,r1,ty,q1⟩ =>?_)
 obtain ⟨h1,h2⟩:=zQ I1 r1 ty
 refine ⟨T,id,pa,slot,hty,h1,h2,?_⟩
 have hA:=ha cpos pins s1 σ H1 _ I1 q1
 rw[hs] at hA ⊢
 refine FY (by show (false || (Fi cpos (CO es X.env)).any (·.1))=false;rw[hplain] <;> rfl) (Gu ?_)
 exact thn hA λus s2 ⟨vs,H2,I2,r2,q2⟩=>hm pins s2 σ H2 x vs v us Q I2 r1 r2 q2
end
open PySem PySem.Spec PyProof.Rows
def MtM (X:Cx)(id:String)(r:V->List V->Hp->VK->Prop):Prop :=
 ∀(pins:List (Addr×Obj)) (s:BR) (σ:St) (H:Hp) (x:V) (xs:List V) (v:BP) (us:List BP) (Q:VK),Inv X pins σ H s->RelV x v->Vals xs us->r x xs H Q →
  Cb (Cn X.prog X.w) X.A (call (.builtin id) (v :: us)) (EP X pins σ Q) X.xe s
theorem Vals.one:∀{x:V} {us:List BP},Vals [x] us->∃u,us=[u]/\RelV x u
 | _,_,.cons r .nil=>⟨_,rfl,r⟩
theorem Vals.reverse {xs:List V}{us:List BP}(h:Vals xs us):Vals xs.reverse us.reverse:=by
 induction h with
 | nil=>exact .nil
 | cons r t ih=>rw[F1,F1];exact Vals.append ih (.cons r .nil)
section
variable  {X:Cx}{pins:List (Addr×Obj)}{σ:St}{H:Hp}{s:BR}{l b:Addr}{xs ys zs:List V}
theorem Inv.lset {its its':List BP}{n:Nat}{f:Array BP->Array BP}{t':Nat}(I:Inv X pins σ H s)(hH:H l=some (.lst xs))
  (e:s.heap.get? l=some { cls :=.type "list",data :=.seq its.toArray n }) (hf:f its.toArray=its'.toArray) (hv:Vals ys its') (hz:ys.length<=Ca) :
  Inv X pins σ (upd H l (.lst ys)) { s with heap:=s.heap.update l (C9 f),toks:=t' }:=by
 have q:=PySem.IsL.update e f
 rw[hf] at q
 refine I.write (x:=l) (e:=l) (by rw[hH];exact trivial) (.inl rfl) (λb' u hb hu=>(CV s.heap (C9 f) (DE hb)).trans hu) ⟨_,q⟩ ?_
 exact ⟨hz,its',_,hv,q⟩
theorem Inv.lnew {its:List BP}{t':Nat}(I:Inv X pins σ H s)(hv:Vals ys its)(hz:ys.length<=Ca) :
  Inv X pins σ (upd H s.heap.objs.size (.lst ys)) { s with heap:=s.heap.push { cls :=.type "list",data :=.seq its.toArray },toks:=t' } :=
 I.laid (λ_ _ q=>BO _ q) (BV _) ⟨hz,its,0,hv,BX _ rfl⟩
theorem Inv.fresh (I:Inv X pins σ H s):H s.heap.objs.size=none:=I.hok.fresh (BV _)
theorem Inv.lstM (I:Inv X pins σ H s)(hH:H l=some (.lst xs)):xs.length<=Ca/\∃(its:List BP) (n:Nat),Vals xs its/\xs.length=its.length/\s.heap.get? l=some { cls :=.type "list",data :=.seq its.toArray n }:=by
 obtain ⟨z,its,n,r,e⟩:=I.hok l _ hH
 exact ⟨z,its,n,r,r.length,e⟩
theorem vG {n:Nat}(h:n<=Ca):Builtin.List.listTooLong n=false:=by
 unfold Builtin.List.listTooLong
 exact decide_eq_false (by omega)
end
section
variable  {X:Cx}
def xR:V->List V->Hp->VK->Prop:=λx vs H Q=>∃l xs y,x = .ref l/\vs=[y]/\H l=some (.lst xs)/\xs.length<Ca/\Q .non (upd H l (.lst (xs++[y])))
theorem cg:MtM X "list.append" xR:=by
 intro pins s σ H x vs v us Q I rx rv h
 obtain ⟨l,xs,y,rfl,rfl,hH,hz,q⟩:=h
 cases rx
 obtain ⟨u,rfl,ru⟩:=rv.one
 obtain ⟨z,its,n,r,hl,e⟩:=I.lstM hH
 refine call_meets F.slot_list_append ⟨_,e,rfl⟩ F.entry_list_append (F.args_list_append_2 _ _) (PySem.list_append l its.toArray n u (by rw[BZ];omega)) ⟨e,?_⟩
 refine ⟨.non,_,I.lset (its':=its++[u]) hH e (by simp) (r.append (.cons ru .nil)) ?_,rfl,q⟩
 rw[BU,Df]
 omega
end
section
variable  {prog:B7}{w:CJ}{A:CK}{E:BP->BR->Prop}{s:BR}
end
section
variable  {X:Cx}
end
end L2
namespace Att
open PySem PySem.W PySem.Calls PyProof.Rows
theorem jN {P:Params}{h:Heap}:∀(ns:List Int) (vs:List BP),WellAll P h vs (ns.map WData.int)->D5 vs ns:=by
 intro ns
 induction ns with
 | nil =>
  intro vs w
  rw[Jq] at w
  cases w
  exact .nil
 | cons n ns ih =>
  intro vs w
  rw[Ci] at w
  cases w with
  | cons a b =>
   cases a
   exact .cons _ _ (ih _ b)
theorem uc {l:OpenLaw}{n:Nat}(hn:l.most=some n){P:Params}{h:Heap}{args:List WData}{vals:List BP}
  (hpre:l.row.toRowW.claim.pre args=true) (hwl:WellAll P h vals args) :
  ∃a vs ns,vals=[Cc a]/\args=[WData.list (ns.map WData.int)]/\h.get? a=some { cls :=.type "list",data :=.seq vs.toArray }/\D5 vs ns/\ns.length<=n:=by
 have hsh:WShape.hasAll [] args [.list .int]=true:=(pre_splitW hpre).1
 have hc:l.pre.holds [] { args:=args }=true:=(pre_splitW hpre).2
 obtain ⟨d,r,rfl,h1,h2⟩:=hasAllW_cons hsh
 obtain rfl:=hasAllW_nil h2
 obtain ⟨xs,rfl,h3⟩:=hasW_list h1
 obtain ⟨ns,rfl⟩:=items_int h3
 have hlen:ns.length<=n:=by
  unfold OpenLaw.pre at hc
  have h4:(WTm.not (.lt (.lit (.int (n:Int))) (.len (.arg 0)))).holds [] { args:=[.list (ns.map .int)] }=true:=by
   have h4:=(holds_andW hc).1
   rw[hn] at h4
   exact h4
  have h5:=condW_of h4 (w_not (w_lt w_lit (w_len_list (w_arg rfl))))
  rw[BQ] at h5
  refine Nat.le_of_not_lt λq =>?_
  have q':(n:Int)<((ns.length:Nat):Int):=by omega
  first
   | (rw[decide_eq_true q'] at h5;exact absurd h5 (by decide))
   | (simp at h5;omega)
 cases hwl with
 | cons w1 w2 =>
  cases w2
  cases w1 with
  | list ho hall=>exact ⟨_,_,ns,rfl,rfl,ho,jN ns _ hall,hlen⟩
theorem ud (l:OpenLaw)(args:List WData):l.row.toRowW.claim.post args (.bool true) args=true :=
 postW_of (r:=l.row.toRowW) (X:=(true == true))
  (show WShape.has [] (.bool true) .bool=true by first | rfl | decide | simp[WShape.has,WShape.arms,WShape.armsAll])
  (show (WTm.eq .res (.lit (.bool true))).value [] { args:=args,res:=some (.bool true),after:=args }=some (.bool (true == true)) from w_eq_bool (w_res rfl) w_lit) rfl
theorem oZ {l:OpenLaw}{n:Nat}{q:B7}{loose:List Str}{XP:(Str->Option BP)->Heap->Prop}{YP:CJ->Heap->Prop}{d:DefRec}
  (hn:l.most=some n) (hdf:d.params.defaults=[])
  (call:∀(w:CJ) (s₀ s₁:BR) (mg mb:Str->Option BP) (fa:Addr) (o:Obj) (pm cd doc:BP) (a:Addr) (vs:List BP) (ns:List Int),
   Ground q loose [] XP w s₀ mg mb s₁.heap->YP w s₁.heap →
   s₁.heap.get? fa=some o->o.data = .func (docDef d.name d.params d.body d.scope pm cd doc)->s₁.heap.CodeRec cd d.name->mg d.name=some (.ref fa) →
   s₁.heap.get? a=some { cls :=.type "list",data :=.seq vs.toArray }->D5 vs ns->ns.length<=n->s₁.gens = #[] →
   Hv (Cn l.prog w) callerA (.call (.ref fa) ⟨[.ref a],[]⟩) (λr s'=>r = .ok (.ret (.bool true))/\OldK s₁.heap s'.heap/\s'.os=s₁.os/\AllBare s'.gens) s₁) :
  WalkO q loose XP YP l.row.toRowW d [] (λf vs=>PySem.call f vs):=by
 intro w s₀ s₁ mg mb G Y fa o pm cd doc dV kV ho hd hcd hD hmg hg args vals as hpre hlay hrd hwl hlo
 obtain rfl:dV = .none:=Dflts.none hD hdf
 obtain rfl:kV = .none:=Dflts.noKw hD
 obtain ⟨a,vs,ns,rfl,rfl,hobj,hints,hlen⟩:=uc hn hpre hwl
 refine enter_call (Ff (call w s₀ s₁ mg mb fa o pm cd doc a vs ns G Y ho (fd_plain hd) hcd hmg hobj hints hlen hg) λr s' hq =>?_)
 obtain ⟨rfl,h2,h3,h4⟩:=hq
 exact ⟨.inl ⟨.bool true,.bool true,[],rfl,λ_=>rfl,.bool true,ud l _,λ_=>⟨List.Pairwise.nil,λ_ hm=>(nomatch hm)⟩⟩,h2,h3,h4⟩
section
variable  {prog:B7}{w:CJ}{A:CK}{E:BP->BR->Prop}{s:BR}{K:Frag}
def ledger (h:Heap)(L d:Addr):List (Addr×Obj):=(Dh h.objs.size).filterMap λa=>if a=L\/a=d then none else (h.get? a).map λo=>(a,o)
end
end Att
namespace L2
open PySem PySem.Spec PyProof.Rows
theorem iV:∀{vs:List BP} {ns:List Int},D5 vs ns->Vals (ns.map V.int) vs
 | _,_,.nil =>.nil
 | _,_,.cons n t h =>.cons ⟨t,rfl⟩ (iV h)
open PySem PySem.Spec PyProof.Rows
open PySem PySem.Spec PyProof.Rows
def bW (s:Stmt):Arguments:=match s with
 | .FunctionDef _ a _ _ _ _ _ _ _ _=>a
 | _=>{ posonlyargs:=[],args:=[],vararg:=none,kwonlyargs:=[],kw_defaults:=[],kwarg:=none,defaults:=[] }
def bH (s:Stmt):List Stmt:=match s with
 | .FunctionDef _ _ b _ _ _ _ _ _ _=>b
 | _=>[]
def aA (s:Stmt):Scope:=match s with
 | .FunctionDef _ _ _ _ _ _ sc _ _ _=>sc
 | _=>{ kind :=.function,names:=[],isGenerator:=false,isCoroutine:=false }
abbrev CX0:CXT:=λ_ _ _ _ _ _=>False
abbrev E0:XK:=λ_ _ _=>False
theorem Be {X:Cx}:Passes CX0 X E0:=λ_ _ _ _ _ _ _ h=>h.elim
structure Fun (K:BM)(x qual:Str)(st:Stmt)(f:Addr)(fd:CT):Prop where
 ex:∃(oc:BP) (od:Option Addr) (kV doc pm:BP) (an:Option Addr) (cdv ct:BP) (osl:Array (Option BP)),
  fd=PySem.W.fnOf x qual (bW st) (bH st) (aA st) .none kV doc pm an cdv ct/\K.lookup f=some ⟨oc,od,.func fd,osl⟩/\PySem.W.codeIn K cdv qual=true
 kp:PySem.W.keepIn K (.ref f)=true
section
variable  {P:B7}{w:CJ}{K:BM}{mg:Str->Option BP}{base:Heap}
theorem Fun.ok {x qual:Str}{st:Stmt}{f:Addr}{fd:CT}{N ps:List Str}{k:Nat}{sp:Sp}(F:Fun K x qual st f fd)(S:aV N ps (aA st))(len:∀vs H Q E,sp vs H Q E->vs.length=ps.length)
  (hbody:∀(cdv:BP) (A:CK) (outer:List Env) (s:BR) (H:Hp) (vs:List V) (Q:VK) (E:XK),bX k (A.deeper (envOfC qual (aA st) s.heap.objs.size f cdv))->sp vs H Q E →
   ∃t,PSs (gW CX0 P w K mg base N qual (aA st) f cdv A outer s H E).nox (bH st) t/\t { nx:=λ_ H'=>Q .non H',rt:=Q } (start N vs) H):bS P w K mg base CX0 (k+1) f fd ps sp:=by
 obtain ⟨oc,od,kV,doc,pm,an,cdv,ct,osl,rfl,lk,hcd⟩:=F.ex
 refine vB lk hcd S len λA outer s H vs Q E hr hsp =>?_
 obtain ⟨t,h,q⟩:=hbody cdv A outer s H vs Q E hr hsp
 exact ⟨t,h.nox,q⟩
theorem Fun.binds {x qual:Str}{st:Stmt}{f:Addr}{fd:CT}{ps:List Str}(F:Fun K x qual st f fd)
  (h:∀(kV doc pm:BP) (an:Option Addr) (cdv ct:BP) (us:List BP),us.length=ps.length->bindArgs (PySem.W.fnOf x qual (bW st) (bH st) (aA st) .none kV doc pm an cdv ct) ⟨us,[]⟩=pure (ps.zip us)):Binds K fd ps []:=by
 obtain ⟨oc,od,kV,doc,pm,an,cdv,ct,osl,rfl,lk,hcd⟩:=F.ex
 exact .all (h kV doc pm an cdv ct)
theorem gX {x qual:Str}{st:Stmt}{f:Addr}{oc:BP}{od an:Option Addr}{osl:Array (Option BP)}{kV doc pm cdv ct:BP}(l:K.lookup f=some ⟨oc,od,.func (PySem.W.fnOf x qual (bW st) (bH st) (aA st) .none kV doc pm an cdv ct),osl⟩)
  (c:PySem.W.codeIn K cdv qual=true) (k:PySem.W.keepIn K (.ref f)=true):Fun K x qual st f (PySem.W.fnOf x qual (bW st) (bH st) (aA st) .none kV doc pm an cdv ct):=⟨⟨oc,od,kV,doc,pm,an,cdv,ct,osl,rfl,l,c⟩,k⟩
end
theorem Bf {A:CK}{k:Nat}(hr:bX k A):A.units+1<cLine:=CG (Er (by decide:1<=64) _) hr.units
theorem ue {n:Nat}(h:n<=1000):n<Ca:=CG h (by decide)
section
variable  {X:Cx}
theorem pv (i:Nat){x:Str}{pos:Pos}(hN:X.N[i]? = some x:=by rfl)(hv:Vis X.env.scope x:=by first | exact Or.inl rfl | exact Or.inr (Or.inl rfl) | exact Or.inr (Or.inr rfl))(hd:(x == ("__debug__" : Str))=false:=by decide)
  (hcd:(x == ("__classdict__" : Str))=false:=by decide):PE X (.Name x pos) (zC i):=zD hN hv hd hcd
end
theorem bK {A B:Prop}(h:B):if false=true then A else B:=by
 rw[if_neg B2]
 exact h
theorem bN {A B:Prop}(h:A):if true=true then A else B:=by
 rw[if_pos rfl]
 exact h
theorem zR {c A B:Prop}[Decidable c](h1:c->A)(h2:¬ c->B):if c then A else B:=by
 by_cases h:c
 ·rw[if_pos h]
  exact h1 h
 ·rw[if_neg h]
  exact h2 h
def aB (H H':Hp):Prop:=∀b o,H b=some o->H' b=some o
theorem aB.refl (H:Hp):aB H H:=λ_ _ h=>h
theorem aB.trans {H H1 H2:Hp}(a:aB H H1)(b:aB H1 H2):aB H H2:=λc o h=>b c o (a c o h)
end L2
set_option maxHeartbeats 4000000
namespace L2
open PySem PySem.Spec PyProof.Rows
def o7 (on:List (Str×NameKind))(N:List Str)(sc:Scope)(N':List Str)(ix:List (Option Nat)):Bool :=
 decide (sc.kind = .function) &&
 sc.names.all (λy=>match y.2 with
  | .local=>decide (sc.names.lookup y.1=some .local)
  | .cell=>false
  | .free=>decide (on.lookup y.1=some .cell) || decide (on.lookup y.1=some .free)
  | _=>true) &&
 decide (ix.length=N'.length) &&
 (ix.zip N').all (λp=>match p.1 with
  | none=>true
  | some j=>decide (N[j]? = some p.2) && decide (sc.names.lookup p.2=some .free))
theorem de {ns:List (Str×NameKind)}{y:Str}{k:NameKind}(h:ns.lookup y=some k):(y,k)∈ns:=Ep h
structure fg (on:List (Str×NameKind))(N:List Str)(sc:Scope)(N':List Str)(ix:List (Option Nat)):Prop where
 kind:sc.kind = .function
 locs:∀y∈sc.names,y.2 = .local->sc.names.lookup y.1=some .local
 nocell:∀y∈sc.names,y.2 ≠ .cell
 frees:∀y∈sc.names,y.2 = .free->on.lookup y.1=some .cell\/on.lookup y.1=some .free
 len:ix.length=N'.length
 slot:∀(i j:Nat) (y:Str),ix[i]? = some (some j)->N'[i]? = some y->N[j]? = some y/\sc.names.lookup y=some .free
theorem fg.of {on:List (Str×NameKind)}{N:List Str}{sc:Scope}{N':List Str}{ix:List (Option Nat)}(h:o7 on N sc N' ix=true):fg on N sc N' ix:=by
 unfold o7 at h
 rw[CQ,CQ,CQ] at h
 obtain ⟨⟨⟨h1,h2⟩,h3⟩,h4⟩:=h
 rw[EB] at h2 h4
 refine ⟨of_decide_eq_true h1,λy hy e =>?_,λy hy e =>?_,λy hy e =>?_,of_decide_eq_true h3,λi j y e1 e2 =>?_⟩
 ·have q:=h2 y hy
  rw[e] at q
  exact of_decide_eq_true q
 ·have q:=h2 y hy
  rw[e] at q
  cases q
 ·have q:=h2 y hy
  rw[e] at q
  exact ((Es _ _).mp q).imp of_decide_eq_true of_decide_eq_true
 ·have q:=h4 (some j,y) (Cy (i:=i) (by rw[Hj];exact ⟨e1,e2⟩))
  dsimp only at q
  rw[CQ] at q
  exact ⟨of_decide_eq_true q.1,of_decide_eq_true q.2⟩
theorem jx {α β:Type}(f:α -> β -> β)(b:α -> β -> Sem (ForInStep β)):∀(l:List α) (c:β),(∀x∈l,∀d,b x d=pure (.yield (f x d)))->forIn l c b=pure (l.foldl (λd x=>f x d) c)
 | [],c,_=>rfl
 | x :: l,c,h=>by
  rw[Ia,h x B1,pure_bind]
  exact jx f b l (f x c) λy hy=>h y (B9 _ hy)
def aQ (env:Env)(l:List (Str×NameKind))(c:List (Str×Addr)):List (Str×Addr) :=
 l.foldl (λd y=>if y.2 = .free then (y.1,(env.cells.lookup y.1).getD 0) :: d else d) c
theorem kI {sc:Scope}{env:Env}(h:∀y∈sc.names,y.2 = .free->∃c,env.cells.lookup y.1=some c):closureFor sc env=pure (aQ env sc.names []):=by
 simp only[closureFor]
 unfold aQ
 rw[jx (λy d=>if y.2 = .free then (y.1,(env.cells.lookup y.1).getD 0) :: d else d)]
 ·rfl
 ·rintro ⟨n,k⟩ hy d
  by_cases hk:k = .free
  ·subst hk
   obtain ⟨c,e⟩:=h _ hy rfl
   have e':env.cells.lookup n=some c:=e
   simp only[beq_self_eq_true,if_true,cellOf,e',Option.getD_some]
   rfl
  ·have hb:(k == NameKind.free)=false:=by simpa using hk
   simp only[hb,Dl,if_false,hk]
theorem cS {env:Env}{y:Str}{c:Addr}:∀(l:List (Str×NameKind)) (d:List (Str×Addr)),(∀z∈l,z.2 = .free->∃c,env.cells.lookup z.1=some c)->(aQ env l d).lookup y=some c →
  d.lookup y=some c\/env.cells.lookup y=some c
 | [],d,_,h =>.inl h
 | (n,k) :: l,d,hf,h=>by
  have h':(aQ env l (if k = .free then (n,(env.cells.lookup n).getD 0) :: d else d)).lookup y=some c:=h
  have ih:=cS l _ (λz hz=>hf z (B9 _ hz)) h'
  by_cases hk:k = .free
  ·subst hk
   rw[if_pos rfl] at ih
   rcases ih with q | q
   ·rw[EY] at q
    cases hx:(y == n) with
    | true =>
     rw[hx] at q
     obtain ⟨c',e⟩:=hf (n,.free) B1 rfl
     have e':env.cells.lookup n=some c':=e
     have q':some ((env.cells.lookup n).getD 0)=some c:=q
     rw[e'] at q'
     have en:y=n:=eq_of_beq hx
     rw[en,e']
     exact .inr q'
    | false =>
     rw[hx] at q
     exact .inl q
   ·exact .inr q
  ·rw[if_neg hk] at ih
   exact ih
theorem cT {env:Env}{y:Str}:∀(l:List (Str×NameKind)) (d:List (Str×Addr)),((y,NameKind.free)∈l\/∃c,d.lookup y=some c)->∃c,(aQ env l d).lookup y=some c
 | [],d,h=>by
  rcases h with h | h
  ·cases h
  ·exact h
 | (n,k) :: l,d,h=>by
  show ∃c,(aQ env l (if k = .free then (n,(env.cells.lookup n).getD 0) :: d else d)).lookup y=some c
  refine cT l _ ?_
  have old:(∃c,d.lookup y=some c)->∃c,(if k = .free then (n,(env.cells.lookup n).getD 0) :: d else d).lookup y=some c:=λ⟨c,e⟩=>by
   by_cases hk:k = .free
   ·rw[if_pos hk,EY]
    cases hx:(y == n) with
    | true=>exact ⟨_,rfl⟩
    | false=>exact ⟨c,e⟩
   ·rw[if_neg hk];exact ⟨c,e⟩
  rcases h with h | h
  ·rcases Cw.mp h with q | q
   ·cases q
    rw[if_pos rfl,EY,beq_self_eq_true]
    exact .inr ⟨_,rfl⟩
   ·exact .inl q
  ·exact .inr (old h)
theorem kJ {c:Str->NameKind->Bool}{y:Str}:∀l:List (Str×NameKind),(l.map λz=>if c z.1 z.2=true then (z.1,NameKind.cell) else (z.1,z.2)).lookup y=(l.lookup y).map λk=>if c y k=true then NameKind.cell else k
 | []=>rfl
 | (n,k) :: l=>by
  have ih:=kJ (c:=c) (y:=y) l
  rw[Ci]
  have e:(if c n k=true then (n,NameKind.cell) else (n,k))=(n,if c n k=true then NameKind.cell else k):=by split <;> rfl
  show List.lookup y ((if c n k=true then (n,NameKind.cell) else (n,k)) :: _)=_
  rw[e,EY,EY]
  cases hx:(y == n) with
  | true =>
   have en:y=n:=eq_of_beq hx
   subst en
   rfl
  | false=>exact ih
def blk (X:Cx)(sc:Scope)(cl:List (Str×Addr))(C:Addr)(N':List Str)(s:BR)(H:Hp)(fp:List Addr):Cx :=
 { X with N:=N',s₀:=s,H₀:=H,env:=compEnvC sc cl C X.env,outer:=X.stack,ex:=fp,fn:=λ_=>false,pn:=[],xe:=λ_ _=>False }
def PF (X:Cx)(ifs:List Expr)(t:TT):Prop :=
  ∀(pins:List (Addr×Obj)) (s:BR) (σ:St) (H:Hp) (Q:Bool->Hp->Prop),Inv X pins σ H s->t σ H Q →
    Cb (Cn X.prog X.w) X.A (forIn ifs true λc r=>if r=true then do let ok ← isTrue c X.env (eval c X.env);pure (ForInStep.yield ok) else pure (ForInStep.yield r)) (TP X pins σ Q) X.xe s
theorem eC {X:Cx}:PF X [] (λ_ H Q=>Q true H):=λ_ _ _ H _ I h=>wpAny_tests_nil ⟨H,I,h⟩
theorem dt {X:Cx}{c:Expr}{t:TT}(h:PT X c t):PF X [c] t:=λpins s σ H Q I q=>wpAny_tests_one (h pins s σ H Q I q)
def inner (ix:List (Option Nat))(σ:St):St:=ix.map λo=>match o with | none=>none | some j=>(σ[j]?).join
def fL (J:It)(g:TG)(tc:TT)(te:TE)(τ:St)(Q:VK)(H1:Hp):Prop:=∃W:Nat->Nat->St->List V->Hp->Prop,(∃m,W 0 m τ [] H1)/\∀i m τ ys H,W i m τ ys H →
 (J.stop i H/\ys.length<=Ca/\∀l,H l=none->Q (.ref l) (upd H l (.lst ys))) ∨
 (J.go i H/\∀x H',J.yld i H x H'->g x τ H' λτ2 H2=>tc τ2 H2 λb H3=>if b=true then te τ2 H3 λy H4=>ys.length<Ca/\∃m',m'<m/\W (i+1) m' τ2 (ys++[y]) H4 else ∃m',m'<m/\W (i+1) m' τ2 ys H3)
def vH (ix:List (Option Nat))(wi:TI)(g:TG)(tc:TT)(te:TE):TE:=λσ H Q=>wi σ H λJ H1=>fL J g tc te (inner ix σ) Q H1
section
variable  {X:Cx}{sc:Scope}{N':List Str}{ix:List (Option Nat)}{pins:List (Addr×Obj)}{σ:St}{H:Hp}{s:BR}
theorem zS (I:Inv X pins σ H s)(K:fg X.env.scope.names X.N sc N' ix){C:Addr}{fp:List Addr}(hC:s.heap.objs.size<=C)(f:∀b∈fp,jL X pins H b)(fl:∀b∈fp,b<s.heap.objs.size) :
  (blk X sc (aQ X.env sc.names []) C N' s H fp).Ok:=by
 have hcl:∀y∈sc.names,y.2 = .free->∃c,X.env.cells.lookup y.1=some c:=λy hy e=>I.ok.has y.1 (K.frees y hy e)
 have up:∀y c,(aQ X.env sc.names []).lookup y=some c->X.env.cells.lookup y=some c:=λy c e=>by
  rcases cS sc.names [] hcl e with q | q
  ·cases q
  ·exact q
 have nfs:∀b∈fp,b∉frs X.stack:=λb hb z=>by
  rcases Cw.mp (I.nI b z) with q | q
  ·exact (f b hb).2.1 q
  ·exact (f b hb).2.2.1 q
 refine ⟨I.ok.mod,K.kind,I.ok.glob,I.ok.blt,hC,λy z c h1 h2=>I.ok.inj y z c (up _ _ h1) (up _ _ h2),λy hy =>?_,(λy c h=>nomatch h),I.ok.hd,I.ok.frames,.inl rfl,λb hb =>?_,λb o e=>I.bs b o e,Cq I.ok.bsz I.sz,λb o e hb =>?_,nfs,I.stack,I.jW⟩
 ·have hy':(relabel sc X.env).names.lookup y=some .cell\/(relabel sc X.env).names.lookup y=some .free:=hy
  have em:=kJ (c:=λn k=>k == .free && X.env.scope.kind == .function && X.env.kindOf n == some .cell) (y:=y) sc.names
  have em':(relabel sc X.env).names.lookup y=_:=em
  rw[em'] at hy'
  cases hq:sc.names.lookup y with
  | none=>rw[hq] at hy';rcases hy' with q | q <;> cases q
  | some k =>
   have km:=de hq
   have hk:k = .free:=by
    rw[hq] at hy'
    simp only[Et,Jg] at hy'
    by_cases hc:(k == .free && X.env.scope.kind == .function && X.env.kindOf y == some .cell)=true
    ·rw[CQ,CQ] at hc
     exact by simpa using hc.1.1
    ·rw[if_neg hc] at hy'
     rcases hy' with q | q
     ·exact absurd q (K.nocell _ km)
     ·exact q
   subst hk
   exact cT sc.names [] (.inl km)
 ·exact ⟨Cp (B8 (fl b hb) hC),λy c e=>(f b hb).2.2.2.2.1 y c (up y c e)⟩
 ·rcases (f b hb).2.2.2.1 with q | q
  ·exact I.ok.noex b o e q
  ·exact absurd (B8 (BW e) (Cq I.ok.bsz q)) (Dc _)
theorem xS (I:Inv X pins σ H s)(K:fg X.env.scope.names X.N sc N' ix){C:Addr}{fp:List Addr}(hC:s.heap.objs.size<=C)(f:∀b∈fp,jL X pins H b)(fl:∀b∈fp,b<s.heap.objs.size)
  {h1:Heap} {t:Nat} {m:Str->Option BP} (k:∀b o,s.heap.get? b=some o->h1.get? b=some o) (ns:h1.Ns C m) :
  Inv (blk X sc (aQ X.env sc.names []) C N' s H fp) [] (inner ix σ) H { s with heap:=h1,toks:=t }:=by
 have hcl:∀y∈sc.names,y.2 = .free->∃c,X.env.cells.lookup y.1=some c:=λy hy e=>I.ok.has y.1 (K.frees y hy e)
 have up:∀y c,(aQ X.env sc.names []).lookup y=some c->X.env.cells.lookup y=some c:=λy c e=>by
  rcases cS sc.names [] hcl e with q | q
  ·cases q
  ·exact q
 refine ⟨zS I K hC f fl,rfl,I.bare,Un.kept k,⟨m,ns,λi y v e1 e2 e3 =>?_⟩,λy c e =>?_,I.hok.fresh hC,λy c e=>I.freeC y c (up y c e),(λp hp=>nomatch hp),I.hok.kept k,?_⟩
 ·have e2':(ix.map λo=>match o with | none=>none | some j=>(σ[j]?).join)[i]? = some (some v):=e2
  rw[CA] at e2'
  cases hi:ix[i]? with
  | none=>rw[hi] at e2';cases e2'
  | some o =>
   cases o with
   | none=>rw[hi] at e2';cases e2'
   | some j =>
    rw[hi] at e2'
    have e4:(σ[j]?).join=some v:=Cv e2'
    have e5:σ[j]? = some (some v):=by
     cases hj:σ[j]? with
     | none=>rw[hj] at e4;cases e4
     | some z=>rw[hj] at e4;rw[show z=some v from e4]
    obtain ⟨n1,n2⟩:=K.slot i j y hi e1
    have mem:=de n2
    have kc:X.env.kindOf y=some .cell\/X.env.kindOf y=some .free:=K.frees _ mem rfl
    obtain ⟨m',_,hl⟩:=I.loc
    obtain ⟨u,r,l⟩:=hl j y v n1 e5 (.inr kc)
    refine ⟨u,r,?_⟩
    rcases l with ⟨q,_⟩ | ⟨_,c,q,z⟩
    ·rcases kc with kc | kc <;> (rw[kc] at q;cases q)
    ·obtain ⟨c',hc'⟩:=cT (env:=X.env) (y:=y) sc.names [] (.inl mem)
     have:=up y c' hc'
     rw[q] at this
     cases this
     refine .inr ⟨?_,c,hc',z.keeps k⟩
     have em:=kJ (c:=λn k=>k == .free && X.env.scope.kind == .function && X.env.kindOf n == some .cell) (y:=y) sc.names
     have em':(relabel sc X.env).names.lookup y=_:=em
     rcases kc with kc | kc
     ·left
      show (relabel sc X.env).names.lookup y=some .cell
      rw[em',n2]
      simp only[Et,kc,I.ok.kind]
      rfl
     ·right
      show (relabel sc X.env).names.lookup y=some .free
      rw[em',n2]
      simp only[Et,kc,I.ok.kind]
      rfl
 ·obtain ⟨v,z⟩:=I.cell y c (up y c e)
  exact ⟨v,z.keeps k⟩
 ·show (ix.map _).length=N'.length
  rw[BQ]
  exact K.len
end
open PySem PySem.Spec PyProof.Rows
theorem qM {prog:B7}{w:CJ}{A:CK}{R:Result->BR->Prop}{s:BR}{elt target iter:Expr}{ifs:List Expr}{sc:Scope}{pos:Pos}{it acc:BP}{env:Env}(J:Nat->BR->Prop)
    (turn:∀n s,J n s->Cb (Cn prog w) A (pyNext it) (λr s1=>match r with
      | none=>R (.ok .next) s1
      | some v=>Cb (Cn prog w) A (letOwnedTupleGo target it v) (λ_ s2=>Cb (Cn prog w) A (assign target env v) (λ_ s3 =>
          Cb (Cn prog w) A (forIn ifs true λc r=>if r=true then do let ok ← isTrue c env (eval c env);pure (ForInStep.yield ok) else pure (ForInStep.yield r)) (λok s4 =>
            if ok=true then Cb (Cn prog w) A (eval elt env) (λx s5=>Cb (Cn prog w) A (call (.builtin "list.append") [acc,x]) (λ_ s6=>∃m,m<n/\J m s6) (λ_ _=>False) s5) (λ_ _=>False) s4
            else ∃m,m<n/\J m s4) (λ_ _=>False) s3) (λ_ _=>False) s2) (λ_ _=>False) s1) (λ_ _=>False) s)
    (n:Nat) (h:J n s):Hv (Cn prog w) A (.compLoop (.ListComp elt [⟨target,iter,ifs,0⟩] sc pos) 0 it acc env) R s:=by
  refine codeAny_loop rfl J (λk t q =>?_) n h
  show Cb _ A (Sem.onRaise (compTurn (.ListComp elt [⟨target,iter,ifs,0⟩] sc pos) 0 it acc env) (λx=>do noteFrame x env;theTreesLotGoes x)) _ _ t
  refine wpAny_noted ?_
  rw[compTurn_list]
  have no:∀{E:BP->BR->Prop} (x:BP) (t:BR),False->E x t:=λ_ _ z=>z.elim
  refine BN (FR (BN (C5 (turn k t q) (λr s1 h1 =>?_) no)))
  cases r with
  | none=>exact BS h1
  | some v =>
    refine BN (C5 h1 (λ_ s2 h2=>BN (C5 h2 (λ_ s3 h3=>BN (C5 h3 (λok s4 h4 =>?_) no)) no)) no)
    cases ok with
    | false=>exact BS ⟨rfl,h4⟩
    | true=>exact BN (BN (C5 h4 (λx s5 h5=>BN (C5 h5 (λ_ s6 h6=>BS (BS ⟨rfl,h6⟩)) no)) no))
section
variable  {X:Cx}
def xT (X:Cx)(pins:List (Addr×Obj))(σ:St)(Q:VK)(use:Option (BP->Sem Unit))(Q2:BP->BR->Prop):Prop :=
 ∀(s4:BR) (H3:Hp) (acc C:Addr) (ys:List V) (oC:Obj),Inv X (pins++[(C,oC)]) σ (upd H3 acc (.lst ys)) s4->(∃m,s4.heap.Ns C m)->X.s₀.heap.objs.size<=C->(∀x c,X.env.cells.lookup x=some c->c≠C)->(∀p∈X.pn++pins,p.1≠C)->Q (.ref acc) (upd H3 acc (.lst ys)) →
  compPost (Cn X.prog X.w) X.A X.xe use Q2 (.ref acc) C (.ok .next) s4
theorem mD {elt target iter:Expr}{ifs:List Expr}{sc:Scope}{pos ps:Pos}{wi:TI}{g:TG}{tc:TT}{te:TE}{N':List Str}{ix:List (Option Nat)}{use:Option (BP->Sem Unit)}{Q2:BP->BR->Prop}
  {pins:List (Addr×Obj)} {s:BR} {σ:St} {H:Hp} {Q:VK}
  (hcalm:X.calm=true) (hi:PI X target iter wi) (hk:o7 X.env.scope.names X.N sc N' ix=true)
  (hg:∀cl C s H fp,PG (blk X sc cl C N' s H fp) target g) (hc:∀cl C s H fp,PF (blk X sc cl C N' s H fp) ifs tc) (he:∀cl C s H fp,PE (blk X sc cl C N' s H fp) elt te)
  (hs:∀x,foldedSetIterable iter X.env x=pure x) (fin:xT X pins σ Q use Q2) (I:Inv X pins σ H s) (h:vH ix wi g tc te σ H Q) :
  Cb (Cn X.prog X.w) X.A (comprehension (.ListComp elt [⟨target,iter,ifs,0⟩] sc pos) sc X.env ps (newList []) false (eval iter X.env) use) Q2 X.xe s:=by
 have K:=fg.of hk
 have hcl:∀y∈sc.names,y.2 = .free->∃c,X.env.cells.lookup y.1=some c:=λy hy e=>I.ok.has y.1 (K.frees y hy e)
 refine wpAny_comprehension_free rfl hs (kI hcl) K.kind K.locs (thn (hi pins s σ H _ I h) λv s1 h1=>thn h1 λitv s2 h2 =>?_)
 obtain ⟨it,fp,tn,J,H2,e,I2,T,st2,f2,W,⟨m0,w0⟩,turn⟩:=h2
 subst e
 refine CM (Iy K.nocell (by intro y hy;simp at hy) (λh1 ns1 sb1 =>?_) K.kind)
 dsimp only at ns1 sb1 ⊢
 generalize hP:s2.heap.push { cls :=.type "list",dict:=none,data :=.seq ([]:List BP).toArray }=G at ns1 sb1 ⊢
 have sG:G.objs.size=s2.heap.objs.size+1:=by rw[<- hP,EF]
 have fl:∀b∈fp,b<s2.heap.objs.size:=λb hb=>by
  obtain ⟨o,e,_⟩:=T.obj _ _ st2 b hb
  exact BW e
 have hC:s2.heap.objs.size<=G.objs.size:=by rw[sG];exact F3 _
 have aC:s2.heap.objs.size≠G.objs.size:=by rw[sG];exact Cp (Gi _)
 have old:∀b o,s2.heap.get? b=some o->h1.get? b=some o:=λb o e=>by
  have lt:=BW e
  have ne:b≠G.objs.size:=Cp (B8 lt hC)
  rw[sb1.2 b ne]
  exact BO _ (hP ▸ BO _ e)
 have accO:h1.PlainList s2.heap.objs.size #[]:=⟨_,by
  rw[sb1.2 _ aC]
  exact BO _ (hP ▸ BX _ rfl)⟩
 have IB:=xS (t:=s2.toks+([]:List (Str×BP)).length) I2 K hC f2 fl old ns1
 have up:∀y c,(aQ X.env sc.names []).lookup y=some c->X.env.cells.lookup y=some c:=λy c e=>by
  rcases cS sc.names [] hcl e with q | q
  ·cases q
  ·exact q
 have accNotCell:∀y c,(aQ X.env sc.names []).lookup y=some c->c≠s2.heap.objs.size:=λy c e z=>by
  obtain ⟨v,q⟩:=I2.cell y c (up y c e)
  exact absurd q.lt (by rw[z];exact Dc _)
 have accFs:s2.heap.objs.size∉frs X.stack:=λz=>by
  rcases Cw.mp (I2.nI _ z) with q | q
  ·exact absurd I2.lt (by rw[<- q];exact Dc _)
  ·exact I2.xF (BV _) q
 have accFp:s2.heap.objs.size∉fp:=λz=>absurd (fl _ z) (Dc _)
 have stat:∀{H':Hp} {ob:Obj},(∀b∈fp,H' b=none)->∀b∈fp,jL (blk X sc (aQ X.env sc.names []) G.objs.size N' s2 H2 fp) [(s2.heap.objs.size,ob)] H' b:=λ{H' ob} hn b hb=>by
  refine ⟨hn b hb,Cp (B8 (fl b hb) hC),IB.ok.exfs b hb,.inl hb,λy c e=>(f2 b hb).2.2.2.2.1 y c (up y c e),λp hp z =>?_⟩
  have ep:p=(s2.heap.objs.size,ob):=by simpa [blk] using hp
  subst ep
  exact accFp (by rw[show s2.heap.objs.size=b from z];exact hb)
 have accPin:∀{pl:List (Addr×Obj)} {σ':St} {H':Hp} {s':BR} {its:Array BP} {n:Nat},Inv (blk X sc (aQ X.env sc.names []) G.objs.size N' s2 H2 fp) pl σ' H' s'->s'.heap.get? s2.heap.objs.size=some { cls :=.type "list",data :=.seq its n } →
   H' s2.heap.objs.size=none->Inv (blk X sc (aQ X.env sc.names []) G.objs.size N' s2 H2 fp) [(s2.heap.objs.size,{ cls :=.type "list",data :=.seq its n })] σ' H' s':=λ{pl σ' H' s' its n} J' e nn=>J'.eZ λp hp=>by
  have ep:p=(s2.heap.objs.size,({ cls :=.type "list",data :=.seq its n }:Obj)):=by simpa [blk] using hp
  subst ep
  exact ⟨e,nn,aC,accFs,λv z=>nomatch z⟩
 have loop:Hv (Cn X.prog X.w) X.A (.compLoop (.ListComp elt [⟨target,iter,ifs,0⟩] sc pos) 0 (.ref it) (.ref s2.heap.objs.size) (compEnvC sc (aQ X.env sc.names []) G.objs.size X.env))
   (compPost (Cn X.prog X.w) X.A X.xe use Q2 (.ref s2.heap.objs.size) G.objs.size) { s2 with heap:=h1,toks:=s2.toks+([]:List (Str×BP)).length }:=by
  refine qM (λn s'=>∃i ys its nn σ' H',Inv (blk X sc (aQ X.env sc.names []) G.objs.size N' s2 H2 fp) [(s2.heap.objs.size,{ cls :=.type "list",data :=.seq its nn })] σ' H' s'/\Vals ys its.toList/\tn i s'.heap/\(∀b∈fp,H' b=none)/\W i n σ' ys H')
   (λn s3 h3 =>?_) m0 ?_
  ·obtain ⟨i,ys,its,nn,σ3,H3,I3,r3,st3,fr3,w3⟩:=h3
   obtain ⟨e3,a3,_,_,_⟩:=I3.pin (s2.heap.objs.size,{ cls :=.type "list",data :=.seq its nn }) (by simp[blk])
   rcases turn i n σ3 ys H3 w3 with ⟨stop,zl,q3⟩ | ⟨go,step⟩
   ·refine thn (T.done (blk X sc (aQ X.env sc.names []) G.objs.size N' s2 H2 fp) rfl rfl rfl hcalm i _ s3 σ3 H3 _ I3 (stat fr3) st3 stop) λr s4 ⟨hr,I4⟩ =>?_
    subst hr
    obtain ⟨e4,a4,_,_,_⟩:=I4.pin (s2.heap.objs.size,{ cls :=.type "list",data :=.seq its nn }) (by simp[blk])
    obtain ⟨m4,n4,_⟩:=I4.loc
    obtain ⟨oC,es4,ep4,c4,d4,r4⟩:=id n4
    have ltA:∀b o,s2.heap.get? b=some o->b≠s2.heap.objs.size:=λb o e=>Cp (BW e)
    have B:=I4.base
    have hok:HOk X.prog X.w (upd H3 s2.heap.objs.size (.lst ys)) s4.heap:=λb o e=>by
     by_cases hb:b=s2.heap.objs.size
     ·subst hb
      rw[af] at e
      cases e
      exact ⟨zl,its.toList,nn,r3,e4⟩
     ·rw[ax hb] at e
      refine (I4.hok b o e).fV (λc u hc q=>q) (λc q =>?_) (λc xs q =>?_)
      ·rw[ax (aF q a4)];exact q
      ·rw[ax (aF q a4)];exact q
    have I5:Inv X pins σ (upd H3 s2.heap.objs.size (.lst ys)) s4:=by
     refine I2.vm (ch:=fp) I4.os ⟨λb o e n hb hx=>B.keep b o e n hb hx,λb o e n hb hx=>B.slot b o e n hb hx,λb o e n hx =>?_,λb o e hx=>B.there b o e hx,λb xs e =>?_,λb o u e =>?_,λb ps e =>?_⟩ hok I4.bare (λb hb =>?_)
     ·rw[ax (ltA b o e)];exact B.free b o e n hx
     ·have q:=B.tups b xs e
      rw[ax (aF q a4)];exact q
     ·have q:=B.frzs b o u e
      rw[ax (aF q a4)];exact q
     ·obtain ⟨more,q⟩:=B.tbls b ps e
      exact ⟨more,by rw[ax (aF q a4)];exact q⟩
     ·obtain ⟨g0,g1,g2,g3,g4,g5⟩:=f2 b hb
      exact ⟨g3,g1,g4,g5⟩
    have cL:G.objs.size≠X.env.locals:=E6 (B8 I2.lt hC)
    have I6:Inv X (pins++[(G.objs.size,oC)]) σ (upd H3 s2.heap.objs.size (.lst ys)) s4:=I5.eZ λp hp=>by
     rcases B5.mp hp with q | q
     ·exact I5.pin p (Cu _ q)
     ·have ep:p=(G.objs.size,oC):=by simpa using q
      subst ep
      exact ⟨c4,by rw[ax (DE aC)];exact I4.free,cL,I2.xF hC,λv z=>by rw[d4] at z;cases z⟩
    refine fin s4 H3 s2.heap.objs.size G.objs.size ys oC I6 ⟨m4,n4⟩ (Cq I2.sz hC) (λy c e z =>?_) (λp hp z =>?_) (q3 _ a4)
    ·obtain ⟨v,q⟩:=I2.cell y c e
     exact absurd (B8 q.lt hC) (by rw[z];exact Dc _)
    ·exact absurd (B8 (BW (I2.pin p hp).1) hC) (by rw[z];exact Dc _)
   ·refine thn (T.item (blk X sc (aQ X.env sc.names []) G.objs.size N' s2 H2 fp) rfl rfl rfl hcalm i _ s3 σ3 H3 _ I3 (stat fr3) st3 go) λr s4 ⟨u,hr,h4⟩ =>?_
    subst hr
    refine thn h4 λ_ s5 ⟨x,H5,I5,r5,y5,st5,fr5⟩ =>?_
    have I5':=I5.pinned (stat fr5) (T.obj _ _ st5)
    refine thn (hg _ _ _ _ _ _ s5 σ3 H5 x u _ I5' r5 (step x H5 y5)) λ_ s6 ⟨σ6,H6,I6,q6⟩ =>?_
    refine thn (hc _ _ _ _ _ _ s6 σ6 H6 _ I6 q6) λok s7 ⟨H7,I7,q7⟩ =>?_
    have back:∀{σ7:St} {H7:Hp} {s7:BR},Inv (blk X sc (aQ X.env sc.names []) G.objs.size N' s2 H2 fp) ([(s2.heap.objs.size,{ cls :=.type "list",data :=.seq its nn })]++gU fp s5.heap) σ7 H7 s7->tn (i+1) s7.heap/\∀b∈fp,H7 b=none:=λJ7 =>
     ⟨T.keep _ _ _ st5 λb hb o e=>(J7.pin (b,o) (Cu _ (Cu _ (dG hb e)))).1,λb hb=>by
      obtain ⟨o,e,d⟩:=T.obj _ _ st5 b hb
      exact (J7.pin (b,o) (Cu _ (Cu _ (dG hb e)))).2.1⟩
    cases ok with
    | false =>
     rw[if_neg (by decide)] at q7
     obtain ⟨m',lm,w7⟩:=q7
     show ∃m,m<n/\_
     exact ⟨m',lm,i+1,ys,its,nn,σ6,H7,I7.eR,r3,(back I7).1,(back I7).2,w7⟩
    | true =>
     rw[if_pos rfl] at q7
     refine thn (he _ _ _ _ _ _ s7 σ6 H7 _ I7 q7) λz s8 ⟨y,H8,I8,r8,lz,m',lm,w8⟩ =>?_
     obtain ⟨e8,a8,_,_,_⟩:=I8.pin (s2.heap.objs.size,{ cls :=.type "list",data :=.seq its nn }) (by simp[blk])
     have sz:its.size<=Ca:=by
      have l:ys.length=its.size:=r3.length.trans B0
      rw[<- l]
      exact FF lz
     refine wpAny_list_append_plain ⟨nn,e8⟩ (λh' pl' sb' =>?_) sz
     obtain ⟨n9,e9⟩:=pl'
     have I8p:Inv (blk X sc (aQ X.env sc.names []) G.objs.size N' s2 H2 fp) (gU fp s5.heap) σ6 H8 s8:=I8.eZ λp hp=>I8.pin p (Cu _ (Cu _ hp))
     have I9:=I8p.turned (it:=s2.heap.objs.size) (h':=h') (t':=s8.toks) (λb o ne e=>by rw[sb'.2 b ne];exact e) a8 aC (.inr (BV _)) (λy c e=>accNotCell y c e) (λp hp z=>by
      have hp':p∈gU fp s5.heap:=by simpa [blk] using hp
      exact accFp (by rw[<- z];exact (me hp').1))
     have b9:tn (i+1) h'/\∀b∈fp,H8 b=none :=
      ⟨T.keep _ _ _ st5 λb hb o e=>(I9.pin (b,o) (Cu _ (dG hb e))).1,(back I8).2⟩
     exact ⟨m',lm,i+1,ys++[y],its.push z,n9,σ6,H8,accPin I9 e9 a8,by rw[EK];exact r3.append (.cons r8 .nil),b9.1,b9.2,w8⟩
  ·obtain ⟨n0,e0⟩:=accO
   exact ⟨0,[], #[],n0,_,H2,accPin IB e0 (I2.hok.fresh (BV _)),.nil,T.keep _ _ _ st2 λb hb o e=>old b o e,λb hb=>(f2 b hb).1,w0⟩
 exact codeAny_compStart_list loop (T.self _ 0 _ _ _ (T.keep _ _ _ st2 λb hb o e=>old b o e) loop)
theorem cy {elt target iter:Expr}{ifs:List Expr}{sc:Scope}{pos:Pos}{wi:TI}{g:TG}{tc:TT}{te:TE}(N':List Str)(ix:List (Option Nat))
  (hcalm:X.calm=true) (hi:PI X target iter wi) (hk:o7 X.env.scope.names X.N sc N' ix=true)
  (hg:∀cl C s H fp,PG (blk X sc cl C N' s H fp) target g) (hc:∀cl C s H fp,PF (blk X sc cl C N' s H fp) ifs tc) (he:∀cl C s H fp,PE (blk X sc cl C N' s H fp) elt te)
  (hs:∀x,foldedSetIterable iter X.env x=pure x:=by intro _;rfl):PE X (.ListComp elt [⟨target,iter,ifs,0⟩] sc pos) (vH ix wi g tc te):=by
 intro pins s σ H Q I h
 rw[eval_ListComp]
 refine mD hcalm hi hk hg hc he hs (λs4 H3 acc C ys oC I4 ns hC hc hp q =>?_) I h
 obtain ⟨m,ns⟩:=ns
 refine ⟨m,ns,λh' sb=>⟨.ref acc,_,?_,rfl,q⟩⟩
 obtain ⟨_,n0,n1,n2,_⟩:=I4.pin (C,oC) (by simp)
 exact (I4.eR).turned (it:=C) (h':=h') (t':=s4.toks) (λb o ne e=>by rw[sb.2 b ne];exact e) n0 n1 (.inr hC) hc hp
theorem cB {elt target iter:Expr}{ifs:List Expr}{sc:Scope}{pos pos' spos:Pos}{wi:TI}{g:TG}{tc:TT}{te:TE}{i:Nat}{x:Str}(N':List Str)(ix:List (Option Nat))
    (hcalm:X.calm=true) (hN:X.N.Nodup) (hx:X.N[i]? = some x) (hl:X.env.scope.names.lookup x=some .local)
    (hi:PI X target iter wi) (hk:o7 X.env.scope.names X.N sc N' ix=true)
    (hg:∀cl C s H fp,PG (blk X sc cl C N' s H fp) target g) (hc:∀cl C s H fp,PF (blk X sc cl C N' s H fp) ifs tc) (he:∀cl C s H fp,PE (blk X sc cl C N' s H fp) elt te)
    (hsw:swapsWith (.ListComp elt [⟨target,iter,ifs,0⟩] sc pos) (some (.Name x pos')) spos.line X.env=pure true:=by rfl)
    (hs:∀x,foldedSetIterable iter X.env x=pure x:=by intro _;rfl):PS X (.Assign [.Name x pos'] (.ListComp elt [⟨target,iter,ifs,0⟩] sc pos) spos) (zH (vH ix wi g tc te) (eQ i)):=by
  intro pins s σ H D I h
  rw[exec_Assign_Name_used _ _ _ _ hsw]
  refine BN (FR (BN ?_))
  show Cb _ X.A (do let _ ← comprehension (.ListComp elt [⟨target,iter,ifs,0⟩] sc pos) sc X.env _ (newList []) false (eval iter X.env) (some (assign (.Name x pos') X.env))) _ _ s
  refine BN (C5 (mD (Q:=λv H1=>D.nx (σ.set i (some v)) H1) (Q2:=λ_ s'=>SP X pins D .next s') hcalm hi hk hg hc he hs (λs4 H3 acc C ys oC I4 ns hC hc hp q =>?_) I h) (λ_ s' q=>BS (BS q)) λ_ _ e=>e)
  obtain ⟨m,ns⟩:=ns
  obtain ⟨e0,n0,n1,n2,_⟩:=I4.pin (C,oC) (by simp)
  show Cb _ X.A (assign (.Name x pos') X.env (.ref acc)) _ _ s4
  refine thn ((aS (i:=i) hN hx (.inl hl) (.inr hl)) (pins++[(C,oC)]) s4 σ _ (.ref acc) (.ref acc) _ I4 rfl q) λ_ s5 ⟨σ5,H5,I5,q5⟩ =>?_
  obtain ⟨e5,k0,k1,k2,_⟩:=I5.pin (C,oC) (by simp)
  obtain ⟨o',es',ep',c',r'⟩:=ns
  have e':=e0.symm.trans c'
  cases e'
  refine ⟨m,⟨_,es',ep',e5,r'⟩,λh' sb=>⟨σ5,H5,?_,q5⟩⟩
  exact (I5.eR).turned (it:=C) (h':=h') (t':=s5.toks) (λb o ne e=>by rw[sb.2 b ne];exact e) k0 k1 (.inr hC) hc hp
end
open PySem PySem.Spec PyProof.Rows
section
variable  {X:Cx}
def Bg (K:BM):R2:=λx y H Q=>∃l b xs zs,x = .ref l/\y = .ref b/\SqL K H l xs/\SqL K H b zs/\xs.length+zs.length<=Ca/\∀p,H p=none->Q (.ref p) (upd H p (.lst (xs++zs)))
theorem j7:OpR X (binaryOp .Add) (Bg X.K):=by
 intro pins s σ H x y v u Q I rx ry h
 obtain ⟨l,b,xs,zs,rfl,rfl,hH,hB,hz,q⟩:=h
 cases rx
 cases ry
 obtain ⟨its,r,e,z⟩:=I.list hH
 obtain ⟨its2,r2,e2,z2⟩:=I.list hB
 obtain ⟨⟨c1,d1,da1,sl1⟩,n,e,k1,k2,k3⟩:=e
 obtain ⟨⟨c2,d2,da2,sl2⟩,n2,e2,g1,g2,g3⟩:=e2
 simp only at k1 k3 g1 g3
 subst k1 k3 g1 g3
 have l1:=r.length
 have l2:=r2.length
 have ea:its.toArray++its2.toArray=(its++its2).toArray:=by simp
 refine He ⟨_,e,rfl⟩ ⟨_,e2,rfl⟩ noFill_list_add seq_list_add PySem.F.slot_list_add PySem.F.entry_list_add
  (PySem.F.args_list_add_2 _ _) (list_addW l b its.toArray its2.toArray n n2 d1 d2 sl1 sl2 (by rw[BZ,BZ];omega)) ⟨e,e2,?_⟩
 rw[ea]
 exact ⟨.ref _,_,I.lnew (t':=s.toks) (r.append r2) (by rw[BU];omega),rfl,q _ I.fresh⟩
end
def mE (k:Nat)(tc:TT)(te:TE)(τ:St)(Pv:Nat->List V->Hp->Prop)(i:Nat)(x:V)(ys:List V)(H:Hp):Prop :=
 ∀(R1:V->Hp->Prop) (R0:Hp->Prop),(∀y H4,Pv (i+1) (ys++[y]) H4->R1 y H4)->(∀H3,Pv (i+1) ys H3->R0 H3)->tc (τ.set k (some x)) H λb H3=>if b=true then te (τ.set k (some x)) H3 R1 else R0 H3
theorem kK {K:BM}{a:Addr}{xs:List V}{k:Nat}{tc:TT}{te:TE}{τ:St}{H:Hp}{Q:VK}(Pv:Nat->List V->Hp->Prop)(h0:Pv 0 [] H)(hz:xs.length<=Ca)
  (hl:∀i ys H,i<=xs.length->Pv i ys H->SqL K H a xs) (hs:∀i x ys H,xs[i]? = some x->ys.length<=i->Pv i ys H->mE k tc te τ Pv i x ys H)
  (hd:∀ys H,ys.length<=xs.length->Pv xs.length ys H->∀l,H l=none->Q (.ref l) (upd H l (.lst ys))) :
  fL (Itl K a) (eQ k) tc te τ Q H:=by
 refine ⟨λi m σ ys H=>m=xs.length-i/\i<=xs.length/\(∀x,σ.set k (some x)=τ.set k (some x))/\ys.length<=i/\Pv i ys H,⟨xs.length,by simp,CC _,λ_=>rfl,BV _,h0⟩,?_⟩
 rintro i m σ ys H ⟨rfl,hi,hτ,hy,p⟩
 have q:=hl i ys H hi p
 by_cases hlt:i<xs.length
 ·refine .inr ⟨⟨xs,xs[i],q,by simp[hlt]⟩,λx H' y =>?_⟩
  obtain ⟨e,y⟩:=y
  subst e
  show tc (σ.set k (some x)) _ _
  rw[hτ x]
  have hσ:∀z,(τ.set k (some x)).set k (some z)=τ.set k (some z):=λz=>by rw[FG]
  refine hs i x ys _ (y xs q) hy p _ _ (λy4 H4 p4=>⟨by omega,xs.length-(i+1),by omega,rfl,hlt,hσ,by rw[BU,Df];omega,p4⟩) λH3 p3=>⟨xs.length-(i+1),by omega,rfl,hlt,hσ,by omega,p3⟩
 ·have e:i=xs.length:=by omega
  subst e
  exact .inl ⟨⟨xs,q,BV _⟩,by omega,hd ys H hy p⟩
theorem iW {K:BM}{a:Addr}{xs:List V}{k:Nat}{tc:TT}{te:TE}{τ:St}{H:Hp}{Q:VK}(Pv:Nat->List V->Hp->Prop)(h0:Pv 0 [] H)(hz:xs.length<=Ca)
  (hl:∀i ys H,i<=xs.length->Pv i ys H->SqT K H a xs) (hs:∀i x ys H,xs[i]? = some x->ys.length<=i->Pv i ys H->mE k tc te τ Pv i x ys H)
  (hd:∀ys H,ys.length<=xs.length->Pv xs.length ys H->∀l,H l=none->Q (.ref l) (upd H l (.lst ys))) :
  fL (Itt K a) (eQ k) tc te τ Q H:=by
 refine ⟨λi m σ ys H=>m=xs.length-i/\i<=xs.length/\(∀x,σ.set k (some x)=τ.set k (some x))/\ys.length<=i/\Pv i ys H,⟨xs.length,by simp,CC _,λ_=>rfl,BV _,h0⟩,?_⟩
 rintro i m σ ys H ⟨rfl,hi,hτ,hy,p⟩
 have q:=hl i ys H hi p
 by_cases hlt:i<xs.length
 ·refine .inr ⟨⟨xs,xs[i],q,by simp[hlt]⟩,λx H' y =>?_⟩
  obtain ⟨e,y⟩:=y
  subst e
  show tc (σ.set k (some x)) _ _
  rw[hτ x]
  have hσ:∀z,(τ.set k (some x)).set k (some z)=τ.set k (some z):=λz=>by rw[FG]
  refine hs i x ys _ (y xs q) hy p _ _ (λy4 H4 p4=>⟨by omega,xs.length-(i+1),by omega,rfl,hlt,hσ,by rw[BU,Df];omega,p4⟩) λH3 p3=>⟨xs.length-(i+1),by omega,rfl,hlt,hσ,by omega,p3⟩
 ·have e:i=xs.length:=by omega
  subst e
  exact .inl ⟨⟨xs,q,BV _⟩,by omega,hd ys H hy p⟩
structure Cal (P:B7)(w:CJ)(K:BM)(mg:Str->Option BP)(base:Heap)(k:Nat)(x:Str)(ps:List Str)(sp:Sp):Prop where
 ex:∃f fd,bS P w K mg base CX0 k f fd ps sp/\mg x=some (.ref f)/\PySem.W.keepIn K (.ref f)=true/\Binds K fd ps []
theorem aN {X:Cx}{j k:Nat}{x:Str}{ps:List Str}{sp:Sp}{e:Expr}{es:List Expr}{t:TA}{p pos:Pos}(C:Cal X.prog X.w X.K X.mg X.base k x ps sp)(hr:bX j X.A)(hj:k<=j)(hg:Gl X x)(ha:PA X (e :: es) t)
  (hdb:(x == ("__debug__" : Str))=false:=by decide) (he:CO (e :: es) X.env=(false,eval e X.env) :: CO es X.env:=by rfl) (hpl:(Fi pos (CO es X.env)).any (·.1)=false:=by rfl) :
  PE X (.Call (.Name x p) (e :: es) [] pos) (vA sp [] E0 t):=by
 obtain ⟨f,fd,F,m,kp,b⟩:=C.ex
 exact xM F (hr.mono hj) hg m kp b .nil Be ha hdb he hpl
theorem ae {H:Hp}{p:Addr}(h:H p=none)(o:HO):aB H (upd H p o):=λb u q=>by rw[ax (aF q h)];exact q
theorem small {n:Nat}(h:n<=1000):n<=Ca:=FF (ue h)
open PySem PySem.Spec PyProof.Rows
section
variable  {X:Cx}
theorem jy {its:List BP}{bs:List Bool}(h:Vals (bs.map V.bl) its){prog:B7}{w:CJ}{A:CK}:TruthOf prog w A (λi v=>its.toArray[i]? = some v) (λi=>bs.getD i false):=by
 intro i v s Q E hv q
 have l:=h.length
 rw[BQ] at l
 have hi:i<its.length:=by
  rw[DM] at hv
  exact (Cg.mp hv).1
 have e:(bs.map V.bl)[i]? = some (.bl (bs.getD i false)):=by
  rw[CA,CN,Cr (by omega)]
  rfl
 obtain ⟨u,e1,e2⟩:=h.get e
 rw[DM,e1] at hv
 have ev:u=v:=Cv hv
 subst ev
 cases (show u=Value.bool _ from e2)
 exact DC q
theorem all_range (bs:List Bool):((Dh bs.length).all λi=>bs.getD i false)=bs.all id:=by
 rw[Dx,EB,EB]
 constructor
 ·intro h x hx
  obtain ⟨i,e⟩:=Dg.mp hx
  have hi:i<bs.length:=(Cg.mp e).1
  have q:=h i (El.mpr hi)
  rw[CN,e] at q
  exact q
 ·intro h i hi
  have hi':=El.mp hi
  rw[CN,Cr hi']
  exact h _ (Fw hi')
theorem ip (hc:X.calm=true):cM X (.builtin "all") (λxs H Q=>∃(p:Addr) (bs:List Bool),xs=[.ref p]/\SqL X.K H p (bs.map V.bl)/\Q (.bl (bs.all id)) H):=by
 intro pins s σ H xs us Q I r h
 obtain ⟨p,bs,rfl,hs,q⟩:=h
 obtain ⟨u,rfl,ru⟩:=vals1 r
 cases (show u=Cc p from ru)
 obtain ⟨its,rv,pl,hz⟩:=I.list hs
 have l:=rv.length
 rw[BQ] at l
 have hpl:p<s.heap.objs.size:=by obtain ⟨o,_,e,_⟩:=pl;exact BW e
 refine call_all_walk (F8 pl.isList ?_)
 have hd:X.A.in1.handled=none:=I.ok.hd hc
 refine ⟨s.heap.objs.size,_,_,_,_,_,_,rfl,Walks.list hd s.heap.objs.size p (Cp hpl) its.toArray,⟨⟨_,BX _ rfl,rfl,rfl⟩,?_⟩,jy rv,λh' tk k =>?_⟩
 ·exact pl.isList.at λo e=>BO _ e
 ·have e:((Dh its.toArray.size).all λi=>bs.getD i false)=bs.all id:=by rw[BZ, <- l,all_range]
  rw[e]
  refine ⟨.bl (bs.all id),H,I.kept (t':=tk) (λb o eb=>k b o ?_ (BO _ eb)),rfl,q⟩
  intro hb
  have:b=s.heap.objs.size:=by simpa using hb
  exact absurd (BW eb) (by rw[this];exact Dc _)
theorem o8:∀{Ts:List String} {us:List BP},Vals (Ts.map V.ty) us->us=Ts.map Fn
 | [],_,r=>by cases r;rfl
 | T :: Ts,_,r=>by
  cases r with
  | cons h t=>rw[Ci, <- o8 t,show _=Fn T from h]
end
open PySem PySem.Spec PyProof.Rows
def sE (K:BM)(k l:Nat):TG:=A1 K 2 (vp (eQ k) (vp (eQ l) A0))
def zf (k l:Nat)(tc:TT)(te:TE)(τ:St)(Pv:Nat->List V->Hp->Prop)(i:Nat)(a b:V)(ys:List V)(H:Hp):Prop :=
 ∀(R1:V->Hp->Prop) (R0:Hp->Prop),(∀y H4,Pv (i+1) (ys++[y]) H4->R1 y H4)->(∀H3,Pv (i+1) ys H3->R0 H3)->tc ((τ.set k (some a)).set l (some b)) H λc H3=>if c=true then te ((τ.set k (some a)).set l (some b)) H3 R1 else R0 H3
open PySem PySem.Spec PyProof.Rows
section
variable  {X:Cx}{K:BM}
theorem cf (h:X.K=K:=by rfl):IxR X (Bc K):=by subst h;exact aM
theorem uf (h:X.K=K:=by rfl):OpR X (DZ .NotIn) (rIn K true):=by subst h;exact nR
end
open PySem PySem.Spec PyProof.Rows
theorem Inv.qN {X:Cx}{pins:List (Addr×Obj)}{σ:St}{H:Hp}{s:BR}{h':Heap}{t':Nat}{ch:List Addr}{T:Addr}{o:HO}(I:Inv X pins σ H s)(f:∀b∈ch,jL X pins H b)
  (k:∀b ob,b∉ch->s.heap.get? b=some ob->h'.get? b=some ob) (th:∀b∈ch,∃ob,h'.get? b=some ob) (hT:s.heap.objs.size<=T) (new:bo X.prog X.w (upd H T o) h' T o):Inv X pins σ (upd H T o) { s with heap:=h',toks:=t' }:=by
 have hn:H T=none:=I.hok.fresh hT
 have nT:∀b ob,s.heap.get? b=some ob->b≠T:=λb ob e=>Cp (B8 (BW e) hT)
 refine I.step (g':=s.gens) (d':=s.drawn) (ch:=ch) (λb hb =>?_) (λb ob _ _ hc e _=>k b ob hc e) (λb ob _ _ hc e _=>⟨ob.slots,k b ob hc e⟩) (λb ob _ e n=>by rw[ax (nT b ob e)];exact n)
  (λb ob hc e=>⟨ob,k b ob hc e⟩) (λb xs e=>by rw[ax (aF e hn)];exact e) (λb ob u e=>by rw[ax (aF e hn)];exact e) (λb ps e=>⟨#[],by rw[ax (aF e hn),e];simp⟩) (λm hm =>?_) (λb u e =>?_) I.bare
 ·obtain ⟨g0,g1,g2,g3,g4,g5⟩:=f b hb
  exact ⟨g3,g1,g4,g5⟩
 ·obtain ⟨ob,es,ep,ho,r⟩:=hm
  exact ⟨ob,es,ep,k _ ob (λz=>(f _ z).2.1 rfl) ho,r⟩
 ·by_cases hb:b=T
  ·subst hb
   rw[af] at e
   cases e
   exact new
  ·rw[ax hb] at e
   refine (I.hok b u e).fV (λc v hc q=>k c v ?_ q) (λc q=>by rw[ax (aF q hn)];exact q) λc xs q=>by rw[ax (aF q hn)];exact q
   intro z
   have n0:=(f c z).1
   rcases hc with hc | hc
   ·rw[hc,e] at n0;cases n0
   ·rw[hc] at n0;cases n0
open PySem PySem.Spec PyProof.Rows
open PySem.AutoSeq1 (wpAny_loadPart')
section
variable  {prog:B7}{w:CJ}{A:CK}{E:BP->BR->Prop}{s:BR}
theorem qO {it t:Addr}{i:Nat}{items:Array BP}{x:BP}{Q:BP->BR->Prop}(hi:s.heap.IsTupleIter it t i)(hl:s.heap.IsTuple t items)(hx:items[i]? = some x)
  (q:∀h',h'.IsTupleIter it t (i+1)->Heap.SameBut it s.heap h'->Q x { s with heap:=h' }):Cb (Cn prog w) A (Builtin.SmallTypes.nextOf (.ref it)) Q E s:=by
 obtain ⟨o,eo,oc,od⟩:=id hi
 obtain ⟨ol,el,_,nl,dl⟩:=hl
 unfold Builtin.SmallTypes.nextOf
 refine BN (C4 (name:=Str.ofString "__next__") hi.typeIs Ez (C8 Ez hi.typeIs GI ?_ (Gx _)))
 show Cb _ _ (field (.ref it) 0 >>= _) _ _ s;refine BN (De eo od (x :=.ref t) rfl ?_)
 show Cb _ _ (if (Cc t == Ee)=true then _ else _) _ _ s;rw[if_neg (show ¬ ((Cc t == Ee)=true) from B2)]
 show Cb _ _ (field (.ref it) 1 >>= _) _ _ s;refine BN (De eo od (x :=.int i 0) rfl ?_)
 show Cb _ _ (seqItems? (.ref t) >>= _) _ _ s;refine BN (DP el dl ?_)
 simp only[F4,hx];refine BN (Fu eo od (by simp) (BS ⟨x,rfl,BS (q _ ?_ (Fz ..))⟩))
 exact ⟨_,C6 _ eo (Gb (Eb od _)),(Jh ..).trans oc,by rw[Eb od];simp[Ea]⟩
theorem kM {it t:Addr}{i:Nat}{items:Array BP}{Q:BP->BR->Prop}(hh:A.handled=none)(hi:s.heap.IsTupleIter it t i)(hl:s.heap.IsTuple t items)(hx:items[i]? = none)
  (q:∀h' e,Heap.ExtBut it s.heap h'->(∃o,h'.get? e=some o/\o.cls = .type "StopIteration")->E (.ref e) { s with heap:=h' }):Cb (Cn prog w) A (Builtin.SmallTypes.nextOf (.ref it)) Q E s:=by
 obtain ⟨o,eo,oc,od⟩:=id hi
 obtain ⟨ol,el,_,nl,dl⟩:=hl
 unfold Builtin.SmallTypes.nextOf
 refine BN (C4 (name:=Str.ofString "__next__") hi.typeIs Ez (C8 Ez hi.typeIs GI ?_ (Gx _)))
 show Cb _ _ (field (.ref it) 0 >>= _) _ _ s;refine BN (De eo od (x :=.ref t) rfl ?_)
 show Cb _ _ (if (Cc t == Ee)=true then _ else _) _ _ s;rw[if_neg (show ¬ ((Cc t == Ee)=true) from B2)]
 show Cb _ _ (field (.ref it) 1 >>= _) _ _ s;refine BN (De eo od (x :=.int i 0) rfl ?_)
 show Cb _ _ (seqItems? (.ref t) >>= _) _ _ s;refine BN (DP el dl ?_)
 simp only[F4,hx];refine BN (En (BN (Fu eo od (by simp) ?_)))
 show Cb _ _ (newExc (.type "StopIteration") [] >>= _) _ _ _;refine BN ?_
 simp only[newExc,newTuple];refine BN (CM ?_ (by size_fits))
 refine BN (m:=firstArgMember _ _) (Ew (a:=Ee) (by first | rfl | (simp only[firstArgMember];rfl)) ?_);refine CM ?_ (by size_fits)
 simp only[raiseNew];refine BN (wpAny_handled ?_)
 first | (rw[show A.in1.handled=none from hh]) | (rw[hh])
 refine BN (BS (wpAny_throw ?_));exact q _ _ (((Fz ..).extBut.push _).push _) ⟨_,BX _ rfl,rfl⟩
end
end L2
namespace Srt
open PySem PyProof.Rows
def gal:Bool->Cf->Array Cf->Nat->Nat->Nat->StateT CH Sem (Option Nat):=sortPriv% PySem.Builtin.gallop
def mLo:Array Cf->Array Cf->StateT CH Sem (Array Cf):=sortPriv% PySem.Builtin.mergeLo
def mHi:Array Cf->Array Cf->StateT CH Sem (Array Cf):=sortPriv% PySem.Builtin.mergeHi
def mAt:Nat->StateT CH Sem Bool:=sortPriv% PySem.Builtin.mergeAt
def zg:StateT CH Sem Unit:=sortPriv% PySem.Builtin.sortRuns
def zT:Nat->Nat->StateT CH Sem (Option Nat):=sortPriv% PySem.Builtin.countRun
def vI:Nat->Nat->Nat->StateT CH Sem Bool:=sortPriv% PySem.Builtin.binarySort
theorem zU (lf:Bool)(ky:Cf)(ar:Array Cf)(bs n ht:Nat):gal lf ky ar bs n ht=(do
    let far (i:Nat):StateT CH Sem (Option Bool):=do
      let z ← elem' ar (bs+i)
      if lf then lt' z ky else return (← lt' ky z).map (!·)
    let mut la:=0;let mut of:=1
    let mut lo:=0;let mut hi:=0
    let some rt ← far ht | return none
    if rt then
      let mx:=n-ht
      for _ in [0:n] do
        if of≥mx then break
        let some mo ← far (ht+of)
          | return none
        if !mo then break
        la:=of;of:=2*of+1
      lo:=ht+la+1;hi:=ht+min of mx
    else
      let mx:=ht+1
      for _ in [0:n] do
        if of≥mx then break
        let some fd ← far (ht-of)
          | return none
        if fd then break
        la:=of;of:=2*of+1
      lo:=ht+1-min of mx;hi:=ht-la
    for _ in [0:n] do
      if lo≥hi then break
      let md:=lo+(hi-lo)/2
      let some mo ← far md | return none
      if mo then lo:=md+1 else hi:=md
    return some hi):=rfl
section
variable  {prog:B7}{w:CJ}{A:CK}{E:BP->BR->Prop}{s:BR}
theorem vJ {lf:Bool}{ky:Cf}{ar:Array Cf}{bs n ht:Nat}{st:CH}{Q:Option Nat->CH->Prop}(p:Nat->Bool)
    (hf:∀i,i<n->∀(Q:Option Bool->CH->Prop),Q (some (p i)) st->wpS (Cn prog w) A E s (do let z ← elem' ar (bs+i);if lf then lt' z ky else return (← lt' ky z).map (!·)) Q st)
    (hp:∀i j,i<=j->j<n->p j=true->p i=true) (hh:ht<n)
    (h:∀k,k<=n->(∀i,i<k->p i=true)->(∀i,k<=i->i<n->p i=false)->Q (some k) st):wpS (Cn prog w) A E s (gal lf ky ar bs n ht) Q st:=by
  rw[zU]
  dsimp only
  refine B6 (hf ht hh _ ?_)
  dsimp only
  cases hr:p ht with
  | true =>
    rw[if_pos rfl]
    refine B6 (D6 (Dn (I:=λx c st'=>st=st'/\∃la of,c=(none,la,of)/\la<of/\x+1<=of/\ht+la<n/\p (ht+la)=true)
      (Q:=λc st'=>st=st'/\∃la of,c=(none,la,of)/\la<of/\ht+la<n/\p (ht+la)=true/\(n-ht<=of\/(ht+of<n/\p (ht+of)=false))) ?step ?fin ⟨rfl,0,1,rfl,by omega,by omega,by omega,by simpa using hr⟩) ?post)
    case fin =>
      rintro c st' ⟨rfl,la,of,rfl,b1,b2,b3,b4⟩
      exact ⟨rfl,la,of,rfl,b1,b3,b4,.inl (by omega)⟩
    case step =>
      rintro x c st' _ hx ⟨rfl,la,of,rfl,b1,b2,b3,b4⟩
      dsimp only
      by_cases hge:of≥n-ht
      · rw[if_pos hge]
        exact Cj ⟨rfl,la,of,rfl,b1,b3,b4,.inl hge⟩
      · rw[if_neg hge]
        refine B6 (hf _ (by omega) _ ?_)
        dsimp only
        cases hm:p (ht+of) with
        | true =>
          simp only[HH,Dl,if_false]
          exact Cj ⟨rfl,of,2*of+1,rfl,by omega,by omega,by omega,hm⟩
        | false =>
          simp only[Bool.not_false,if_true]
          exact Cj ⟨rfl,la,of,rfl,b1,b3,b4,.inr ⟨by omega,hm⟩⟩
    case post =>
      rintro c st' ⟨rfl,la,of,rfl,b1,b3,b4,b5⟩
      have h1:(ht+la+1)<=(ht+min of (n-ht)):=by omega
      have h2:(ht+min of (n-ht))<=n:=by omega
      have h3:∀i,i<(ht+la+1)->p i=true:=λi hi=>hp i (ht+la) (by omega) b3 b4
      have h4:∀i,(ht+min of (n-ht))<=i->i<n->p i=false:=λi hi hn=>by
        rcases b5 with b5 | ⟨b5,b6⟩
        · omega
        · cases hpi:p i with
          | false=>rfl
          | true=>rw[hp (ht+of) i (by omega) hn hpi] at b6;cases b6
      dsimp only
      refine B6 (D6 (Dn (I:=λx c st'=>st=st'/\∃lo hi,c=(none,lo,hi)/\lo<=hi/\hi<=n/\hi-lo<=n-x/\(∀i,i<lo->p i=true)/\(∀i,hi<=i->i<n->p i=false))
        (Q:=λc st'=>st=st'/\∃k,c=(none,k,k)/\k<=n/\(∀i,i<k->p i=true)/\(∀i,k<=i->i<n->p i=false)) ?step ?fin ⟨rfl,(ht+la+1),(ht+min of (n-ht)),rfl,h1,h2,by omega,h3,h4⟩) ?post)
      case fin =>
        rintro c st' ⟨rfl,lo,hi,rfl,a1,a2,a3,a4,a5⟩
        have e:lo=hi:=by omega
        subst e
        exact ⟨rfl,lo,rfl,a2,a4,a5⟩
      case post =>
        rintro c st' ⟨rfl,k,rfl,a2,a4,a5⟩
        exact Cj (h k a2 a4 a5)
      case step =>
        rintro x c st' _ hx ⟨rfl,lo,hi,rfl,a1,a2,a3,a4,a5⟩
        dsimp only
        by_cases hge:lo≥hi
        · rw[if_pos hge]
          have e:lo=hi:=by omega
          subst e
          exact Cj ⟨rfl,lo,rfl,a2,a4,a5⟩
        · rw[if_neg hge]
          refine B6 (hf _ (by omega) _ ?_)
          dsimp only
          cases hm:p (lo+(hi-lo)/2) with
          | true =>
            rw[if_pos rfl]
            exact Cj ⟨rfl,_,_,rfl,by omega,a2,by omega,λi hi'=>hp i _ (by omega) (by omega) hm,a5⟩
          | false =>
            rw[if_neg (by simp)]
            refine Cj ⟨rfl,_,_,rfl,by omega,by omega,by omega,a4,λi hi' hn =>?_⟩
            cases hpi:p i with
            | false=>rfl
            | true=>rw[hp _ i hi' hn hpi] at hm;cases hm
  | false =>
    rw[if_neg (by simp)]
    refine B6 (D6 (Dn (I:=λx c st'=>st=st'/\∃la of,c=(none,la,of)/\la<of/\x+1<=of/\la<=ht/\p (ht-la)=false)
      (Q:=λc st'=>st=st'/\∃la of,c=(none,la,of)/\la<of/\la<=ht/\p (ht-la)=false/\(ht+1<=of\/(of<=ht/\p (ht-of)=true))) ?step ?fin ⟨rfl,0,1,rfl,by omega,by omega,by omega,by simpa using hr⟩) ?post)
    case fin =>
      rintro c st' ⟨rfl,la,of,rfl,b1,b2,b3,b4⟩
      exact ⟨rfl,la,of,rfl,b1,b3,b4,.inl (by omega)⟩
    case step =>
      rintro x c st' _ hx ⟨rfl,la,of,rfl,b1,b2,b3,b4⟩
      dsimp only
      by_cases hge:of≥ht+1
      · rw[if_pos hge]
        exact Cj ⟨rfl,la,of,rfl,b1,b3,b4,.inl hge⟩
      · rw[if_neg hge]
        refine B6 (hf _ (by omega) _ ?_)
        dsimp only
        cases hm:p (ht-of) with
        | true =>
          rw[if_pos rfl]
          exact Cj ⟨rfl,la,of,rfl,b1,b3,b4,.inr ⟨by omega,hm⟩⟩
        | false =>
          rw[if_neg (by simp)]
          exact Cj ⟨rfl,of,2*of+1,rfl,by omega,by omega,by omega,hm⟩
    case post =>
      rintro c st' ⟨rfl,la,of,rfl,b1,b3,b4,b5⟩
      have h1:(ht+1-min of (ht+1))<=(ht-la):=by omega
      have h2:(ht-la)<=n:=by omega
      have h3:∀i,i<(ht+1-min of (ht+1))->p i=true:=λi hi=>by
        rcases b5 with b5 | ⟨b5,b6⟩
        · omega
        · exact hp i (ht-of) (by omega) (by omega) b6
      have h4:∀i,(ht-la)<=i->i<n->p i=false:=λi hi hn=>by
        cases hpi:p i with
        | false=>rfl
        | true=>rw[hp (ht-la) i hi hn hpi] at b4;cases b4
      dsimp only
      refine B6 (D6 (Dn (I:=λx c st'=>st=st'/\∃lo hi,c=(none,lo,hi)/\lo<=hi/\hi<=n/\hi-lo<=n-x/\(∀i,i<lo->p i=true)/\(∀i,hi<=i->i<n->p i=false))
        (Q:=λc st'=>st=st'/\∃k,c=(none,k,k)/\k<=n/\(∀i,i<k->p i=true)/\(∀i,k<=i->i<n->p i=false)) ?step ?fin ⟨rfl,(ht+1-min of (ht+1)),(ht-la),rfl,h1,h2,by omega,h3,h4⟩) ?post)
      case fin =>
        rintro c st' ⟨rfl,lo,hi,rfl,a1,a2,a3,a4,a5⟩
        have e:lo=hi:=by omega
        subst e
        exact ⟨rfl,lo,rfl,a2,a4,a5⟩
      case post =>
        rintro c st' ⟨rfl,k,rfl,a2,a4,a5⟩
        exact Cj (h k a2 a4 a5)
      case step =>
        rintro x c st' _ hx ⟨rfl,lo,hi,rfl,a1,a2,a3,a4,a5⟩
        dsimp only
        by_cases hge:lo≥hi
        · rw[if_pos hge]
          have e:lo=hi:=by omega
          subst e
          exact Cj ⟨rfl,lo,rfl,a2,a4,a5⟩
        · rw[if_neg hge]
          refine B6 (hf _ (by omega) _ ?_)
          dsimp only
          cases hm:p (lo+(hi-lo)/2) with
          | true =>
            rw[if_pos rfl]
            exact Cj ⟨rfl,_,_,rfl,by omega,a2,by omega,λi hi'=>hp i _ (by omega) (by omega) hm,a5⟩
          | false =>
            rw[if_neg (by simp)]
            refine Cj ⟨rfl,_,_,rfl,by omega,by omega,by omega,a4,λi hi' hn =>?_⟩
            cases hpi:p i with
            | false=>rfl
            | true=>rw[hp _ i hi' hn hpi] at hm;cases hm
end
open PySem PyProof.Rows
structure Cmp (prog:B7)(w:CJ)(A:CK)(s:BR)(O:GR)(key:Cf->O.α)(U:Cf->Prop)(κ:SortKind):Prop where
 lt:∀(E:BP->BR->Prop) (st:CH) (x y:Cf) (Q:Option Bool->CH->Prop),kindOf st=κ -> U x->U y->Q (some (O.blt (key x) (key y))) st->wpS (Cn prog w) A E s (lt' x y) Q st
section
variable  {prog:B7}{w:CJ}{A:CK}{E:BP->BR->Prop}{s:BR}{O:GR}{key:Cf->O.α}{U:Cf->Prop}{κ:SortKind}
theorem bu {ar:Array Cf}{i:Nat}{z:Cf}{st:CH}{Q:Cf->CH->Prop}(h:ar[i]? = some z)(hq:Q z st):wpS (Cn prog w) A E s (elem' ar i) Q st:=by
 rw[elem'_eq,h]
 exact Cj hq
theorem zV (C:Cmp prog w A s O key U κ){ky:Cf}{ar:Array Cf}{bs n ht:Nat}{st:CH}{Q:Option Nat->CH->Prop}(g:Nat->Cf)(hk:kindOf st=κ)(uk:U ky)
  (hg:∀i,i<n->ar[bs+i]? = some (g i)) (hu:∀i,i<n->U (g i)) (hs:∀i j,i<=j->j<n->O.kle (key (g i)) (key (g j))) (hh:ht<n)
  (h:∀k,k<=n->(∀i,i<k->O.kle (key (g i)) (key ky))->(∀i,k<=i->i<n->O.klt (key ky) (key (g i)))->Q (some k) st):wpS (Cn prog w) A E s (gal false ky ar bs n ht) Q st:=by
 refine vJ (λi => !O.blt (key ky) (key (g i))) (λi hi R hr =>?_) (λi j hij hj hp =>?_) hh (λk hk' h1 h2=>h k hk' (λi hi =>?_) λi hi hn =>?_)
 ·refine B6 (bu (hg i hi) ?_)
  rw[if_neg (by simp)]
  exact B6 (C.lt _ st ky (g i) _ hk uk (hu i hi) (Cj hr))
 ·have a1:O.blt (key ky) (key (g j))=false:=by simpa using hp
  have a2:O.kle (key (g i)) (key ky):=CS (hs i j hij hj) a1
  have a3:O.blt (key ky) (key (g i))=false:=a2
  simp[a3]
 ·have a1:=h1 i hi
  exact (by simpa using a1:O.blt (key ky) (key (g i))=false)
 ·have a1:=h2 i hi hn
  exact (by simpa using a1:O.blt (key ky) (key (g i))=true)
theorem zW (C:Cmp prog w A s O key U κ){ky:Cf}{ar:Array Cf}{bs n ht:Nat}{st:CH}{Q:Option Nat->CH->Prop}(g:Nat->Cf)(hk:kindOf st=κ)(uk:U ky)
  (hg:∀i,i<n->ar[bs+i]? = some (g i)) (hu:∀i,i<n->U (g i)) (hs:∀i j,i<=j->j<n->O.kle (key (g i)) (key (g j))) (hh:ht<n)
  (h:∀k,k<=n->(∀i,i<k->O.klt (key (g i)) (key ky))->(∀i,k<=i->i<n->O.kle (key ky) (key (g i)))->Q (some k) st):wpS (Cn prog w) A E s (gal true ky ar bs n ht) Q st:=by
 refine vJ (λi=>O.blt (key (g i)) (key ky)) (λi hi R hr =>?_) (λi j hij hj hp =>?_) hh (λk hk' h1 h2=>h k hk' (λi hi=>h1 i hi) λi hi hn=>h2 i hi hn)
 ·refine B6 (bu (hg i hi) ?_)
  rw[if_pos rfl]
  exact C.lt _ st (g i) ky _ hk (hu i hi) uk hr
 ·exact KeyOrd.klt_of_kle_of_klt (hs i j hij hj) hp
end
open PySem PyProof.Rows
section
variable  {O:GR}(key:Cf->O.α)
def Le (p q:Cf):Prop:=O.kle (key p) (key q)
structure MW (a b o:Array Cf)(x y:Nat):Prop where
 hx:x<=a.size
 hy:y<=b.size
 perm:(o.toList++(a.toList.drop x++b.toList.drop y)).Perm (a.toList++b.toList)
 sorted:o.toList.Pairwise (Le key)
 below:∀p∈o.toList,∀z∈a.toList.drop x++b.toList.drop y,Le key p z
def eE (a b r:Array Cf):Prop:=r.toList.Perm (a.toList++b.toList)/\r.toList.Pairwise (Le key)
variable  {key}
theorem MW.fin {a b o:Array Cf}{x y:Nat}(m:MW key a b o x y){t:List Cf}{r:Array Cf}(hr:r.toList=o.toList++t)(ht:t.Perm (a.toList.drop x++b.toList.drop y))(hs:t.Pairwise (Le key)):eE key a b r:=by
 unfold eE
 rw[hr]
 exact ⟨(DN _ ht).trans m.perm,Du.mpr ⟨m.sorted,hs,λp hp q hq=>m.below p hp q (ht.mem_iff.mp hq)⟩⟩
theorem MW.take {a b o:Array Cf}{x y x' y':Nat}(m:MW key a b o x y){t:List Cf}{r:Array Cf}(hr:r.toList=o.toList++t)(hx:x'<=a.size)(hy:y'<=b.size)
  (ht:(t++(a.toList.drop x'++b.toList.drop y')).Perm (a.toList.drop x++b.toList.drop y)) (hs:t.Pairwise (Le key)) (hb:∀p∈t,∀z∈a.toList.drop x'++b.toList.drop y',Le key p z):MW key a b r x' y':=by
 have sub:∀z,z∈t\/z∈a.toList.drop x'++b.toList.drop y'->z∈a.toList.drop x++b.toList.drop y:=λz hz=>ht.mem_iff.mp (B5.mpr hz)
 refine ⟨hx,hy,?_,?_,?_⟩
 ·rw[hr,CL]
  exact (DN _ ht).trans m.perm
 ·rw[hr]
  exact Du.mpr ⟨m.sorted,hs,λp hp q hq=>m.below p hp q (sub q (.inl hq))⟩
 ·rw[hr]
  intro p hp z hz
  rcases B5.mp hp with h | h
  ·exact m.below p h z (sub z (.inr hz))
  ·exact hb p h z hz
theorem drop_cons {α:Type}{l:List α}{i:Nat}{z:α}(h:l[i]? = some z):l.drop i=z :: l.drop (i+1):=by
 obtain ⟨hi,e⟩:=Cg.mp h
 rw[List.drop_eq_getElem_cons hi,e]
theorem drop_take {α:Type}(l:List α)(i k:Nat):l.drop i=(l.drop i).take k++l.drop (i+k):=by
 rw[<- JY,D7]
theorem aR {a:Array Cf}{i:Nat}{z:Cf}(h:a[i]? = some z):a.toList[i]? = some z:=by rw[Cd];exact h
theorem MW.jz {a b o:Array Cf}{x y:Nat}{z:Cf}(m:MW key a b o x y)(h:a[x]? = some z)(ha:a.toList.Pairwise (Le key))(hb:∀t∈b.toList.drop y,Le key z t):MW key a b (o.push z) (x+1) y:=by
 have e:=drop_cons (aR h)
 have hx:x<a.size:=(DD.mp h).1
 have pa:(z :: a.toList.drop (x+1)).Pairwise (Le key):=by rw[<- e];exact ha.sublist (Dk _ _)
 refine m.take (t:=[z]) (by rw[EK]) hx m.hy (by rw[e];exact E1 _) (DR _ _) λp hp t ht =>?_
 have ep:p=z:=by simpa using hp
 subst ep
 rcases B5.mp ht with q | q
 ·exact (DS.mp pa).1 t q
 ·exact hb t q
theorem MW.mG {a b o:Array Cf}{x y:Nat}{z:Cf}(m:MW key a b o x y)(h:b[y]? = some z)(hb:b.toList.Pairwise (Le key))(ha:∀t∈a.toList.drop x,Le key z t):MW key a b (o.push z) x (y+1):=by
 have e:=drop_cons (aR h)
 have hy:y<b.size:=(DD.mp h).1
 have pb:(z :: b.toList.drop (y+1)).Pairwise (Le key):=by rw[<- e];exact hb.sublist (Dk _ _)
 refine m.take (t:=[z]) (by rw[EK]) m.hx hy (by rw[e,List.singleton_append];exact List.perm_middle.symm) (DR _ _) λp hp t ht =>?_
 have ep:p=z:=by simpa using hp
 subst ep
 rcases B5.mp ht with q | q
 ·exact ha t q
 ·exact (DS.mp pb).1 t q
theorem ext_toList (a:Array Cf)(x k:Nat):(a.extract x (x+k)).toList=(a.toList.drop x).take k:=by
 rw[Ei,DI,DT]
theorem gy (a:Array Cf)(x:Nat):(a.extract x a.size).toList=a.toList.drop x:=by
 rw[Ei,DI]
 exact CP (by rw[EA,B0];exact BV _)
theorem aT {l:List Cf}(h:l.Pairwise (Le key)){i j:Nat}{p q:Cf}(hi:l[i]? = some p)(hj:l[j]? = some q)(hij:i<=j):Le key p q:=by
 by_cases e:i=j
 ·subst e
  rw[hi] at hj
  cases hj
  exact DU _
 ·obtain ⟨h1,e1⟩:=Cg.mp hi
  obtain ⟨h2,e2⟩:=Cg.mp hj
  have:=Hk.mp h i j h1 h2 (by omega)
  rw[e1,e2] at this
  exact this
theorem bq {l:List Cf}{i:Nat}{t:Cf}(h:t∈l.drop i):∃j,i<=j/\l[j]? = some t:=by
 obtain ⟨n,e⟩:=Dg.mp h
 rw[FN] at e
 exact ⟨i+n,by omega,e⟩
theorem jA {l:List Cf}{i k:Nat}{t:Cf}(h:t∈(l.drop i).take k):∃j,j<k/\l[i+j]? = some t:=by
 obtain ⟨n,e⟩:=Dg.mp h
 rw[Ec] at e
 split at e
 ·rw[FN] at e
  exact ⟨n,by omega,e⟩
 ·cases e
theorem MW.vK {a b o:Array Cf}{x y k:Nat}(m:MW key a b o x y)(hk:x+k<=a.size)(ha:a.toList.Pairwise (Le key))(hb:∀j p,j<k->a.toList[x+j]? = some p->∀t∈b.toList.drop y,Le key p t):MW key a b (o++a.extract x (x+k)) (x+k) y:=by
 refine m.take (t:=(a.toList.drop x).take k) (by rw[CD,ext_toList]) hk m.hy ?_ ?_ λp hp t ht =>?_
 ·rw[<- CL, <- drop_take]
 ·exact ha.sublist ((Ds _ _).trans (Dk _ _))
 ·obtain ⟨j,hj,e⟩:=jA hp
  rcases B5.mp ht with q | q
  ·obtain ⟨i,hi,e2⟩:=bq q
   exact aT ha e e2 (by omega)
  ·exact hb j p hj e t q
theorem MW.vL {a b o:Array Cf}{x y k:Nat}(m:MW key a b o x y)(hk:y+k<=b.size)(hb:b.toList.Pairwise (Le key))(ha:∀j p,j<k->b.toList[y+j]? = some p->∀t∈a.toList.drop x,Le key p t):MW key a b (o++b.extract y (y+k)) x (y+k):=by
 refine m.take (t:=(b.toList.drop y).take k) (by rw[CD,ext_toList]) m.hx hk ?_ ?_ λp hp t ht =>?_
 ·rw[drop_take b.toList y k]
  have e:((b.toList.drop y).take k++b.toList.drop (y+k)).take k=(b.toList.drop y).take k:=by rw[<- drop_take]
  rw[e]
  refine (List.perm_append_comm_assoc _ _ _)
 ·exact hb.sublist ((Ds _ _).trans (Dk _ _))
 ·obtain ⟨j,hj,e⟩:=jA hp
  rcases B5.mp ht with q | q
  ·exact ha j p hj e t q
  ·obtain ⟨i,hi,e2⟩:=bq q
   exact aT hb e e2 (by omega)
theorem MW.ug {a b o:Array Cf}{x y:Nat}(m:MW key a b o x y)(ha:a.toList.Pairwise (Le key))(hy:y=b.size):eE key a b (o++a.extract x a.size++b.extract y b.size):=by
 subst hy
 have e:b.toList.drop b.size=[]:=HW (by rw[B0];exact BV _)
 refine m.fin (t:=a.toList.drop x) (by rw[CD,CD,gy,gy,e,CF]) (by rw[e,CF]) (ha.sublist (Dk _ _))
theorem MW.uh {a b o:Array Cf}{x y:Nat}(m:MW key a b o x y)(hb:b.toList.Pairwise (Le key))(hx:x=a.size):eE key a b (o++a.extract x a.size++b.extract y b.size):=by
 subst hx
 have e:a.toList.drop a.size=[]:=HW (by rw[B0];exact BV _)
 refine m.fin (t:=b.toList.drop y) (by rw[CD,CD,gy,gy,e,CF]) (by rw[e,Ib]) (hb.sublist (Dk _ _))
theorem MW.last {a b o:Array Cf}{x y:Nat}(m:MW key a b o x y)(ha:a.toList.Pairwise (Le key))(hb:b.toList.Pairwise (Le key))(hx:x+1=a.size)(hl:∀p q,p∈b.toList->a[a.size-1]? = some q->Le key p q):eE key a b (o++b.extract y b.size++a.extract x a.size):=by
 refine m.fin (t:=b.toList.drop y++a.toList.drop x) (by rw[CD,CD,gy,gy,CL]) E8 ?_
 refine Du.mpr ⟨hb.sublist (Dk _ _),ha.sublist (Dk _ _),λp hp q hq=>hl p q (EG hp) ?_⟩
 obtain ⟨i,hi,e⟩:=bq hq
 rw[Cd] at e
 have hi2:i<a.size:=(DD.mp e).1
 rw[show a.size-1=i by omega]
 exact e
theorem MW.size {a b o:Array Cf}{x y:Nat}(m:MW key a b o x y):o.size+(a.size-x)+(b.size-y)=a.size+b.size:=by
 have e:=m.perm.length_eq
 simp only[BU,EA,B0] at e
 omega
end
structure Sm (st st':CH):Prop where
 k:kindOf st'=kindOf st
 a:Cm st'=Cm st
 p:Cz st'=Cz st
 f:failedOf st'=failedOf st
theorem Sm.refl (st:CH):Sm st st:=⟨rfl,rfl,rfl,rfl⟩
theorem Sm.mg {st st':CH}(h:Sm st st')(n:Nat):Sm st (SortSt.mk' (kindOf st') (Cm st') (Cz st') n (failedOf st')):=⟨h.k,h.a,h.p,h.f⟩
open PySem PyProof.Rows
section
variable  {prog:B7}{w:CJ}{A:CK}{E:BP->BR->Prop}{s:BR}{O:GR}{key:Cf->O.α}{U:Cf->Prop}{κ:SortKind}
theorem bE {a:Array Cf}{i:Nat}(h:i<a.size):∃z,a[i]? = some z:=⟨a[i],by simp[h]⟩
theorem cu {a:Array Cf}{i:Nat}{z:Cf}(h:a[i]? = some z):z∈a.toList:=Dg.mpr ⟨i,by rw[Cd];exact h⟩
theorem ltq {x n:Nat}(h:x<=n)(c:¬ (x == n)=true):x<n:=IY h λz=>c (beq_iff_eq.mpr z)
abbrev LoC:=Option (Array Cf)×Array Cf×Nat×Nat×Nat×Nat×Nat
def xU (a b o:Array Cf)(x y mg ac bc:Nat):StateT CH Sem (ForInStep LoC):=do
  let z ← elem' a x
  if (x+1+1 == a.size)=true then pure (.done (some (o.push z++b.extract y b.size++a.extract (x+1) a.size),o.push z,x+1,y,mg,ac,bc))
  else if (decide (ac<7) && decide (bc<7))=true then pure (.done (none,o.push z,x+1,y,mg,ac,bc))
  else pure (.yield (none,o.push z,x+1,y,mg,ac,bc))
def xV (a b o:Array Cf)(x y mg ac bc:Nat):StateT CH Sem (ForInStep LoC):=do
  let z ← elem' b y
  if (y+1 == b.size)=true then pure (.done (some (o.push z++a.extract x a.size++b.extract (y+1) b.size),o.push z,x,y+1,mg,ac,bc))
  else do
    let z2 ← elem' a x
    let __x ← gal true z2 b (y+1) (b.size-(y+1)) 0
    match __x with
    | some k =>
      if k>0 then
        if (y+1+k == b.size)=true then pure (.done (some (o.push z++b.extract (y+1) (y+1+k)++a.extract x a.size++b.extract (y+1+k) b.size),o.push z++b.extract (y+1) (y+1+k),x,y+1+k,mg,ac,k))
        else xU a b (o.push z++b.extract (y+1) (y+1+k)) x (y+1+k) mg ac k
      else xU a b (o.push z) x (y+1) mg ac k
    | _=>pure (.done (some (o.push z++a.extract x a.size++b.extract (y+1) b.size),o.push z,x,y+1,mg,ac,bc))
def ui (a b p:Array Cf)(x y ac bc mg:Nat):StateT CH Sem (ForInStep LoC):=do
  modify (λs=>SortSt.mk' (kindOf s) (Cm s) (Cz s) mg (failedOf s))
  let z ← elem' b y
  let __x ← gal false z a x (a.size-x) 0
  match __x with
  | some k =>
    if k>0 then
      if (x+k+1 == a.size)=true then pure (.done (some (p++a.extract x (x+k)++b.extract y b.size++a.extract (x+k) a.size),p++a.extract x (x+k),x+k,y,mg,k,bc))
      else if (x+k == a.size)=true then pure (.done (some (p++a.extract x (x+k)++a.extract (x+k) a.size++b.extract y b.size),p++a.extract x (x+k),x+k,y,mg,k,bc))
      else xV a b (p++a.extract x (x+k)) (x+k) y mg k bc
    else xV a b p x y mg k bc
  | _=>pure (.done (some (p++a.extract x a.size++b.extract y b.size),p,x,y,mg,ac,bc))
def LoQ (key:Cf->O.α)(a b:Array Cf)(st:CH)(n:Nat)(r:ForInStep LoC)(st':CH):Prop:=match r with
 | .done c=>Sm st st'/\((∃r p x y mg ac bc,c=(some r,p,x,y,mg,ac,bc)/\eE key a b r)\/∃p x y mg ac bc,c=(none,p,x,y,mg,ac,bc)/\MW key a b p x y/\x+1<a.size/\y<b.size/\n<=p.size)
 | .yield c=>Sm st st'/\∃p x y mg ac bc,c=(none,p,x,y,mg,ac,bc)/\MW key a b p x y/\x+1<a.size/\y<b.size/\n<=p.size
theorem LoQ.out {a b:Array Cf}{st st':CH}{n:Nat}{r:Array Cf}{c:Array Cf×Nat×Nat×Nat×Nat×Nat}(sm:Sm st st')(f:eE key a b r):LoQ key a b st n (.done (some r,c)) st':=by
 obtain ⟨p,x,y,mg,ac,bc⟩:=c
 exact ⟨sm,.inl ⟨_,_,_,_,_,_,_,rfl,f⟩⟩
theorem sH {a b:Array Cf}{st st':CH}(ha:a.toList.Pairwise (Le key))(hb:b.toList.Pairwise (Le key))(hl:∀p q,p∈b.toList->a[a.size-1]? = some q->Le key p q)
  {o:Array Cf} {x y mg ac bc n:Nat} {za:Cf} (sm:Sm st st') (ea:a[x]? = some za) (m4:MW key a b (o.push za) (x+1) y) (hx:x+1<a.size) (hy:y<b.size) (hn:n<=o.size):wpS (Cn prog w) A E s (xU a b o x y mg ac bc) (LoQ key a b st n) st':=by
 unfold xU
 refine B6 (bu ea ?_)
 by_cases d5:(x+1+1 == a.size)=true
 ·rw[if_pos d5]
  exact Cj (LoQ.out sm (m4.last ha hb (beq_iff_eq.mp d5) hl))
 rw[if_neg d5]
 have hx2:x+1+1<a.size:=ltq hx d5
 have hn':n<=(o.push za).size:=by rw[EL];exact Fj hn
 split
 ·exact Cj ⟨sm,.inr ⟨_,_,_,_,_,_,rfl,m4,hx2,hy,hn'⟩⟩
 ·exact Cj ⟨sm,_,_,_,_,_,_,rfl,m4,hx2,hy,hn'⟩
theorem sI (C:Cmp prog w A s O key U κ){a b:Array Cf}{st st':CH}(hκ:kindOf st=κ)(ua:∀p∈a.toList,U p)(ub:∀p∈b.toList,U p)
  (ha:a.toList.Pairwise (Le key)) (hb:b.toList.Pairwise (Le key)) (hl:∀p q,p∈b.toList->a[a.size-1]? = some q->Le key p q)
  {o:Array Cf} {x y mg ac bc n:Nat} {zb:Cf} (sm:Sm st st') (eb:b[y]? = some zb) (mk:MW key a b o x y) (bl:∀t∈a.toList.drop x,Le key zb t) (hx1:x+1<a.size) (hy:y<b.size) (hn:n<=o.size):wpS (Cn prog w) A E s (xV a b o x y mg ac bc) (LoQ key a b st n) st':=by
 unfold xV
 refine B6 (bu eb ?_)
 have m2:=mk.mG eb hb bl
 by_cases d3:(y+1 == b.size)=true
 ·rw[if_pos d3]
  exact Cj (LoQ.out sm (m2.ug ha (beq_iff_eq.mp d3)))
 rw[if_neg d3]
 have hy1:y+1<b.size:=ltq hy d3
 have hxa:x<a.size:=Fl hx1
 obtain ⟨za,ea⟩:=bE hxa
 refine B6 (bu ea ?_)
 refine B6 (zW C (λi=>(b[y+1+i]?).getD za) (sm.k.trans hκ) (ua _ (cu ea)) (λi hi =>?_) (λi hi =>?_) (λi j hij hj =>?_) (Ji hy1) λk1 hk1 g1 g2 =>?_)
 ·obtain ⟨z,e⟩:=bE (show y+1+i<b.size by omega)
  rw[e];rfl
 ·obtain ⟨z,e⟩:=bE (show y+1+i<b.size by omega)
  rw[e];exact ub _ (cu e)
 ·obtain ⟨z,e⟩:=bE (show y+1+i<b.size by omega)
  obtain ⟨z',e'⟩:=bE (show y+1+j<b.size by omega)
  rw[e,e'];exact aT hb (aR e) (aR e') (Er hij _)
 dsimp only at g1 g2 ⊢
 have tb:∀j q,j<k1->b.toList[y+1+j]? = some q->∀t∈a.toList.drop x,Le key q t:=λj q hj e t ht=>by
  have z:=g1 j hj
  rw[Cd] at e
  rw[e] at z
  obtain ⟨n,hn,e2⟩:=bq ht
  exact CS (Dt z) (aT ha (aR ea) e2 hn)
 have hk1':y+1+k1<=b.size:=by omega
 have m3:=m2.vL (k:=k1) hk1' hb tb
 have bl2:∀t∈b.toList.drop (y+1+k1),Le key za t:=λt ht=>by
  obtain ⟨n,hn,e2⟩:=bq ht
  rw[Cd] at e2
  have hn2:n<b.size:=(DD.mp e2).1
  have z:=g2 (n-(y+1)) (by omega) (by omega)
  rw[show y+1+(n-(y+1))=n by omega,e2] at z
  exact z
 have hn1:n<=(o.push zb).size:=by rw[EL];exact Fj hn
 by_cases k2:k1>0
 ·rw[if_pos k2]
  by_cases d4:(y+1+k1 == b.size)=true
  ·rw[if_pos d4]
   exact Cj (LoQ.out sm (m3.ug ha (beq_iff_eq.mp d4)))
  rw[if_neg d4]
  exact sH ha hb hl sm ea (m3.jz ea ha bl2) hx1 (ltq hk1' d4) (Cq hn1 (by rw[EM];exact EZ _ _))
 ·rw[if_neg k2]
  obtain rfl:k1=0:=E3 k2
  exact sH ha hb hl sm ea (m2.jz ea ha bl2) hx1 hy1 hn1
theorem sM (C:Cmp prog w A s O key U κ){a b:Array Cf}{st st':CH}(hκ:kindOf st=κ)(ua:∀p∈a.toList,U p)(ub:∀p∈b.toList,U p)
  (ha:a.toList.Pairwise (Le key)) (hb:b.toList.Pairwise (Le key)) (hl:∀p q,p∈b.toList->a[a.size-1]? = some q->Le key p q)
  {p:Array Cf} {x y ac bc n:Nat} (mg:Nat) (sm:Sm st st') (m:MW key a b p x y) (hx:x+1<a.size) (hy:y<b.size) (hn:n<=p.size):wpS (Cn prog w) A E s (ui a b p x y ac bc mg) (LoQ key a b st n) st':=by
 unfold ui
 obtain ⟨zb,eb⟩:=bE hy
 refine B6 (Eo ?_)
 refine B6 (bu eb ?_)
 refine B6 (zV C (λi=>(a[x+i]?).getD zb) ((sm.mg _).k.trans hκ) (ub _ (cu eb)) (λi hi =>?_) (λi hi =>?_) (λi j hij hj =>?_) (Ji (Fl hx)) λk hk h1 h2 =>?_)
 ·obtain ⟨z,e⟩:=bE (show x+i<a.size by omega)
  rw[e];rfl
 ·obtain ⟨z,e⟩:=bE (show x+i<a.size by omega)
  rw[e];exact ua _ (cu e)
 ·obtain ⟨z,e⟩:=bE (show x+i<a.size by omega)
  obtain ⟨z',e'⟩:=bE (show x+j<a.size by omega)
  rw[e,e'];exact aT ha (aR e) (aR e') (Er hij _)
 dsimp only at h1 h2 ⊢
 have ta:∀j q,j<k->a.toList[x+j]? = some q->∀t∈b.toList.drop y,Le key q t:=λj q hj e t ht=>by
  have z:=h1 j hj
  rw[Cd] at e
  rw[e] at z
  obtain ⟨n,hn,e2⟩:=bq ht
  exact CS (show O.kle (key q) (key zb) from z) (aT hb (aR eb) e2 hn)
 have hk':x+k<=a.size:=by omega
 have mk:=m.vK (k:=k) hk' ha ta
 have bl:∀t∈a.toList.drop (x+k),Le key zb t:=λt ht=>by
  obtain ⟨n,hn,e2⟩:=bq ht
  rw[Cd] at e2
  have hn2:n<a.size:=(DD.mp e2).1
  have z:=h2 (n-x) (by omega) (by omega)
  rw[show x+(n-x)=n by omega,e2] at z
  exact Dt z
 by_cases k0:k>0
 ·rw[if_pos k0]
  by_cases d1:(x+k+1 == a.size)=true
  ·rw[if_pos d1]
   exact Cj (LoQ.out (sm.mg _) (mk.last ha hb (beq_iff_eq.mp d1) hl))
  rw[if_neg d1]
  by_cases d2:(x+k == a.size)=true
  ·rw[if_pos d2]
   exact Cj (LoQ.out (sm.mg _) (mk.uh hb (beq_iff_eq.mp d2)))
  rw[if_neg d2]
  exact sI C hκ ua ub ha hb hl (sm.mg _) eb mk bl (ltq (ltq hk' d2) d1) hy (Cq hn (by rw[EM];exact EZ _ _))
 ·rw[if_neg k0]
  obtain rfl:k=0:=E3 k0
  exact sI C hκ ua ub ha hb hl (sm.mg _) eb m bl hx hy hn
theorem xW (C:Cmp prog w A s O key U κ){a b:Array Cf}{st st':CH}(hκ:kindOf st=κ)(ua:∀p∈a.toList,U p)(ub:∀p∈b.toList,U p)
  (ha:a.toList.Pairwise (Le key)) (hb:b.toList.Pairwise (Le key)) (hl:∀p q,p∈b.toList->a[a.size-1]? = some q->Le key p q)
  {p:Array Cf} {x y ac bc n mg:Nat} (sm:Sm st st') (m:MW key a b p x y) (hx:x+1<a.size) (hy:y<b.size) (hn:n<=p.size):wpS (Cn prog w) A E s (if mg>1 then ui a b p x y ac bc (mg-1) else ui a b p x y ac bc mg) (LoQ key a b st n) st':=by
 split
 ·exact sM C hκ ua ub ha hb hl (mg-1) sm m hx hy hn
 ·exact sM C hκ ua ub ha hb hl mg sm m hx hy hn
abbrev LoD:=Option (Array Cf)×Array Cf×Nat×Nat×Nat×Nat
abbrev LoE:=Option (Array Cf)×Array Cf×Nat×Nat×Nat
def vM (a b:Array Cf)(mg:Nat)(c:LoD):StateT CH Sem (ForInStep LoD):=do
  let u ← elem' b c.2.2.2.1
  let v ← elem' a c.2.2.1
  let __x ← lt' u v
  match __x with
  | some bw =>
    if bw=true then do
      let z ← elem' b c.2.2.2.1
      if (c.2.2.2.1+1 == b.size)=true then pure (.done (some (c.2.1.push z++a.extract c.2.2.1 a.size++b.extract (c.2.2.2.1+1) b.size),c.2.1.push z,c.2.2.1,c.2.2.2.1+1,0,c.2.2.2.2.2+1))
      else if c.2.2.2.2.2+1≥mg then pure (.done (none,c.2.1.push z,c.2.2.1,c.2.2.2.1+1,0,c.2.2.2.2.2+1))
      else pure (.yield (none,c.2.1.push z,c.2.2.1,c.2.2.2.1+1,0,c.2.2.2.2.2+1))
    else do
      let z ← elem' a c.2.2.1
      if (c.2.2.1+1+1 == a.size)=true then pure (.done (some (c.2.1.push z++b.extract c.2.2.2.1 b.size++a.extract (c.2.2.1+1) a.size),c.2.1.push z,c.2.2.1+1,c.2.2.2.1,c.2.2.2.2.1+1,0))
      else if c.2.2.2.2.1+1≥mg then pure (.done (none,c.2.1.push z,c.2.2.1+1,c.2.2.2.1,c.2.2.2.2.1+1,0))
      else pure (.yield (none,c.2.1.push z,c.2.2.1+1,c.2.2.2.1,c.2.2.2.2.1+1,0))
  | _=>pure (.done (some (c.2.1++a.extract c.2.2.1 a.size++b.extract c.2.2.2.1 b.size),c.2.1,c.2.2.1,c.2.2.2.1,c.2.2.2.2.1,c.2.2.2.2.2))
def zX (a b:Array Cf)(c:LoC):StateT CH Sem (ForInStep LoC) :=
 if c.2.2.2.2.1>1 then ui a b c.2.1 c.2.2.1 c.2.2.2.1 c.2.2.2.2.2.1 c.2.2.2.2.2.2 (c.2.2.2.2.1-1) else ui a b c.2.1 c.2.2.1 c.2.2.2.1 c.2.2.2.2.2.1 c.2.2.2.2.2.2 c.2.2.2.2.1
def qP (a b:Array Cf)(c:LoE):StateT CH Sem (ForInStep LoE):=do
  let d ← forIn [0:a.size+b.size] ((none,c.2.1,c.2.2.1,c.2.2.2.1,0,0):LoD) λ_ d=>vM a b c.2.2.2.2 d
  match d.1 with
  | some r=>pure (.done (some r,d.2.1,d.2.2.1,d.2.2.2.1,c.2.2.2.2))
  | none=>do
    rule "list.sort.gallop"
    let e ← forIn [0:a.size+b.size] ((none,d.2.1,d.2.2.1,d.2.2.2.1,c.2.2.2.2+1,d.2.2.2.2.1,d.2.2.2.2.2):LoC) λ_ e=>zX a b e
    match e.1 with
    | some r=>pure (.done (some r,e.2.1,e.2.2.1,e.2.2.2.1,e.2.2.2.2.1))
    | none=>do
      modify (λs=>SortSt.mk' (kindOf s) (Cm s) (Cz s) (e.2.2.2.2.1+1) (failedOf s))
      pure (.yield (none,e.2.1,e.2.2.1,e.2.2.2.1,e.2.2.2.2.1+1))
theorem xX (a b:Array Cf):mLo a b=(do
    rule "list.sort.merge-lo"
    let z ← elem' b 0
    if (1 == b.size)=true then pure (#[z]++a.extract 0 a.size++b.extract 1 b.size)
    else if (0+1 == a.size)=true then pure (#[z]++b.extract 1 b.size++a.extract 0 a.size)
    else do
      let g ← get
      let c ← forIn [0:a.size+b.size] ((none, #[z],0,1,gallopOf g):LoE) λ_ c=>qP a b c
      match c.1 with
      | some r=>pure r
      | none=>unsupported "internal:list.sort.merge-bound"):=by
  kernel_rfl
def LdI (key:Cf->O.α)(a b:Array Cf)(st:CH)(n:Nat)(c:LoD)(st':CH):Prop:=Sm st st'/\∃o' x y ac bc,c=(none,o',x,y,ac,bc)/\MW key a b o' x y/\x+1<a.size/\y<b.size/\n<=o'.size
def LdQ (key:Cf->O.α)(a b:Array Cf)(st:CH)(n:Nat)(c:LoD)(st':CH):Prop:=Sm st st'/\((∃r o x y ac bc,c=(some r,o,x,y,ac,bc)/\eE key a b r)\/∃o' x y ac bc,c=(none,o',x,y,ac,bc)/\MW key a b o' x y/\x+1<a.size/\y<b.size/\n<=o'.size)
theorem vN (C:Cmp prog w A s O key U κ){a b:Array Cf}{st st':CH}(hκ:kindOf st=κ)(ua:∀p∈a.toList,U p)(ub:∀p∈b.toList,U p)
  (ha:a.toList.Pairwise (Le key)) (hb:b.toList.Pairwise (Le key)) (hl:∀p q,p∈b.toList->a[a.size-1]? = some q->Le key p q)
  {mg n m':Nat} {c:LoD} (I:LdI key a b st n c st') (hm:m'<=n+1) {Q:ForInStep LoD->CH->Prop} (h:∀r st',(match r with | .done c'=>LdQ key a b st (n+1) c' st' | .yield c'=>LdI key a b st m' c' st')->Q r st'):wpS (Cn prog w) A E s (vM a b mg c) Q st':=by
 obtain ⟨sm2,o',x,y,ac,bc,rfl,m,hx,hy,hz⟩:=I
 unfold vM
 obtain ⟨za,ea⟩:=bE (Fl hx)
 obtain ⟨zb,eb⟩:=bE hy
 refine B6 (bu eb (B6 (bu ea (B6 (C.lt _ st' zb za _ (sm2.k.trans hκ) (ub _ (cu eb)) (ua _ (cu ea)) ?_)))))
 dsimp only
 have sz:∀z,n+1<=(o'.push z).size:=λz=>by rw[EL];exact Jz hz
 cases hlt:O.blt (key zb) (key za) with
 | true =>
  rw[if_pos rfl]
  refine B6 (bu eb ?_)
  have m1:=m.mG eb hb λt ht=>by
   obtain ⟨n,hn,e⟩:=bq ht
   exact CS (Dt hlt) (aT ha (aR ea) e hn)
  by_cases c3:(y+1 == b.size)=true
  ·rw[if_pos c3]
   exact Cj (h _ _ ⟨sm2,.inl ⟨_,_,_,_,_,_,rfl,m1.ug ha (beq_iff_eq.mp c3)⟩⟩)
  ·rw[if_neg c3]
   have c3':=ltq hy c3
   split
   ·exact Cj (h _ _ ⟨sm2,.inr ⟨_,_,_,_,_,rfl,m1,hx,c3',sz _⟩⟩)
   ·exact Cj (h _ _ ⟨sm2,_,_,_,_,_,rfl,m1,hx,c3',Cq hm (sz _)⟩)
 | false =>
  rw[if_neg B2]
  refine B6 (bu ea ?_)
  have m1:=m.jz ea ha λt ht=>by
   obtain ⟨n,hn,e⟩:=bq ht
   exact CS (show O.kle (key za) (key zb) from hlt) (aT hb (aR eb) e hn)
  by_cases c3:(x+1+1 == a.size)=true
  ·rw[if_pos c3]
   exact Cj (h _ _ ⟨sm2,.inl ⟨_,_,_,_,_,_,rfl,m1.last ha hb (beq_iff_eq.mp c3) hl⟩⟩)
  ·rw[if_neg c3]
   have c3':=ltq hx c3
   split
   ·exact Cj (h _ _ ⟨sm2,.inr ⟨_,_,_,_,_,rfl,m1,c3',hy,sz _⟩⟩)
   ·exact Cj (h _ _ ⟨sm2,_,_,_,_,_,rfl,m1,c3',hy,Cq hm (sz _)⟩)
def LeI (key:Cf->O.α)(a b:Array Cf)(st:CH)(n:Nat)(c:LoE)(st':CH):Prop:=Sm st st'/\∃o x y mg,c=(none,o,x,y,mg)/\MW key a b o x y/\x+1<a.size/\y<b.size/\n+1<=o.size
def LeQ (key:Cf->O.α)(a b:Array Cf)(st:CH)(c:LoE)(st':CH):Prop:=Sm st st'/\((∃r o x y mg,c=(some r,o,x,y,mg)/\eE key a b r)\/∃o x y mg,c=(none,o,x,y,mg)/\MW key a b o x y/\x+1<a.size/\y<b.size/\a.size+b.size+1<=o.size)
theorem uj (C:Cmp prog w A s O key U κ){a b:Array Cf}{st st':CH}(hκ:kindOf st=κ)(ua:∀p∈a.toList,U p)(ub:∀p∈b.toList,U p)
  (ha:a.toList.Pairwise (Le key)) (hb:b.toList.Pairwise (Le key)) (na:0<a.size) (hl:∀p q,p∈b.toList->a[a.size-1]? = some q->Le key p q)
  {n:Nat} {c:LoE} (I:LeI key a b st n c st'):wpS (Cn prog w) A E s (qP a b c) (λr st'=>match r with | .done c'=>LeQ key a b st c' st' | .yield c'=>LeI key a b st (n+1) c' st') st':=by
 obtain ⟨sm1,o,x,y,mg,rfl,m,hx,hy,hz⟩:=I
 unfold qP
 have q1:1<=a.size+b.size:=Cq na (EZ _ _)
 refine B6 (D6 (Dn (I:=λj c st'=>LdI key a b st (o.size+min j 1) c st') (Q:=LdQ key a b st (o.size+1)) (λj c st2 _ hj J=>vN (n:=o.size+min j 1) (m':=o.size+min (j+1) 1) C hκ ua ub ha hb hl J (by omega) λr st' k =>?_) (λc st' J =>?_) ⟨sm1,o,x,y,0,0,rfl,m,hx,hy,BV _⟩) ?_)
 ·cases r with
  | done c'=>exact k.imp id λz=>z.imp id λ⟨o',x,y,ac,bc,e,m,hx,hy,hz⟩=>⟨o',x,y,ac,bc,e,m,hx,hy,by omega⟩
  | yield c'=>exact k
 ·obtain ⟨sm,o',x,y,ac,bc,e,m,hx,hy,hz⟩:=J
  exact ⟨sm,.inr ⟨o',x,y,ac,bc,e,m,hx,hy,by omega⟩⟩
 rintro c st2 ⟨sm2,⟨r,o',x,y,ac,bc,rfl,fr⟩ | ⟨o',x,y,ac,bc,rfl,m,hx,hy,hz2⟩⟩
 ·exact Cj ⟨sm2,.inl ⟨_,_,_,_,_,rfl,fr⟩⟩
 dsimp only
 refine B6 (GF (En ⟨rfl,?_⟩))
 refine B6 (D6 (Dn (I:=λ_ c st'=>LoQ key a b st o'.size (.yield c) st') (Q:=λc st'=>LoQ key a b st o'.size (.done c) st') (λj c st3 _ hj J =>?_) (λc st' J=>⟨J.1,.inr J.2⟩) ⟨sm2,o',x,y,_,ac,bc,rfl,m,hx,hy,BV _⟩) ?_)
 ·obtain ⟨sm3,p,x,y,mg,ac,bc,rfl,m,hx,hy,hz3⟩:=J
  refine D6 (xW C hκ ua ub ha hb hl sm3 m hx hy hz3) ?_
  intro r st' h
  cases r <;> exact h
 rintro c st3 ⟨sm3,⟨r,p,x,y,mg,ac,bc,rfl,fr⟩ | ⟨p,x,y,mg,ac,bc,rfl,m,hx,hy,hz3⟩⟩
 ·exact Cj ⟨sm3,.inl ⟨_,_,_,_,_,rfl,fr⟩⟩
 ·dsimp only
  exact B6 (Eo (Cj ⟨sm3.mg _,p,x,y,_,rfl,m,hx,hy,by omega⟩))
theorem zY (C:Cmp prog w A s O key U κ){a b:Array Cf}{st:CH}{Q:Array Cf->CH->Prop}(hκ:kindOf st=κ)(ua:∀p∈a.toList,U p)(ub:∀p∈b.toList,U p)
  (ha:a.toList.Pairwise (Le key)) (hb:b.toList.Pairwise (Le key)) (na:0<a.size) (nb:0<b.size) (h0:∀p q,b[0]? = some p->a[0]? = some q->Le key p q) (hl:∀p q,p∈b.toList->a[a.size-1]? = some q->Le key p q)
  (h:∀r st',Sm st st'->eE key a b r->Q r st'):wpS (Cn prog w) A E s (mLo a b) Q st:=by
 rw[xX]
 refine B6 (GF (En ⟨rfl,?_⟩))
 obtain ⟨b0,eb0⟩:=bE nb
 obtain ⟨a0,ea0⟩:=bE na
 have a0le:∀t∈a.toList,Le key a0 t:=λt ht=>by
  obtain ⟨i,e⟩:=Dg.mp ht
  exact aT ha (aR ea0) e (CC _)
 have m0:MW key a b #[] 0 0:=⟨CC _,CC _,E1 _,List.Pairwise.nil,λp hp=>by cases hp⟩
 have m1:MW key a b #[b0] 0 1:=m0.mG eb0 hb λt ht=>CS (h0 _ _ eb0 ea0) (a0le t ht)
 refine B6 (bu eb0 ?_)
 by_cases c1:(1 == b.size)=true
 ·rw[if_pos c1]
  exact Cj (h _ st (Sm.refl st) (m1.ug ha (beq_iff_eq.mp c1)))
 rw[if_neg c1]
 by_cases c2:(0+1 == a.size)=true
 ·rw[if_pos c2]
  exact Cj (h _ st (Sm.refl st) (m1.last ha hb (beq_iff_eq.mp c2) hl))
 rw[if_neg c2]
 refine B6 (Gq ?_)
 refine B6 (D6 (Dn (I:=λi c st'=>LeI key a b st i c st') (Q:=LeQ key a b st) (λi c st1 _ _ J=>D6 (uj C hκ ua ub ha hb na hl J) λr st' h=>by cases r <;> exact h) (λc st' J =>?_) ⟨Sm.refl st,_,_,_,_,rfl,m1,ltq na c2,ltq nb c1,BV _⟩) ?_)
 ·obtain ⟨sm,o,x,y,mg,e,m,hx,hy,hz⟩:=J
  exact ⟨sm,.inr ⟨o,x,y,mg,e,m,hx,hy,by omega⟩⟩
 rintro c st' ⟨sm,⟨r,o,x,y,mg,rfl,fr⟩ | ⟨o,x,y,mg,rfl,m,hx,hy,hz⟩⟩
 ·exact Cj (h r st' sm fr)
 ·have:=m.size
  omega
end
open PySem PyProof.Rows
section
variable  {O:GR}(key:Cf->O.α)
structure MV (a b o:Array Cf)(x y:Nat):Prop where
 hx:x<=a.size
 hy:y<=b.size
 perm:((a.toList.take x++b.toList.take y)++o.toList.reverse).Perm (a.toList++b.toList)
 sorted:o.toList.reverse.Pairwise (Le key)
 above:∀p∈a.toList.take x++b.toList.take y,∀q∈o.toList.reverse,Le key p q
variable  {key}
theorem MV.fin {a b o:Array Cf}{x y:Nat}(m:MV key a b o x y){t:List Cf}{r:Array Cf}(hr:r.toList=t++o.toList.reverse)(ht:t.Perm (a.toList.take x++b.toList.take y))(hs:t.Pairwise (Le key)):eE key a b r:=by
 unfold eE
 rw[hr]
 exact ⟨(Ey _ ht).trans m.perm,Du.mpr ⟨hs,m.sorted,λp hp q hq=>m.above p (ht.mem_iff.mp hp) q hq⟩⟩
theorem MV.take {a b o:Array Cf}{x y x' y':Nat}(m:MV key a b o x y){t:List Cf}{r:Array Cf}(hr:r.toList.reverse=t++o.toList.reverse)(hx:x'<=a.size)(hy:y'<=b.size)
  (ht:((a.toList.take x'++b.toList.take y')++t).Perm (a.toList.take x++b.toList.take y)) (hs:t.Pairwise (Le key)) (hb:∀p∈a.toList.take x'++b.toList.take y',∀q∈t,Le key p q):MV key a b r x' y':=by
 have sub:∀z,z∈a.toList.take x'++b.toList.take y'\/z∈t->z∈a.toList.take x++b.toList.take y:=λz hz=>ht.mem_iff.mp (B5.mpr hz)
 refine ⟨hx,hy,?_,?_,?_⟩
 ·rw[hr, <- CL]
  exact (Ey _ ht).trans m.perm
 ·rw[hr]
  exact Du.mpr ⟨hs,m.sorted,λp hp q hq=>m.above p (sub p (.inr hp)) q hq⟩
 ·rw[hr]
  intro p hp z hz
  rcases B5.mp hz with h | h
  ·exact hb p hp z h
  ·exact m.above p (sub p (.inl hp)) z h
theorem bF {l:List Cf}{k:Nat}{t:Cf}(h:t∈l.take k):∃j,j<k/\l[j]? = some t:=by
 obtain ⟨n,e⟩:=Dg.mp h
 rw[Ec] at e
 split at e
 ·exact ⟨n,by omega,e⟩
 ·cases e
theorem mH {l:List Cf}{x:Nat}{z:Cf}(hx:1<=x)(h:l[x-1]? = some z):l.take x=l.take (x-1)++[z]:=by
 obtain ⟨n,rfl⟩:∃n,x=n+1:=⟨x-1,by omega⟩
 rw[Nat.add_sub_cancel] at h ⊢
 rw[DA,h]
 rfl
theorem sN (a:Array Cf)(c x:Nat)(hx:x<=a.size):(a.extract c x).toList=(a.toList.take x).drop c:=by
 rw[Ei,DI,List.drop_take]
theorem gz (a:Array Cf)(x:Nat):(a.extract 0 x).toList=a.toList.take x:=by
 rw[Ei,DI,IC,Nat.sub_zero]
theorem MV.jz {a b o:Array Cf}{x y:Nat}{z:Cf}(m:MV key a b o x y)(h1:1<=x)(h:a[x-1]? = some z)(ha:a.toList.Pairwise (Le key))(hb:∀t∈b.toList.take y,Le key t z):MV key a b (o.push z) (x-1) y:=by
 have e:=mH h1 (aR h)
 refine m.take (t:=[z]) (by rw[EK,Eu];rfl) (by have:=m.hx;omega) m.hy ?_ (DR _ _) λp hp q hq =>?_
 ·rw[e,CL,CL]
  exact DN _ E8
 ·have eq:q=z:=by simpa using hq
  subst eq
  rcases B5.mp hp with r | r
  ·obtain ⟨j,hj,e2⟩:=bF r
   exact aT ha e2 (aR h) (by omega)
  ·exact hb p r
theorem MV.mG {a b o:Array Cf}{x y:Nat}{z:Cf}(m:MV key a b o x y)(h1:1<=y)(h:b[y-1]? = some z)(hb:b.toList.Pairwise (Le key))(ha:∀t∈a.toList.take x,Le key t z):MV key a b (o.push z) x (y-1):=by
 have e:=mH h1 (aR h)
 refine m.take (t:=[z]) (by rw[EK,Eu];rfl) m.hx (by have:=m.hy;omega) ?_ (DR _ _) λp hp q hq =>?_
 ·rw[e,CL]
 ·have eq:q=z:=by simpa using hq
  subst eq
  rcases B5.mp hp with r | r
  ·exact ha p r
  ·obtain ⟨j,hj,e2⟩:=bF r
   exact aT hb e2 (aR h) (by omega)
theorem sO (l:List Cf){c x:Nat}(h:c<=x):l.take x=l.take c++(l.take x).drop c:=by
 have e:(l.take x).take c=l.take c:=by rw[List.take_take,Nat.min_eq_left h]
 rw[<- e,D7]
theorem kN {l:List Cf}{c x:Nat}{t:Cf}(h:t∈(l.take x).drop c):∃j,c<=j/\j<x/\l[j]? = some t:=by
 obtain ⟨j,hj,e⟩:=bq h
 rw[Ec] at e
 split at e
 ·exact ⟨j,hj,by omega,e⟩
 ·cases e
theorem MV.vK {a b o:Array Cf}{x y c:Nat}(m:MV key a b o x y)(hc:c<=x)(ha:a.toList.Pairwise (Le key))(hb:∀j p,c<=j->j<x->a.toList[j]? = some p->∀t∈b.toList.take y,Le key t p):MV key a b (o++(a.extract c x).reverse) c y:=by
 refine m.take (t:=(a.toList.take x).drop c) (by rw[CD,Eu,EH,D0,sN _ _ _ m.hx]) (Cq hc m.hx) m.hy ?_ ?_ λp hp q hq =>?_
 ·refine List.Perm.trans ?_ (Ey _ (List.Perm.of_eq (sO a.toList hc).symm))
  rw[CL,CL]
  exact DN _ E8
 ·exact ha.sublist ((Dk _ _).trans (Ds _ _))
 ·obtain ⟨j,h1,h2,e⟩:=kN hq
  rcases B5.mp hp with r | r
  ·obtain ⟨i,hi,e2⟩:=bF r
   exact aT ha e2 e (by omega)
  ·exact hb j q h1 h2 e p r
theorem MV.vL {a b o:Array Cf}{x y c:Nat}(m:MV key a b o x y)(hc:c<=y)(hb:b.toList.Pairwise (Le key))(ha:∀j p,c<=j->j<y->b.toList[j]? = some p->∀t∈a.toList.take x,Le key t p):MV key a b (o++(b.extract c y).reverse) x c:=by
 refine m.take (t:=(b.toList.take y).drop c) (by rw[CD,Eu,EH,D0,sN _ _ _ m.hy]) m.hx (Cq hc m.hy) ?_ ?_ λp hp q hq =>?_
 ·rw[CL, <- sO b.toList hc]
 ·exact hb.sublist ((Dk _ _).trans (Ds _ _))
 ·obtain ⟨j,h1,h2,e⟩:=kN hq
  rcases B5.mp hp with r | r
  ·exact ha j q h1 h2 e p r
  ·obtain ⟨i,hi,e2⟩:=bF r
   exact aT hb e2 e (by omega)
theorem MV.uh {a b o:Array Cf}{x y:Nat}(m:MV key a b o x y)(hb:b.toList.Pairwise (Le key))(hx:x=0):eE key a b (a.extract 0 x++b.extract 0 y++o.reverse):=by
 subst hx
 refine m.fin (t:=b.toList.take y) (by rw[CD,CD,gz,gz,EH,Fs,Ib]) (by rw[Fs,Ib]) (hb.sublist (Ds _ _))
theorem MV.ug {a b o:Array Cf}{x y:Nat}(m:MV key a b o x y)(ha:a.toList.Pairwise (Le key))(hy:y=0):eE key a b (a.extract 0 x++b.extract 0 y++o.reverse):=by
 subst hy
 refine m.fin (t:=a.toList.take x) (by rw[CD,CD,gz,gz,EH,Fs,CF]) (by rw[Fs,CF]) (ha.sublist (Ds _ _))
theorem MV.first {a b o:Array Cf}{x y:Nat}(m:MV key a b o x y)(ha:a.toList.Pairwise (Le key))(hb:b.toList.Pairwise (Le key))(hy:y=1)(hl:∀p q,b[0]? = some p->q∈a.toList->Le key p q):eE key a b (b.extract 0 y++a.extract 0 x++o.reverse):=by
 refine m.fin (t:=b.toList.take y++a.toList.take x) (by rw[CD,CD,gz,gz,EH]) E8 ?_
 refine Du.mpr ⟨hb.sublist (Ds _ _),ha.sublist (Ds _ _),λp hp q hq=>hl p q ?_ (DF hq)⟩
 obtain ⟨i,hi,e⟩:=bF hp
 rw[Cd] at e
 rw[show i=0 by omega] at e
 exact e
theorem MV.size {a b o:Array Cf}{x y:Nat}(m:MV key a b o x y):o.size+x+y=a.size+b.size:=by
 have e:=m.perm.length_eq
 have h1:=m.hx
 have h2:=m.hy
 simp only[BU,DK,B0,C7] at e
 omega
end
open PySem PyProof.Rows
section
variable  {prog:B7}{w:CJ}{A:CK}{E:BP->BR->Prop}{s:BR}{O:GR}{key:Cf->O.α}{U:Cf->Prop}{κ:SortKind}
abbrev HiC:=Option (Array Cf)×Nat×Nat×Array Cf×Nat×Nat×Nat
def xY (a b:Array Cf)(x y:Nat)(o:Array Cf)(mg ac bc:Nat):StateT CH Sem (ForInStep HiC):=do
  let z ← elem' a (x-1)
  if (x-1 == 0)=true then pure (.done (some (a.extract 0 (x-1)++b.extract 0 y++(o.push z).reverse),x-1,y,o.push z,mg,ac,bc))
  else if (decide (ac<7) && decide (bc<7))=true then pure (.done (none,x-1,y,o.push z,mg,ac,bc))
  else pure (.yield (none,x-1,y,o.push z,mg,ac,bc))
def xZ (a b:Array Cf)(x y:Nat)(o:Array Cf)(mg ac bc:Nat):StateT CH Sem (ForInStep HiC):=do
  let z ← elem' b (y-1)
  if (y-1 == 1)=true then pure (.done (some (b.extract 0 (y-1)++a.extract 0 x++(o.push z).reverse),x,y-1,o.push z,mg,ac,bc))
  else do
    let z2 ← elem' a (x-1)
    let __x ← gal true z2 b 0 (y-1) (y-1-1)
    match __x with
    | some c =>
      if y-1-c>0 then
        if (c == 1)=true then pure (.done (some (b.extract 0 c++a.extract 0 x++(o.push z++(b.extract c (y-1)).reverse).reverse),x,c,o.push z++(b.extract c (y-1)).reverse,mg,ac,y-1-c))
        else if (c == 0)=true then pure (.done (some (a.extract 0 x++b.extract 0 c++(o.push z++(b.extract c (y-1)).reverse).reverse),x,c,o.push z++(b.extract c (y-1)).reverse,mg,ac,y-1-c))
        else xY a b x c (o.push z++(b.extract c (y-1)).reverse) mg ac (y-1-c)
      else xY a b x (y-1) (o.push z) mg ac (y-1-c)
    | _=>pure (.done (some (a.extract 0 x++b.extract 0 (y-1)++(o.push z).reverse),x,y-1,o.push z,mg,ac,bc))
def uo (a b:Array Cf)(x y:Nat)(p:Array Cf)(ac bc mg:Nat):StateT CH Sem (ForInStep HiC):=do
  modify (λs=>SortSt.mk' (kindOf s) (Cm s) (Cz s) mg (failedOf s))
  let z ← elem' b (y-1)
  let __x ← gal false z a 0 x (x-1)
  match __x with
  | some c =>
    if x-c>0 then
      if (c == 0)=true then pure (.done (some (a.extract 0 c++b.extract 0 y++(p++(a.extract c x).reverse).reverse),c,y,p++(a.extract c x).reverse,mg,x-c,bc))
      else xZ a b c y (p++(a.extract c x).reverse) mg (x-c) bc
    else xZ a b x y p mg (x-c) bc
  | _=>pure (.done (some (a.extract 0 x++b.extract 0 y++p.reverse),x,y,p,mg,ac,bc))
def HiQ (key:Cf->O.α)(a b:Array Cf)(st:CH)(n:Nat)(r:ForInStep HiC)(st':CH):Prop:=match r with
 | .done c=>Sm st st'/\((∃r x y p mg ac bc,c=(some r,x,y,p,mg,ac,bc)/\eE key a b r)\/∃x y p mg ac bc,c=(none,x,y,p,mg,ac,bc)/\MV key a b p x y/\1<=x/\2<=y/\n<=p.size)
 | .yield c=>Sm st st'/\∃x y p mg ac bc,c=(none,x,y,p,mg,ac,bc)/\MV key a b p x y/\1<=x/\2<=y/\n<=p.size
theorem HiQ.out {a b:Array Cf}{st st':CH}{n:Nat}{r:Array Cf}{c:Nat×Nat×Array Cf×Nat×Nat×Nat}(sm:Sm st st')(f:eE key a b r):HiQ key a b st n (.done (some r,c)) st':=by
 obtain ⟨p,x,y,mg,ac,bc⟩:=c
 exact ⟨sm,.inl ⟨_,_,_,_,_,_,_,rfl,f⟩⟩
theorem vO {x:Nat}(c:¬ (x == 0)=true):1<=x:=Nat.pos_of_ne_zero λz=>c (beq_iff_eq.mpr z)
theorem x6 {y:Nat}(h:1<=y)(c:¬ (y == 1)=true):2<=y:=IY h λz=>c (beq_iff_eq.mpr z.symm)
theorem sP {a b:Array Cf}{st st':CH}(hb:b.toList.Pairwise (Le key))
  {o:Array Cf} {x y mg ac bc n:Nat} {za:Cf} (sm:Sm st st') (ea:a[x-1]? = some za) (m4:MV key a b (o.push za) (x-1) y) (hy:2<=y) (hn:n<=o.size):wpS (Cn prog w) A E s (xY a b x y o mg ac bc) (HiQ key a b st n) st':=by
 unfold xY
 refine B6 (bu ea ?_)
 by_cases d5:(x-1 == 0)=true
 ·rw[if_pos d5]
  exact Cj (HiQ.out sm (m4.uh hb (beq_iff_eq.mp d5)))
 rw[if_neg d5]
 have hx2:=vO d5
 have hn':n<=(o.push za).size:=by rw[EL];exact Fj hn
 split
 ·exact Cj ⟨sm,.inr ⟨_,_,_,_,_,_,rfl,m4,hx2,hy,hn'⟩⟩
 ·exact Cj ⟨sm,_,_,_,_,_,_,rfl,m4,hx2,hy,hn'⟩
theorem sQ (C:Cmp prog w A s O key U κ){a b:Array Cf}{st st':CH}(hκ:kindOf st=κ)(ua:∀p∈a.toList,U p)(ub:∀p∈b.toList,U p)
  (ha:a.toList.Pairwise (Le key)) (hb:b.toList.Pairwise (Le key)) (h0:∀p q,b[0]? = some p->q∈a.toList->Le key p q)
  {o:Array Cf} {x y mg ac bc n:Nat} {zb:Cf} (sm:Sm st st') (eb:b[y-1]? = some zb) (mk:MV key a b o x y) (bl:∀t∈a.toList.take x,Le key t zb) (hx1:1<=x) (hy:2<=y) (hn:n<=o.size):wpS (Cn prog w) A E s (xZ a b x y o mg ac bc) (HiQ key a b st n) st':=by
 unfold xZ
 refine B6 (bu eb ?_)
 have m2:=mk.mG (Jk hy) eb hb bl
 have y1:1<=y-1:=Ej hy
 have bx1:=mk.hx
 have by1:=mk.hy
 by_cases d3:(y-1 == 1)=true
 ·rw[if_pos d3]
  exact Cj (HiQ.out sm (m2.first ha hb (beq_iff_eq.mp d3) h0))
 rw[if_neg d3]
 have hy1:=x6 y1 d3
 obtain ⟨za,ea⟩:=bE (show x-1<a.size by omega)
 refine B6 (bu ea ?_)
 refine B6 (zW C (λi=>(b[i]?).getD za) (sm.k.trans hκ) (ua _ (cu ea)) (λi hi =>?_) (λi hi =>?_) (λi j hij hj =>?_) (Gv y1) λc2 hc2 g1 g2 =>?_)
 ·obtain ⟨z,e⟩:=bE (show i<b.size by omega)
  rw[FH,e];rfl
 ·obtain ⟨z,e⟩:=bE (show i<b.size by omega)
  rw[e];exact ub _ (cu e)
 ·obtain ⟨z,e⟩:=bE (show i<b.size by omega)
  obtain ⟨z',e'⟩:=bE (show j<b.size by omega)
  rw[e,e'];exact aT hb (aR e) (aR e') hij
 dsimp only at g1 g2 ⊢
 have tb:∀j q,c2<=j->j<y-1->b.toList[j]? = some q->∀t∈a.toList.take x,Le key t q:=λj q hj hj2 e t ht=>by
  have z:=g2 j hj hj2
  rw[Cd] at e
  rw[e] at z
  obtain ⟨n,hn,e2⟩:=bF ht
  exact CS (aT ha e2 (aR ea) (Ej hn)) z
 have m3:=m2.vL hc2 hb tb
 have bl2:∀t∈b.toList.take c2,Le key t za:=λt ht=>by
  obtain ⟨n,hn,e2⟩:=bF ht
  rw[Cd] at e2
  have z:=g1 n hn
  rw[e2] at z
  exact Dt z
 have hn1:n<=(o.push zb).size:=by rw[EL];exact Fj hn
 by_cases k2:y-1-c2>0
 ·rw[if_pos k2]
  by_cases d4:(c2 == 1)=true
  ·rw[if_pos d4]
   exact Cj (HiQ.out sm (m3.first ha hb (beq_iff_eq.mp d4) h0))
  rw[if_neg d4]
  by_cases d6:(c2 == 0)=true
  ·rw[if_pos d6]
   exact Cj (HiQ.out sm (m3.ug ha (beq_iff_eq.mp d6)))
  rw[if_neg d6]
  exact sP hb sm ea (m3.jz hx1 ea ha bl2) (x6 (vO d6) d4) (Cq hn1 (by rw[EM];exact EZ _ _))
 ·rw[if_neg k2]
  have ec2:c2=y-1:=JK hc2 (Ic (E3 k2))
  rw[ec2] at bl2
  exact sP hb sm ea (m2.jz hx1 ea ha bl2) hy1 hn1
theorem sR (C:Cmp prog w A s O key U κ){a b:Array Cf}{st st':CH}(hκ:kindOf st=κ)(ua:∀p∈a.toList,U p)(ub:∀p∈b.toList,U p)
  (ha:a.toList.Pairwise (Le key)) (hb:b.toList.Pairwise (Le key)) (h0:∀p q,b[0]? = some p->q∈a.toList->Le key p q)
  {p:Array Cf} {x y ac bc n:Nat} (mg:Nat) (sm:Sm st st') (m:MV key a b p x y) (hx:1<=x) (hy:2<=y) (hn:n<=p.size):wpS (Cn prog w) A E s (uo a b x y p ac bc mg) (HiQ key a b st n) st':=by
 unfold uo
 have bx:=m.hx
 have by':=m.hy
 obtain ⟨zb,eb⟩:=bE (show y-1<b.size by omega)
 refine B6 (Eo ?_)
 refine B6 (bu eb ?_)
 refine B6 (zV C (λi=>(a[i]?).getD zb) ((sm.mg _).k.trans hκ) (ub _ (cu eb)) (λi hi =>?_) (λi hi =>?_) (λi j hij hj =>?_) (Gv hx) λc hc h1 h2 =>?_)
 ·obtain ⟨z,e⟩:=bE (B8 hi bx)
  rw[FH,e];rfl
 ·obtain ⟨z,e⟩:=bE (B8 hi bx)
  rw[e];exact ua _ (cu e)
 ·obtain ⟨z,e⟩:=bE (show i<a.size by omega)
  obtain ⟨z',e'⟩:=bE (show j<a.size by omega)
  rw[e,e'];exact aT ha (aR e) (aR e') hij
 dsimp only at h1 h2 ⊢
 have ta:∀j q,c<=j->j<x->a.toList[j]? = some q->∀t∈b.toList.take y,Le key t q:=λj q hj hj2 e t ht=>by
  have z:=h2 j hj hj2
  rw[Cd] at e
  rw[e] at z
  obtain ⟨n,hn,e2⟩:=bF ht
  exact CS (aT hb e2 (aR eb) (Ej hn)) (Dt z)
 have mk:=m.vK hc ha ta
 have bl:∀t∈a.toList.take c,Le key t zb:=λt ht=>by
  obtain ⟨n,hn,e2⟩:=bF ht
  rw[Cd] at e2
  have z:=h1 n hn
  rw[e2] at z
  exact z
 by_cases k0:x-c>0
 ·rw[if_pos k0]
  by_cases d1:(c == 0)=true
  ·rw[if_pos d1]
   exact Cj (HiQ.out (sm.mg _) (mk.uh hb (beq_iff_eq.mp d1)))
  rw[if_neg d1]
  exact sQ C hκ ua ub ha hb h0 (sm.mg _) eb mk bl (vO d1) hy (Cq hn (by rw[EM];exact EZ _ _))
 ·rw[if_neg k0]
  have ec:c=x:=JK hc (Ic (E3 k0))
  rw[ec] at bl
  exact sQ C hκ ua ub ha hb h0 (sm.mg _) eb m bl hx hy hn
theorem x8 (C:Cmp prog w A s O key U κ){a b:Array Cf}{st st':CH}(hκ:kindOf st=κ)(ua:∀p∈a.toList,U p)(ub:∀p∈b.toList,U p)
  (ha:a.toList.Pairwise (Le key)) (hb:b.toList.Pairwise (Le key)) (h0:∀p q,b[0]? = some p->q∈a.toList->Le key p q)
  {p:Array Cf} {x y ac bc n mg:Nat} (sm:Sm st st') (m:MV key a b p x y) (hx:1<=x) (hy:2<=y) (hn:n<=p.size):wpS (Cn prog w) A E s (if mg>1 then uo a b x y p ac bc (mg-1) else uo a b x y p ac bc mg) (HiQ key a b st n) st':=by
 split
 ·exact sR C hκ ua ub ha hb h0 (mg-1) sm m hx hy hn
 ·exact sR C hκ ua ub ha hb h0 mg sm m hx hy hn
abbrev HiD:=Option (Array Cf)×Nat×Nat×Array Cf×Nat×Nat
abbrev HiE:=Option (Array Cf)×Nat×Nat×Array Cf×Nat
def vP (a b:Array Cf)(mg:Nat)(c:HiD):StateT CH Sem (ForInStep HiD):=do
  let u ← elem' b (c.2.2.1-1)
  let v ← elem' a (c.2.1-1)
  let __x ← lt' u v
  match __x with
  | some aw =>
    if aw=true then do
      let z ← elem' a (c.2.1-1)
      if (c.2.1-1 == 0)=true then pure (.done (some (a.extract 0 (c.2.1-1)++b.extract 0 c.2.2.1++(c.2.2.2.1.push z).reverse),c.2.1-1,c.2.2.1,c.2.2.2.1.push z,c.2.2.2.2.1+1,0))
      else if c.2.2.2.2.1+1≥mg then pure (.done (none,c.2.1-1,c.2.2.1,c.2.2.2.1.push z,c.2.2.2.2.1+1,0))
      else pure (.yield (none,c.2.1-1,c.2.2.1,c.2.2.2.1.push z,c.2.2.2.2.1+1,0))
    else do
      let z ← elem' b (c.2.2.1-1)
      if (c.2.2.1-1 == 1)=true then pure (.done (some (b.extract 0 (c.2.2.1-1)++a.extract 0 c.2.1++(c.2.2.2.1.push z).reverse),c.2.1,c.2.2.1-1,c.2.2.2.1.push z,0,c.2.2.2.2.2+1))
      else if c.2.2.2.2.2+1≥mg then pure (.done (none,c.2.1,c.2.2.1-1,c.2.2.2.1.push z,0,c.2.2.2.2.2+1))
      else pure (.yield (none,c.2.1,c.2.2.1-1,c.2.2.2.1.push z,0,c.2.2.2.2.2+1))
  | _=>pure (.done (some (a.extract 0 c.2.1++b.extract 0 c.2.2.1++c.2.2.2.1.reverse),c.2.1,c.2.2.1,c.2.2.2.1,c.2.2.2.2.1,c.2.2.2.2.2))
def zZ (a b:Array Cf)(c:HiC):StateT CH Sem (ForInStep HiC) :=
 if c.2.2.2.2.1>1 then uo a b c.2.1 c.2.2.1 c.2.2.2.1 c.2.2.2.2.2.1 c.2.2.2.2.2.2 (c.2.2.2.2.1-1) else uo a b c.2.1 c.2.2.1 c.2.2.2.1 c.2.2.2.2.2.1 c.2.2.2.2.2.2 c.2.2.2.2.1
def qQ (a b:Array Cf)(c:HiE):StateT CH Sem (ForInStep HiE):=do
  let d ← forIn [0:a.size+b.size] ((none,c.2.1,c.2.2.1,c.2.2.2.1,0,0):HiD) λ_ d=>vP a b c.2.2.2.2 d
  match d.1 with
  | some r=>pure (.done (some r,d.2.1,d.2.2.1,d.2.2.2.1,c.2.2.2.2))
  | none=>do
    rule "list.sort.gallop"
    let e ← forIn [0:a.size+b.size] ((none,d.2.1,d.2.2.1,d.2.2.2.1,c.2.2.2.2+1,d.2.2.2.2.1,d.2.2.2.2.2):HiC) λ_ e=>zZ a b e
    match e.1 with
    | some r=>pure (.done (some r,e.2.1,e.2.2.1,e.2.2.2.1,e.2.2.2.2.1))
    | none=>do
      modify (λs=>SortSt.mk' (kindOf s) (Cm s) (Cz s) (e.2.2.2.2.1+1) (failedOf s))
      pure (.yield (none,e.2.1,e.2.2.1,e.2.2.2.1,e.2.2.2.2.1+1))
theorem x9 (a b:Array Cf):mHi a b=(do
    rule "list.sort.merge-hi"
    let z ← elem' a (a.size-1)
    if (a.size-1 == 0)=true then pure (a.extract 0 (a.size-1)++b.extract 0 b.size++(#[z]:Array Cf).reverse)
    else if (b.size == 1)=true then pure (b.extract 0 b.size++a.extract 0 (a.size-1)++(#[z]:Array Cf).reverse)
    else do
      let g ← get
      let c ← forIn [0:a.size+b.size] ((none,a.size-1,b.size, #[z],gallopOf g):HiE) λ_ c=>qQ a b c
      match c.1 with
      | some r=>pure r
      | none=>unsupported "internal:list.sort.merge-bound"):=by
  kernel_rfl
def HdI (key:Cf->O.α)(a b:Array Cf)(st:CH)(n:Nat)(c:HiD)(st':CH):Prop:=Sm st st'/\∃x y o' ac bc,c=(none,x,y,o',ac,bc)/\MV key a b o' x y/\1<=x/\2<=y/\n<=o'.size
def HdQ (key:Cf->O.α)(a b:Array Cf)(st:CH)(n:Nat)(c:HiD)(st':CH):Prop:=Sm st st'/\((∃r x y o ac bc,c=(some r,x,y,o,ac,bc)/\eE key a b r)\/∃x y o' ac bc,c=(none,x,y,o',ac,bc)/\MV key a b o' x y/\1<=x/\2<=y/\n<=o'.size)
theorem vQ (C:Cmp prog w A s O key U κ){a b:Array Cf}{st st':CH}(hκ:kindOf st=κ)(ua:∀p∈a.toList,U p)(ub:∀p∈b.toList,U p)
  (ha:a.toList.Pairwise (Le key)) (hb:b.toList.Pairwise (Le key)) (h0:∀p q,b[0]? = some p->q∈a.toList->Le key p q)
  {mg n m':Nat} {c:HiD} (I:HdI key a b st n c st') (hm:m'<=n+1) {Q:ForInStep HiD->CH->Prop} (h:∀r st',(match r with | .done c'=>HdQ key a b st (n+1) c' st' | .yield c'=>HdI key a b st m' c' st')->Q r st'):wpS (Cn prog w) A E s (vP a b mg c) Q st':=by
 obtain ⟨sm2,x,y,o',ac,bc,rfl,m,hx,hy,hz⟩:=I
 unfold vP
 have bx:=m.hx
 have by':=m.hy
 obtain ⟨za,ea⟩:=bE (show x-1<a.size by omega)
 obtain ⟨zb,eb⟩:=bE (show y-1<b.size by omega)
 refine B6 (bu eb (B6 (bu ea (B6 (C.lt _ st' zb za _ (sm2.k.trans hκ) (ub _ (cu eb)) (ua _ (cu ea)) ?_)))))
 dsimp only
 have sz:∀z,n+1<=(o'.push z).size:=λz=>by rw[EL];exact Jz hz
 cases hlt:O.blt (key zb) (key za) with
 | true =>
  rw[if_pos rfl]
  refine B6 (bu ea ?_)
  have m1:=m.jz hx ea ha λt ht=>by
   obtain ⟨n,hn,e⟩:=bF ht
   exact CS (aT hb e (aR eb) (Ej hn)) (Dt hlt)
  by_cases c3:(x-1 == 0)=true
  ·rw[if_pos c3]
   exact Cj (h _ _ ⟨sm2,.inl ⟨_,_,_,_,_,_,rfl,m1.uh hb (beq_iff_eq.mp c3)⟩⟩)
  ·rw[if_neg c3]
   have c3':=vO c3
   split
   ·exact Cj (h _ _ ⟨sm2,.inr ⟨_,_,_,_,_,rfl,m1,c3',hy,sz _⟩⟩)
   ·exact Cj (h _ _ ⟨sm2,_,_,_,_,_,rfl,m1,c3',hy,Cq hm (sz _)⟩)
 | false =>
  rw[if_neg B2]
  refine B6 (bu eb ?_)
  have m1:=m.mG (Jk hy) eb hb λt ht=>by
   obtain ⟨n,hn,e⟩:=bF ht
   exact CS (aT ha e (aR ea) (Ej hn)) (show O.kle (key za) (key zb) from hlt)
  by_cases c3:(y-1 == 1)=true
  ·rw[if_pos c3]
   exact Cj (h _ _ ⟨sm2,.inl ⟨_,_,_,_,_,_,rfl,m1.first ha hb (beq_iff_eq.mp c3) h0⟩⟩)
  ·rw[if_neg c3]
   have c3':=x6 (Ej hy) c3
   split
   ·exact Cj (h _ _ ⟨sm2,.inr ⟨_,_,_,_,_,rfl,m1,hx,c3',sz _⟩⟩)
   ·exact Cj (h _ _ ⟨sm2,_,_,_,_,_,rfl,m1,hx,c3',Cq hm (sz _)⟩)
def HeI (key:Cf->O.α)(a b:Array Cf)(st:CH)(n:Nat)(c:HiE)(st':CH):Prop:=Sm st st'/\∃x y o mg,c=(none,x,y,o,mg)/\MV key a b o x y/\1<=x/\2<=y/\n+1<=o.size
def HeQ (key:Cf->O.α)(a b:Array Cf)(st:CH)(c:HiE)(st':CH):Prop:=Sm st st'/\((∃r x y o mg,c=(some r,x,y,o,mg)/\eE key a b r)\/∃x y o mg,c=(none,x,y,o,mg)/\MV key a b o x y/\1<=x/\2<=y/\a.size+b.size+1<=o.size)
theorem uq (C:Cmp prog w A s O key U κ){a b:Array Cf}{st st':CH}(hκ:kindOf st=κ)(ua:∀p∈a.toList,U p)(ub:∀p∈b.toList,U p)
  (ha:a.toList.Pairwise (Le key)) (hb:b.toList.Pairwise (Le key)) (h0:∀p q,b[0]? = some p->q∈a.toList->Le key p q) (na:0<a.size)
  {n:Nat} {c:HiE} (I:HeI key a b st n c st'):wpS (Cn prog w) A E s (qQ a b c) (λr st'=>match r with | .done c'=>HeQ key a b st c' st' | .yield c'=>HeI key a b st (n+1) c' st') st':=by
 obtain ⟨sm1,x,y,o,mg,rfl,m,hx,hy,hz⟩:=I
 unfold qQ
 have q1:1<=a.size+b.size:=Cq na (EZ _ _)
 refine B6 (D6 (Dn (I:=λj c st'=>HdI key a b st (o.size+min j 1) c st') (Q:=HdQ key a b st (o.size+1)) (λj c st2 _ hj J=>vQ (n:=o.size+min j 1) (m':=o.size+min (j+1) 1) C hκ ua ub ha hb h0 J (by omega) λr st' k =>?_) (λc st' J =>?_) ⟨sm1,x,y,o,0,0,rfl,m,hx,hy,BV _⟩) ?_)
 ·cases r with
  | done c'=>exact k.imp id λz=>z.imp id λ⟨x,y,o',ac,bc,e,m,hx,hy,hz⟩=>⟨x,y,o',ac,bc,e,m,hx,hy,by omega⟩
  | yield c'=>exact k
 ·obtain ⟨sm,x,y,o',ac,bc,e,m,hx,hy,hz⟩:=J
  exact ⟨sm,.inr ⟨x,y,o',ac,bc,e,m,hx,hy,by omega⟩⟩
 rintro c st2 ⟨sm2,⟨r,x,y,o',ac,bc,rfl,fr⟩ | ⟨x,y,o',ac,bc,rfl,m,hx,hy,hz2⟩⟩
 ·exact Cj ⟨sm2,.inl ⟨_,_,_,_,_,rfl,fr⟩⟩
 dsimp only
 refine B6 (GF (En ⟨rfl,?_⟩))
 refine B6 (D6 (Dn (I:=λ_ c st'=>HiQ key a b st o'.size (.yield c) st') (Q:=λc st'=>HiQ key a b st o'.size (.done c) st') (λj c st3 _ hj J =>?_) (λc st' J=>⟨J.1,.inr J.2⟩) ⟨sm2,x,y,o',_,ac,bc,rfl,m,hx,hy,BV _⟩) ?_)
 ·obtain ⟨sm3,x,y,p,mg,ac,bc,rfl,m,hx,hy,hz3⟩:=J
  refine D6 (x8 C hκ ua ub ha hb h0 sm3 m hx hy hz3) ?_
  intro r st' h
  cases r <;> exact h
 rintro c st3 ⟨sm3,⟨r,x,y,p,mg,ac,bc,rfl,fr⟩ | ⟨x,y,p,mg,ac,bc,rfl,m,hx,hy,hz3⟩⟩
 ·exact Cj ⟨sm3,.inl ⟨_,_,_,_,_,rfl,fr⟩⟩
 ·dsimp only
  exact B6 (Eo (Cj ⟨sm3.mg _,x,y,p,_,rfl,m,hx,hy,by omega⟩))
theorem z9 (C:Cmp prog w A s O key U κ){a b:Array Cf}{st:CH}{Q:Array Cf->CH->Prop}(hκ:kindOf st=κ)(ua:∀p∈a.toList,U p)(ub:∀p∈b.toList,U p)
  (ha:a.toList.Pairwise (Le key)) (hb:b.toList.Pairwise (Le key)) (na:0<a.size) (nb:0<b.size) (h0:∀p q,b[0]? = some p->q∈a.toList->Le key p q) (hl:∀p q,p∈b.toList->a[a.size-1]? = some q->Le key p q)
  (h:∀r st',Sm st st'->eE key a b r->Q r st'):wpS (Cn prog w) A E s (mHi a b) Q st:=by
 rw[x9]
 refine B6 (GF (En ⟨rfl,?_⟩))
 obtain ⟨a0,ea0⟩:=bE (Gv na)
 have m0:MV key a b #[] a.size b.size:=by
  refine ⟨BV _,BV _,?_,List.Pairwise.nil,λp _ q hq=>by cases hq⟩
  rw[CP (by rw[B0];exact BV _),CP (by rw[B0];exact BV _)]
  show (a.toList++b.toList++[]).Perm _
  rw[CF]
 have m1:MV key a b #[a0] (a.size-1) b.size:=m0.jz na ea0 ha λt ht=>hl t a0 (DF ht) ea0
 refine B6 (bu ea0 ?_)
 by_cases c1:(a.size-1 == 0)=true
 ·rw[if_pos c1]
  exact Cj (h _ st (Sm.refl st) (m1.uh hb (beq_iff_eq.mp c1)))
 rw[if_neg c1]
 by_cases c2:(b.size == 1)=true
 ·rw[if_pos c2]
  exact Cj (h _ st (Sm.refl st) (m1.first ha hb (beq_iff_eq.mp c2) h0))
 rw[if_neg c2]
 refine B6 (Gq ?_)
 refine B6 (D6 (Dn (I:=λi c st'=>HeI key a b st i c st') (Q:=HeQ key a b st) (λi c st1 _ _ J=>D6 (uq C hκ ua ub ha hb h0 na J) λr st' h=>by cases r <;> exact h) (λc st' J =>?_) ⟨Sm.refl st,_,_,_,_,rfl,m1,vO c1,x6 nb c2,BV _⟩) ?_)
 ·obtain ⟨sm,x,y,o,mg,e,m,hx,hy,hz⟩:=J
  exact ⟨sm,.inr ⟨x,y,o,mg,e,m,hx,hy,by omega⟩⟩
 rintro c st' ⟨sm,⟨r,x,y,o,mg,rfl,fr⟩ | ⟨x,y,o,mg,rfl,m,hx,hy,hz⟩⟩
 ·exact Cj (h r st' sm fr)
 ·have:=m.size
  omega
end
open PySem PyProof.Rows
theorem Aa (i:Nat):mAt i=(do
    let s ← get
    let (some (sa,na,pw),some (sb,nb,_)):=((Cz s)[i]?,(Cz s)[i+1]?) | unsupported "internal:list.sort.pending"
    set (SortSt.mk' (kindOf s) (Cm s) (((Cz s).setIfInBounds i (sa,na+nb,pw)).eraseIdxIfInBounds (i+1)) (gallopOf s) (failedOf s))
    let some k ← gal false (← elem' (Cm s) sb) (Cm s) sa na 0 | return false
    let (sa,na):=(sa+k,na-k)
    if na == 0 then return true
    let some nb ← gal true (← elem' (Cm s) (sa+na-1)) (Cm s) sb nb (nb-1) | return false
    if nb == 0 then return true
    let x:=(Cm s).extract sa sb
    let y:=(Cm s).extract sb (sb+nb)
    let mm ← if na<=nb then mLo x y else mHi x y
    modify λs=>setArr s (mm.toList.zipIdx.foldl (λa (p,j)=>a.setIfInBounds (sa+j) p) (Cm s))
    return (failedOf (← get)).isNone):=rfl
theorem iq {α:Type}(p r:List α)(k:Nat):(p++r).drop (p.length+k)=r.drop k:=by
 rw[<- JY,Hl]
theorem qR {α:Type}(p r:List α)(k:Nat):(p++r)[p.length+k]? = r[k]? := by
 rw[GW (by omega),DT]
theorem zh {α:Type}(p a r:List α){k:Nat}(h:k<a.length):(p++(a++r))[p.length+k]? = a[k]? := by
 rw[qR,Hi h]
theorem written (l:List Cf):∀(c n:Nat) (a:Array Cf),c+n+l.length<=a.size->((l.zipIdx n).foldl (λ(a:Array Cf) (pj:Cf×Nat)=>a.setIfInBounds (c+pj.2) pj.1) a).toList=a.toList.take (c+n)++l++a.toList.drop (c+n+l.length):=by
 induction l with
 | nil=>intro c n a _;simp
 | cons z l ih =>
  intro c n a h
  rw[B3] at h
  rw[HQ,List.foldl_cons,ih c (n+1) _ (by rw[Array.size_setIfInBounds];omega)]
  have e:(a.setIfInBounds (c+n) z).toList=a.toList.set (c+n) z:=GX ..
  rw[e]
  have lt:c+n<a.toList.length:=by rw[B0];omega
  have t1:(a.toList.set (c+n) z).take (c+(n+1))=a.toList.take (c+n)++[z]:=by
   rw[show c+(n+1)=c+n+1 by omega,DA,List.take_set_of_le (BV _),Ex lt]
   rfl
  have t2:(a.toList.set (c+n) z).drop (c+(n+1)+l.length)=a.toList.drop (c+n+(l.length+1)):=by
   rw[List.drop_set_of_lt (by omega),show c+(n+1)+l.length=c+n+(l.length+1) by omega]
  rw[t1,t2,B3]
  simp
section
variable  {prog:B7}{w:CJ}{A:CK}{E:BP->BR->Prop}{s:BR}{O:GR}{key:Cf->O.α}{U:Cf->Prop}{κ:SortKind}
theorem Ab (C:Cmp prog w A s O key U κ){i pw pw2:Nat}{st:CH}{Q:Bool->CH->Prop}{P X Y S:List Cf}(hκ:kindOf st=κ)(hf:failedOf st=none)
    (ha:(Cm st).toList=P++(X++(Y++S))) (hu:∀p∈(Cm st).toList,U p) (h1:(Cz st)[i]? = some (P.length,X.length,pw)) (h2:(Cz st)[i+1]? = some (P.length+X.length,Y.length,pw2))
    (nx:0<X.length) (ny:0<Y.length) (sx:X.Pairwise (Le key)) (sy:Y.Pairwise (Le key))
    (h:∀st' M,M.Perm (X++Y)->M.Pairwise (Le key)->(Cm st').toList=P++(M++S)->Cz st'=((Cz st).setIfInBounds i (P.length,X.length+Y.length,pw)).eraseIdxIfInBounds (i+1)->kindOf st'=κ -> failedOf st'=none->Q true st') :
    wpS (Cn prog w) A E s (mAt i) Q st:=by
  rw[Aa]
  refine B6 (Gq ?_)
  rw[h1,h2]
  dsimp only
  refine B6 (show wpS (Cn prog w) A E s (modify λ_=>SortSt.mk' (kindOf st) (Cm st) (((Cz st).setIfInBounds i (P.length,X.length+Y.length,pw)).eraseIdxIfInBounds (i+1)) (gallopOf st) (failedOf st)) _ st from Eo ?_)
  generalize hst1:SortSt.mk' (kindOf st) (Cm st) (((Cz st).setIfInBounds i (P.length,X.length+Y.length,pw)).eraseIdxIfInBounds (i+1)) (gallopOf st) (failedOf st)=st1
  have k1:kindOf st1=κ:=by rw[<- hst1];exact hκ
  have a1:Cm st1=Cm st:=by rw[<- hst1]
  have p1:Cz st1=((Cz st).setIfInBounds i (P.length,X.length+Y.length,pw)).eraseIdxIfInBounds (i+1):=by rw[<- hst1]
  have f1:failedOf st1=none:=by rw[<- hst1];exact hf
  have sz:(Cm st).size=P.length+X.length+Y.length+S.length:=by
    rw[<- B0,ha];simp only[BU];omega
  have atX:∀j,j<X.length->(Cm st)[P.length+j]? = X[j]? := λj hj=>by
    rw[<- Cd,ha,zh _ _ _ hj]
  have atY:∀j,j<Y.length->(Cm st)[P.length+X.length+j]? = Y[j]? := λj hj=>by
    rw[<- Cd,ha, <- CL,show P.length+X.length+j=(P++X).length+j by rw[BU],zh _ _ _ hj]
  have uX:∀p∈X,U p:=λp hp=>hu p (by rw[ha];simp[hp])
  have uY:∀p∈Y,U p:=λp hp=>hu p (by rw[ha];simp[hp])
  have xget:∀j,j<X.length->∃z,X[j]? = some z:=λj hj=>⟨X[j],by simp[hj]⟩
  have yget:∀j,j<Y.length->∃z,Y[j]? = some z:=λj hj=>⟨Y[j],by simp[hj]⟩
  obtain ⟨y0,ey0⟩:=yget 0 ny
  have plain:(∀p∈X,∀q∈Y,Le key p q)->Q true st1:=λhle=>h st1 (X++Y) (E1 _) (Du.mpr ⟨sx,sy,hle⟩) (by rw[a1,ha,CL]) p1 k1 f1
  refine B6 (bu (z:=y0) (by rw[show P.length+X.length=P.length+X.length+0 by omega,atY 0 ny];exact ey0) ?_)
  refine B6 (zV C (λj=>(X[j]?).getD y0) k1 (uY _ (Cy ey0)) (λj hj =>?_) (λj hj =>?_) (λi j hij hj =>?_) nx λk hk g1 g2 =>?_)
  · obtain ⟨z,e⟩:=xget j hj
    rw[atX j hj,e];rfl
  · obtain ⟨z,e⟩:=xget j hj
    rw[e];exact uX _ (Cy e)
  · obtain ⟨z,e⟩:=xget i (by omega)
    obtain ⟨z',e'⟩:=xget j hj
    rw[e,e'];exact aT sx e e' hij
  dsimp only at g1 g2 ⊢
  have y0le:∀q∈Y,Le key y0 q:=λq hq=>by
    obtain ⟨n,e⟩:=Dg.mp hq
    exact aT sy ey0 e (CC _)
  by_cases c1:(X.length-k == 0)=true
  · rw[if_pos c1]
    refine Cj (plain λp hp q hq =>?_)
    obtain ⟨n,e⟩:=Dg.mp hp
    have hn:n<X.length:=(Cg.mp e).1
    have z:=g1 n (by have:=beq_iff_eq.mp c1;omega)
    rw[e] at z
    exact CS z (y0le q hq)
  rw[if_neg c1]
  have kx:k<X.length:=by have:X.length-k≠0:=λz=>c1 (beq_iff_eq.mpr z);omega
  obtain ⟨xl,exl⟩:=xget (X.length-1) (by omega)
  have xlle:∀p∈X,Le key p xl:=λp hp=>by
    obtain ⟨n,e⟩:=Dg.mp hp
    have hn:n<X.length:=(Cg.mp e).1
    exact aT sx e exl (by omega)
  refine B6 (bu (z:=xl) (by rw[show P.length+k+(X.length-k)-1=P.length+(X.length-1) by omega,atX _ (by omega)];exact exl) ?_)
  refine B6 (zW C (λj=>(Y[j]?).getD xl) k1 (uX _ (Cy exl)) (λj hj =>?_) (λj hj =>?_) (λi j hij hj =>?_) (by omega) λm hm e1 e2 =>?_)
  · obtain ⟨z,e⟩:=yget j hj
    rw[atY j hj,e];rfl
  · obtain ⟨z,e⟩:=yget j hj
    rw[e];exact uY _ (Cy e)
  · obtain ⟨z,e⟩:=yget i (by omega)
    obtain ⟨z',e'⟩:=yget j hj
    rw[e,e'];exact aT sy e e' hij
  dsimp only at e1 e2 ⊢
  by_cases c2:(m == 0)=true
  · rw[if_pos c2]
    refine Cj (plain λp hp q hq =>?_)
    obtain ⟨n,e⟩:=Dg.mp hq
    have hn:n<Y.length:=(Cg.mp e).1
    have z:=e2 n (by have:=beq_iff_eq.mp c2;omega) hn
    rw[e] at z
    exact CS (xlle p hp) z
  rw[if_neg c2]
  have m0:0<m:=by have:m≠0:=λz=>c2 (beq_iff_eq.mpr z);omega
  have ex:((Cm st).extract (P.length+k) (P.length+X.length)).toList=X.drop k:=by
    rw[Ei,DI,ha,iq,Gj (by omega)]
    rw[List.take_left' (by rw[EA];omega)]
  have ey:((Cm st).extract (P.length+X.length) (P.length+X.length+m)).toList=Y.take m:=by
    have e:=iq (P++X) (Y++S) 0
    rw[BU,Jr,IC,CL] at e
    rw[Ei,DI,ha,e,DT,Gk hm]
  have sX:((Cm st).extract (P.length+k) (P.length+X.length)).size=X.length-k:=by rw[<- B0,ex,EA]
  have sY:((Cm st).extract (P.length+X.length) (P.length+X.length+m)).size=m:=by rw[<- B0,ey,DK];omega
  generalize (Cm st).extract (P.length+k) (P.length+X.length)=xa at ex sX ⊢
  generalize (Cm st).extract (P.length+X.length) (P.length+X.length+m)=ya at ey sY ⊢
  have xa0:∀q∈xa.toList,Le key y0 q:=λq hq=>by
    rw[ex] at hq
    obtain ⟨n,hn,e⟩:=bq hq
    have hn2:n<X.length:=(Cg.mp e).1
    have z:=g2 n hn hn2
    rw[e] at z
    exact Dt z
  have yaL:∀p∈ya.toList,Le key p xl:=λp hp=>by
    rw[ey] at hp
    obtain ⟨n,hn,e⟩:=bF hp
    have z:=e1 n hn
    rw[e] at z
    exact Dt z
  have first:∀p q,ya[0]? = some p->q∈xa.toList->Le key p q:=λp q hp hq=>by
    rw[<- Cd,ey,Ec,if_pos m0,ey0] at hp
    cases hp
    exact xa0 q hq
  have lst:∀p q,p∈ya.toList->xa[xa.size-1]? = some q->Le key p q:=λp q hp hq=>by
    rw[<- Cd,ex,FN,sX,show k+(X.length-k-1)=X.length-1 by omega,exl] at hq
    cases hq
    exact yaL p hp
  have sxa:xa.toList.Pairwise (Le key):=by rw[ex];exact sx.sublist (Dk _ _)
  have sya:ya.toList.Pairwise (Le key):=by rw[ey];exact sy.sublist (Ds _ _)
  have uxa:∀p∈xa.toList,U p:=λp hp=>by rw[ex] at hp;exact uX p (EG hp)
  have uya:∀p∈ya.toList,U p:=λp hp=>by rw[ey] at hp;exact uY p (DF hp)
  have post:∀r st',Sm st1 st'->eE key xa ya r->wpS (Cn prog w) A E s (do modify λs=>setArr s (r.toList.zipIdx.foldl (λa (p,j)=>a.setIfInBounds (P.length+k+j) p) (Cm s));return (failedOf (← get)).isNone) Q st':=by
    rintro r st' sm ⟨fp,fs⟩
    refine B6 (Eo (B6 (Gq (Cj ?_))))
    have rl:r.toList.length=X.length-k+m:=by rw[fp.length_eq,BU,B0,B0,sX,sY]
    have wr:=written r.toList (P.length+k) 0 (Cm st') (by rw[sm.a,a1,sz,rl];omega)
    have e:(failedOf (setArr st' (r.toList.zipIdx.foldl (λa (p,j)=>a.setIfInBounds (P.length+k+j) p) (Cm st')))).isNone=true:=by
      show (failedOf st').isNone=true
      rw[sm.f,f1];rfl
    rw[e]
    have t1:(P++(X++(Y++S))).take (P.length+k+0)=P++X.take k:=by
      rw[Jr,List.take_append,CP (by omega),DT,Gk (by omega)]
    have t2:(P++(X++(Y++S))).drop (P.length+k+0+r.toList.length)=Y.drop m++S:=by
      rw[rl,show P.length+k+0+(X.length-k+m)=P.length+(X.length+m) by omega,iq,iq,Gj hm]
    have perm:(X.take k++(r.toList++Y.drop m)).Perm (X++Y):=by
      rw[ex,ey] at fp
      have q:(X.take k++(r.toList++Y.drop m)).Perm (X.take k++((X.drop k++Y.take m)++Y.drop m)):=DN _ (Ey _ fp)
      have e3:X.take k++((X.drop k++Y.take m)++Y.drop m)=X++Y:=by
        rw[CL (X.drop k),D7, <- CL,D7]
      rw[e3] at q
      exact q
    have inr:∀z∈r.toList,z∈X.drop k\/z∈Y.take m:=λz hz=>by
      have q:=fp.mem_iff.mp hz
      rw[ex,ey] at q
      exact B5.mp q
    refine h _ (X.take k++(r.toList++Y.drop m)) perm ?_ ?_ ?_ (sm.k.trans k1) (sm.f.trans f1)
    · refine Du.mpr ⟨sx.sublist (Ds _ _),Du.mpr ⟨fs,sy.sublist (Dk _ _),λp hp q hq =>?_⟩,λp hp q hq =>?_⟩
      · obtain ⟨n,hn,en⟩:=bq hq
        have hn2:n<Y.length:=(Cg.mp en).1
        rcases inr p hp with z | z
        · have g:=e2 n hn hn2
          rw[en] at g
          exact CS (xlle p (EG z)) g
        · obtain ⟨j,hj,ej⟩:=bF z
          exact aT sy ej en (by omega)
      · obtain ⟨n,hn,en⟩:=bF hp
        have g:=g1 n hn
        rw[en] at g
        rcases B5.mp hq with z | z
        · rcases inr q z with z | z
          · obtain ⟨j,hj,ej⟩:=bq z
            exact aT sx en ej (by omega)
          · exact CS g (y0le q (DF z))
        · exact CS g (y0le q (EG z))
    · show (r.toList.zipIdx.foldl (λa (p,j)=>a.setIfInBounds (P.length+k+j) p) (Cm st')).toList=_
      rw[wr,sm.a,a1,ha,t1,t2]
      simp only[CL]
    · show Cz st'=_
      rw[sm.p,p1]
  by_cases c3:X.length-k<=m
  · rw[if_pos c3]
    exact B6 (zY C k1 uxa uya sxa sya (by omega) (by omega) (λp q hp hq=>first p q hp (cu hq)) lst λr st' sm fr=>post r st' sm fr)
  · rw[if_neg c3]
    exact B6 (z9 C k1 uxa uya sxa sya (by omega) (by omega) first lst λr st' sm fr=>post r st' sm fr)
end
open PySem PyProof.Rows
theorem yb (lo m:Nat):zT lo m=(do
    let mut n:=1
    for _ in [1:m] do
      let some sm ← ltAt' (lo+n) (lo+n-1)
        | return none
      if sm then break
      n:=n+1
    if n == m then return some n
    if n>1 then
      let some ro ← ltAt' lo (lo+n-1)
        | return none
      if ro then return some n
      reverseSlice' lo (lo+n)
    rule "list.sort.descending-run"
    n:=n+1
    let mut q:=0
    for _ in [n:m] do
      let some sm ← ltAt' (lo+n) (lo+n-1)
        | return none
      if sm then
        if q>0 then reverseSlice' (lo+n-(q+1)) (lo+n)
        q:=0
      else
        let some lg ← ltAt' (lo+n-1) (lo+n)
          | return none
        if lg then break
        q:=q+1
      n:=n+1
    if q>0 then reverseSlice' (lo+n-(q+1)) (lo+n)
    reverseSlice' lo (lo+n)
    for _ in [n:m] do
      let some sm ← ltAt' (lo+n) (lo+n-1)
        | return none
      if sm then break
      n:=n+1
    return some n):=rfl
theorem vR (lo n ok:Nat):vI lo n ok=(do
    for k in [max ok 1:n] do
      let mut l:=0;let mut r:=k
      for _ in [0:k] do
        if l≥r then break
        let m:=(l+r)/2
        let some le ← ltAt' (lo+k) (lo+m)
          | return false
        if le then r:=m else l:=m+1
      moveDown' (lo+k) (lo+l)
    return true):=rfl
section
variable  {O:GR}(key:Cf->O.α)
def kk (xs:Array Cf)(i:Nat):O.α:=key ((xs[i]?).getD (Ee,Ee))
def Up (xs:Array Cf)(lo n:Nat):Prop:=∀i j,lo<=i->i<=j->j<lo+n->O.kle (kk key xs i) (kk key xs j)
def Down (xs:Array Cf)(lo n:Nat):Prop:=∀i j,lo<=i->i<=j->j<lo+n->O.kle (kk key xs j) (kk key xs i)
variable  {key}
theorem ir {xs ys:Array Cf}{i j:Nat}(h:xs[i]? = ys[j]?):kk key xs i=kk key ys j:=by unfold kk;rw[h]
theorem mI {xs:Array Cf}{i j:Nat}(hj:j<=xs.size)(k:Nat):kk key (mirror xs i j ((j-i)/2)) k=if i<=k/\k<j then kk key xs (i+j-1-k) else kk key xs k:=by
 have e:=IP (i:=i) hj k
 by_cases h:i<=k/\k<j
 ·rw[if_pos h] at e ⊢;exact ir e
 ·rw[if_neg h] at e ⊢;exact ir e
theorem fi {xs:Array Cf}{i j:Nat}(hj:j<=xs.size)(he:∀k,i<=k->k<j->kk key xs k=kk key xs (j-1))(k:Nat):kk key (mirror xs i j ((j-i)/2)) k=kk key xs k:=by
 rw[mI hj]
 split
 ·rw[he _ (by omega) (by omega),he k (by omega) (by omega)]
 ·rfl
end
structure SA (lo:Nat)(st st':CH):Prop where
 perm:(Cm st').Perm (Cm st)
 pre:∀k,k<lo->(Cm st')[k]? = (Cm st)[k]?
 k:kindOf st'=kindOf st
 p:Cz st'=Cz st
 f:failedOf st'=failedOf st
theorem SA.refl (lo:Nat)(st:CH):SA lo st st:=⟨Array.Perm.refl _,λ_ _=>rfl,rfl,rfl,rfl⟩
theorem SA.size {lo:Nat}{st st':CH}(h:SA lo st st'):(Cm st').size=(Cm st).size:=h.perm.size_eq
theorem SA.mirror {lo:Nat}{st st':CH}(h:SA lo st st'){i j:Nat}(hi:lo<=i)(hj:j<=(Cm st').size):SA lo st (setArr st' (mirror (Cm st') i j ((j-i)/2))) :=
 ⟨(mirror_perm _ _ _ _).trans h.perm,λk hk=>by
  show (PyProof.Rows.mirror (Cm st') i j ((j-i)/2))[k]? = _
  rw[IP hj,if_neg (by omega)]
  exact h.pre k hk,h.k,h.p,h.f⟩
theorem SA.mem {lo:Nat}{st st':CH}(h:SA lo st st'){p:Cf}(hp:p∈(Cm st').toList):p∈(Cm st).toList:=(GY.mp h.perm).mem_iff.mp hp
section
variable  {prog:B7}{w:CJ}{A:CK}{E:BP->BR->Prop}{s:BR}{O:GR}{key:Cf->O.α}{U:Cf->Prop}{κ:SortKind}
theorem gA (C:Cmp prog w A s O key U κ){st:CH}{i j:Nat}{Q:Option Bool->CH->Prop}(hκ:kindOf st=κ)(hu:∀p∈(Cm st).toList,U p)(hi:i<(Cm st).size)(hj:j<(Cm st).size)
  (h:Q (some (O.blt (kk key (Cm st) i) (kk key (Cm st) j))) st):wpS (Cn prog w) A E s (ltAt' i j) Q st:=by
 rw[ltAt'_eq]
 refine B6 (Gq ?_)
 obtain ⟨x,ex⟩:=bE hi
 obtain ⟨y,ey⟩:=bE hj
 dsimp only
 refine B6 (bu ex (B6 (bu ey (C.lt _ st x y _ hκ (hu _ (cu ex)) (hu _ (cu ey)) ?_))))
 unfold kk at h
 rw[ex,ey] at h
 exact h
theorem yc (C:Cmp prog w A s O key U κ){st:CH}{lo m:Nat}{Q:Option Nat->CH->Prop}(hκ:kindOf st=κ)(hu:∀p∈(Cm st).toList,U p)(hm:1<=m)(hz:lo+m=(Cm st).size)
  (h:∀n st',1<=n->n<=m->SA lo st st'->Up key (Cm st') lo n->Q (some n) st'):wpS (Cn prog w) A E s (zT lo m) Q st:=by
 rw[yb]
 dsimp only
 refine B6 (D6 (Dn (I:=λx c st'=>st=st'/\c=(none,x)/\Up key (Cm st) lo x)
  (Q:=λc st'=>st=st'/\∃n,c=(none,n)/\1<=n/\n<=m/\Up key (Cm st) lo n/\(n<m->O.klt (kk key (Cm st) (lo+n)) (kk key (Cm st) (lo+n-1)))) ?step ?fin ⟨rfl,rfl,λi j h1 h2 h3=>by rw[show i=j by omega];exact DU _⟩) ?post)
 case fin =>
  rintro c st' ⟨rfl,rfl,up⟩
  exact ⟨rfl,_,rfl,by omega,by omega,by rw[show max 1 m=m by omega] at up ⊢;exact up,by omega⟩
 case step =>
  rintro x c st' h1 h2 ⟨rfl,rfl,up⟩
  dsimp only
  refine B6 (gA C hκ hu (by omega) (by omega) ?_)
  dsimp only
  cases hb:O.blt (kk key (Cm st) (lo+x)) (kk key (Cm st) (lo+x-1)) with
  | true =>
   rw[if_pos rfl]
   exact Cj ⟨rfl,x,rfl,h1,by omega,up,λ_=>hb⟩
  | false =>
   rw[if_neg (by simp)]
   refine Cj ⟨rfl,rfl,λi j k1 k2 k3 =>?_⟩
   by_cases hj:j=lo+x
   ·by_cases hi:i=j
    ·rw[hi];exact DU _
    ·rw[hj]
     exact CS (up i (lo+x-1) k1 (by omega) (by omega)) hb
   ·exact up i j k1 k2 (by omega)
 case post =>
  rintro c st' ⟨rfl,n,rfl,n1,n2,up,br⟩
  dsimp only
  by_cases c1:(n == m)=true
  ·rw[if_pos c1]
   exact Cj (h n st n1 n2 (SA.refl _ _) up)
  rw[if_neg c1]
  have nm:n<m:=by have:n≠m:=λz=>c1 (beq_iff_eq.mpr z);omega
  have br:=br nm
  by_cases c2:n>1
  case' pos =>
   rw[if_pos c2]
   refine B6 (gA C hκ hu (by omega) (by omega) ?_)
   dsimp only
   cases hro:O.blt (kk key (Cm st) lo) (kk key (Cm st) (lo+n-1))
   case' true =>
    rw[if_pos rfl]
    exact Cj (h n st n1 n2 (SA.refl _ _) up)
   rw[if_neg (by simp)]
   have eqs:∀k,lo<=k->k<lo+n->kk key (Cm st) k=kk key (Cm st) (lo+n-1):=λk k1 k2 =>
    II (up k (lo+n-1) k1 (by omega) (by omega)) (CS (show O.kle (kk key (Cm st) (lo+n-1)) (kk key (Cm st) lo) from hro) (up lo k (BV _) k1 k2))
   rw[Gr]
   refine B6 (Eo ?_)
   have sa:=(SA.refl lo st).mirror (i:=lo) (j:=lo+n) (BV _) (by omega)
   have ke:=fi (key:=key) (xs:=Cm st) (i:=lo) (j:=lo+n) (by omega) eqs
   have ka:∀k,kk key (Cm (setArr st (mirror (Cm st) lo (lo+n) ((lo+n-lo)/2)))) k=kk key (Cm st) k:=ke
   generalize setArr st (mirror (Cm st) lo (lo+n) ((lo+n-lo)/2))=st1 at sa ka ⊢
   clear ke
  case' neg =>
   rw[if_neg c2]
   have eqs:∀k,lo<=k->k<lo+n->kk key (Cm st) k=kk key (Cm st) (lo+n-1):=λk k1 k2=>by rw[show k=lo+n-1 by omega]
   obtain ⟨st1,e1⟩:∃st1,st1=st:=⟨_,rfl⟩
   have sa:SA lo st st1:=by rw[e1];exact SA.refl _ _
   have ka:∀k,kk key (Cm st1) k=kk key (Cm st) k:=λk=>by rw[e1]
   rw[<- e1]
   clear e1
  all_goals
   refine B6 (GF (En ⟨rfl,?_⟩))
   have dn:Down key (Cm st1) lo (n+1):=λi j k1 k2 k3=>by
    rw[ka,ka]
    by_cases hj:j=lo+n
    ·by_cases hi:i=j
     ·rw[hi];exact DU _
     ·rw[hj,eqs i k1 (by omega)]
      exact Dt br
    ·rw[eqs i k1 (by omega),eqs j (by omega) (by omega)]
     exact DU _
   clear eqs up br ka
   refine B6 (D6 (Dn (I:=λx c st'=>∃q,c=(none,x,q)/\x<=m/\SA lo st st'/\Down key (Cm st') lo x/\q+1<=x/\∀k,lo+x-(q+1)<=k->k<lo+x->kk key (Cm st') k=kk key (Cm st') (lo+x-1))
    (Q:=λc st'=>∃x q,c=(none,x,q)/\1<=x/\x<=m/\SA lo st st'/\Down key (Cm st') lo x/\q+1<=x/\∀k,lo+x-(q+1)<=k->k<lo+x->kk key (Cm st') k=kk key (Cm st') (lo+x-1)) ?step ?fin
    ⟨0,rfl,by omega,sa,dn,by omega,λk k1 k2=>by rw[show k=lo+(n+1)-1 by omega]⟩) ?post)
   case fin =>
    rintro c st' ⟨q,rfl,xm,sa,dn,hq,he⟩
    exact ⟨_,q,rfl,by omega,xm,sa,dn,hq,he⟩
   case step =>
    rintro x c st2 h1 h2 ⟨q,rfl,xm,sa2,dn2,hq,he⟩
    dsimp only
    have sz:=sa2.size
    have u2:∀p∈(Cm st2).toList,U p:=λp hp=>hu p (sa2.mem hp)
    refine B6 (gA C (sa2.k.trans hκ) u2 (by omega) (by omega) ?_)
    dsimp only
    cases hb:O.blt (kk key (Cm st2) (lo+x)) (kk key (Cm st2) (lo+x-1)) with
    | true =>
     rw[if_pos rfl]
     have dn3:Down key (Cm st2) lo (x+1):=λi j k1 k2 k3=>by
      by_cases hj:j=lo+x
      ·by_cases hi:i=j
       ·rw[hi];exact DU _
       ·rw[hj];exact CS (Dt hb) (dn2 i (lo+x-1) k1 (by omega) (by omega))
      ·exact dn2 i j k1 k2 (by omega)
     by_cases q0:q>0
     ·rw[if_pos q0,Gr]
      refine B6 (Eo (Cj ?_))
      have ke:=fi (key:=key) (xs:=Cm st2) (i:=lo+x-(q+1)) (j:=lo+x) (by omega) he
      refine ⟨0,rfl,by omega,sa2.mirror (by omega) (by omega),λi j k1 k2 k3 =>?_,by omega,λk k1 k2=>by rw[show k=lo+(x+1)-1 by omega]⟩
      show O.kle (kk key (mirror (Cm st2) (lo+x-(q+1)) (lo+x) ((lo+x-(lo+x-(q+1)))/2)) j) (kk key (mirror (Cm st2) (lo+x-(q+1)) (lo+x) ((lo+x-(lo+x-(q+1)))/2)) i)
      rw[ke,ke]
      exact dn3 i j k1 k2 k3
     ·rw[if_neg q0]
      exact Cj ⟨0,rfl,by omega,sa2,dn3,by omega,λk k1 k2=>by rw[show k=lo+(x+1)-1 by omega]⟩
    | false =>
     rw[if_neg (by simp)]
     refine B6 (gA C (sa2.k.trans hκ) u2 (by omega) (by omega) ?_)
     dsimp only
     cases hb2:O.blt (kk key (Cm st2) (lo+x-1)) (kk key (Cm st2) (lo+x)) with
     | true =>
      rw[if_pos rfl]
      exact Cj ⟨x,q,rfl,by omega,xm,sa2,dn2,hq,he⟩
     | false =>
      rw[if_neg (by simp)]
      have eq:=II (show O.kle (kk key (Cm st2) (lo+x)) (kk key (Cm st2) (lo+x-1)) from hb2) hb
      refine Cj ⟨q+1,rfl,by omega,sa2,λi j k1 k2 k3 =>?_,by omega,λk k1 k2 =>?_⟩
      ·by_cases hj:j=lo+x
       ·by_cases hi:i=j
        ·rw[hi];exact DU _
        ·rw[hj,eq];exact dn2 i (lo+x-1) k1 (by omega) (by omega)
       ·exact dn2 i j k1 k2 (by omega)
      ·rw[show lo+(x+1)-1=lo+x by omega,eq]
       by_cases hk:k=lo+x
       ·rw[hk,eq]
       ·exact he k (by omega) (by omega)
   case post =>
    rintro c st2 ⟨x,q,rfl,x1,xm,sa2,dn2,hq,he⟩
    dsimp only
    have sz:=sa2.size
    by_cases q0:q>0
    case' pos =>
     rw[if_pos q0,Gr]
     refine B6 (Eo ?_)
     have ke:=fi (key:=key) (xs:=Cm st2) (i:=lo+x-(q+1)) (j:=lo+x) (by omega) he
     have sa3:=sa2.mirror (i:=lo+x-(q+1)) (j:=lo+x) (by omega) (by omega)
     have dn3:Down key (Cm (setArr st2 (mirror (Cm st2) (lo+x-(q+1)) (lo+x) ((lo+x-(lo+x-(q+1)))/2)))) lo x:=λi j k1 k2 k3=>by
      show O.kle (kk key (mirror (Cm st2) (lo+x-(q+1)) (lo+x) ((lo+x-(lo+x-(q+1)))/2)) j) (kk key (mirror (Cm st2) (lo+x-(q+1)) (lo+x) ((lo+x-(lo+x-(q+1)))/2)) i)
      rw[ke,ke]
      exact dn2 i j k1 k2 k3
     generalize setArr st2 (mirror (Cm st2) (lo+x-(q+1)) (lo+x) ((lo+x-(lo+x-(q+1)))/2))=st3 at sa3 dn3 ⊢
     clear ke
    case' neg =>
     rw[if_neg q0]
     obtain ⟨st3,e3⟩:∃st3,st3=st2:=⟨_,rfl⟩
     have sa3:SA lo st st3:=by rw[e3];exact sa2
     have dn3:Down key (Cm st3) lo x:=by rw[e3];exact dn2
     rw[<- e3]
     clear e3
    all_goals
     rw[Gr]
     refine B6 (Eo ?_)
     have sz3:=sa3.size
     have sa4:=sa3.mirror (i:=lo) (j:=lo+x) (BV _) (by omega)
     have km:=mI (key:=key) (xs:=Cm st3) (i:=lo) (j:=lo+x) (by omega)
     have up4:Up key (Cm (setArr st3 (mirror (Cm st3) lo (lo+x) ((lo+x-lo)/2)))) lo x:=λi j k1 k2 k3=>by
      show O.kle (kk key (mirror (Cm st3) lo (lo+x) ((lo+x-lo)/2)) i) (kk key (mirror (Cm st3) lo (lo+x) ((lo+x-lo)/2)) j)
      rw[km,km,if_pos ⟨by omega,by omega⟩,if_pos ⟨by omega,by omega⟩]
      exact dn3 _ _ (by omega) (by omega) (by omega)
     generalize setArr st3 (mirror (Cm st3) lo (lo+x) ((lo+x-lo)/2))=st4 at sa4 up4 ⊢
     clear km
     have u4:∀p∈(Cm st4).toList,U p:=λp hp=>hu p (sa4.mem hp)
     have sz4:=sa4.size
     refine B6 (D6 (Dn (I:=λz c st'=>st4=st'/\c=(none,z)/\z<=m/\Up key (Cm st4) lo z)
      (Q:=λc st'=>st4=st'/\∃z,c=(none,z)/\1<=z/\z<=m/\Up key (Cm st4) lo z) ?step ?fin ⟨rfl,rfl,xm,up4⟩) ?post)
     case fin =>
      rintro c st' ⟨rfl,rfl,zm,up⟩
      exact ⟨rfl,_,rfl,by omega,zm,up⟩
     case post =>
      rintro c st' ⟨rfl,z,rfl,z1,zm,up⟩
      exact Cj (h z st4 z1 zm sa4 up)
     case step =>
      rintro z c st' h1 h2 ⟨rfl,rfl,zm,up⟩
      dsimp only
      refine B6 (gA C (sa4.k.trans hκ) u4 (by omega) (by omega) ?_)
      dsimp only
      cases hb:O.blt (kk key (Cm st4) (lo+z)) (kk key (Cm st4) (lo+z-1)) with
      | true =>
       rw[if_pos rfl]
       exact Cj ⟨rfl,z,rfl,by omega,zm,up⟩
      | false =>
       rw[if_neg (by simp)]
       refine Cj ⟨rfl,rfl,by omega,λi j k1 k2 k3 =>?_⟩
       by_cases hj:j=lo+z
       ·by_cases hi:i=j
        ·rw[hi];exact DU _
        ·rw[hj];exact CS (up i (lo+z-1) k1 (by omega) (by omega)) hb
       ·exact up i j k1 k2 (by omega)
theorem mJ {xs:Array Cf}{src d:Nat}(hs:src<xs.size)(hd:d<=src)(k:Nat) :
  kk key (bubble xs src d) k=if k=src-d then kk key xs src else if src-d<k/\k<=src then kk key xs (k-1) else kk key xs k:=by
 have e:=getElem?_bubble hs d hd k
 by_cases h1:k=src-d
 ·rw[if_pos h1] at e ⊢;exact ir e
 ·rw[if_neg h1] at e ⊢
  by_cases h2:src-d<k/\k<=src
  ·rw[if_pos h2] at e ⊢;exact ir e
  ·rw[if_neg h2] at e ⊢;exact ir e
theorem SA.bubble {lo:Nat}{st st':CH}(h:SA lo st st'){src d:Nat}(hs:src<(Cm st').size)(hd:lo+d<=src):SA lo st (setArr st' (bubble (Cm st') src d)) :=
 ⟨(bubble_perm _ _ _).trans h.perm,λk hk=>by
  show (PyProof.Rows.bubble (Cm st') src d)[k]? = _
  rw[getElem?_bubble hs d (by omega),if_neg (by omega),if_neg (by omega)]
  exact h.pre k hk,h.k,h.p,h.f⟩
theorem vS (C:Cmp prog w A s O key U κ){st:CH}{lo n ok:Nat}{Q:Bool->CH->Prop}(hκ:kindOf st=κ)(hu:∀p∈(Cm st).toList,U p)(hn:lo+n<=(Cm st).size)(hok:ok<=n)(up:Up key (Cm st) lo ok)
  (h:∀st',SA lo st st'->Up key (Cm st') lo n->Q true st'):wpS (Cn prog w) A E s (vI lo n ok) Q st:=by
 rw[vR]
 dsimp only
 refine B6 (D6 (Dn (I:=λx c st'=>c=(none,())/\SA lo st st'/\Up key (Cm st') lo (min x n)) (Q:=λc st'=>c=(none,())/\SA lo st st'/\Up key (Cm st') lo n) ?step ?fin ⟨rfl,SA.refl _ _,λi j k1 k2 k3 =>?_⟩) ?post)
 case post =>
  rintro c st' ⟨rfl,sa,up⟩
  exact Cj (h st' sa up)
 case fin =>
  rintro c st' ⟨rfl,sa,up⟩
  refine ⟨rfl,sa,?_⟩
  rw[show min (max (max ok 1) n) n=n by omega] at up
  exact up
 case step =>
  rintro k c st1 h1 h2 ⟨rfl,sa1,up1⟩
  rw[show min k n=k by omega] at up1
  have sz:=sa1.size
  have u1:∀p∈(Cm st1).toList,U p:=λp hp=>hu p (sa1.mem hp)
  refine B6 (D6 (Dn (I:=λx c st'=>st1=st'/\∃l r,c=(none,l,r)/\l<=r/\r<=k/\r-l<=k-x/\(∀i,i<l->O.kle (kk key (Cm st1) (lo+i)) (kk key (Cm st1) (lo+k)))/\(∀i,r<=i->i<k->O.klt (kk key (Cm st1) (lo+k)) (kk key (Cm st1) (lo+i))))
   (Q:=λc st'=>st1=st'/\∃l r,c=(none,l,r)/\l<=k/\(∀i,i<l->O.kle (kk key (Cm st1) (lo+i)) (kk key (Cm st1) (lo+k)))/\(∀i,l<=i->i<k->O.klt (kk key (Cm st1) (lo+k)) (kk key (Cm st1) (lo+i)))) ?istep ?ifin ⟨rfl,0,k,rfl,by omega,by omega,by omega,λi hi=>by omega,λi a1 a2=>by omega⟩) ?ipost)
  case ifin =>
   rintro c st' ⟨rfl,l,r,rfl,b1,b2,b3,b4,b5⟩
   have e:l=r:=by omega
   subst e
   exact ⟨rfl,l,l,rfl,b2,b4,b5⟩
  case istep =>
   rintro x c st' _ hx ⟨rfl,l,r,rfl,b1,b2,b3,b4,b5⟩
   dsimp only
   by_cases hge:l≥r
   ·rw[if_pos hge]
    have e:l=r:=by omega
    subst e
    exact Cj ⟨rfl,l,l,rfl,b2,b4,b5⟩
   ·rw[if_neg hge]
    refine B6 (gA C (sa1.k.trans hκ) u1 (by omega) (by omega) ?_)
    dsimp only
    cases hb:O.blt (kk key (Cm st1) (lo+k)) (kk key (Cm st1) (lo+(l+r)/2)) with
    | true =>
     rw[if_pos rfl]
     exact Cj ⟨rfl,l,(l+r)/2,rfl,by omega,by omega,by omega,b4,λi a1 a2=>KeyOrd.klt_of_klt_of_kle hb (up1 _ _ (by omega) (by omega) (by omega))⟩
    | false =>
     rw[if_neg (by simp)]
     exact Cj ⟨rfl,(l+r)/2+1,r,rfl,by omega,by omega,by omega,λi a1=>CS (up1 (lo+i) (lo+(l+r)/2) (by omega) (by omega) (by omega)) hb,b5⟩
  case ipost =>
   rintro c st' ⟨rfl,l,r,rfl,b2,b4,b5⟩
   dsimp only
   rw[moveDown'_eq]
   have e:lo+k-(lo+l)=k-l:=by omega
   refine B6 (Eo (Cj ⟨rfl,?_,?_⟩))
   ·rw[e]
    exact sa1.bubble (by omega) (by omega)
   ·rw[show min (k+1) n=k+1 by omega]
    intro i j k1 k2 k3
    show O.kle (kk key (bubble (Cm st1) (lo+k) (lo+k-(lo+l))) i) (kk key (bubble (Cm st1) (lo+k) (lo+k-(lo+l))) j)
    have lt:lo+k<(Cm st1).size:=by omega
    rw[e,mJ lt (by omega),mJ lt (by omega),show lo+k-(k-l)=lo+l by omega]
    have b4':∀z,lo<=z->z<lo+l->O.kle (kk key (Cm st1) z) (kk key (Cm st1) (lo+k)):=λz z1 z2=>by
     have:=b4 (z-lo) (by omega)
     rw[show lo+(z-lo)=z by omega] at this
     exact this
    have b5':∀z,lo+l<=z->z<lo+k->O.kle (kk key (Cm st1) (lo+k)) (kk key (Cm st1) z):=λz z1 z2=>by
     have:=b5 (z-lo) (by omega) (by omega)
     rw[show lo+(z-lo)=z by omega] at this
     exact Dt this
    repeat' split
    all_goals first
     | (exfalso;omega)
     | exact DU _
     | exact b4' _ (by omega) (by omega)
     | exact b5' _ (by omega) (by omega)
     | exact up1 _ _ (by omega) (by omega) (by omega)
 ·by_cases h1:ok=0
  ·rw[show i=j by omega];exact DU _
  ·exact up i j k1 k2 (by omega)
end
open PySem PyProof.Rows
def pwr:Nat->Nat->Nat->Nat->Nat:=sortPriv% PySem.Builtin.power
def mrn:Nat->Nat->Nat->Nat:=sortPriv% PySem.Builtin.minRun
theorem vT:zg=(do
    let sz:=(Cm (← get)).size
    let mr:=mrn sz sz 0
    let mut lo:=0
    for _ in [0:sz] do
      if lo≥sz then break
      let some fd ← zT lo (sz-lo)
        | return
      let mut n:=fd
      if n<mr then
        rule "list.sort.binary-insertion"
        let fo:=min (sz-lo) mr
        if !(← vI lo fo n) then return
        n:=fo
      if let some (s1,n1,_):=(Cz (← get)).back? then
        let pw:=pwr sz (2*s1+n1) (2*s1+n1+n1+n) sz
        for _ in [0:sz] do
          let p:=Cz (← get)
          let some (_,_,old):=(if p.size>1 then p[p.size-2]? else none)
            | break
          if old<=pw then break
          if !(← mAt (p.size-2)) then return
        modify λs=>SortSt.mk' (kindOf s) (Cm s) ((Cz s).modify ((Cz s).size-1) λ(st,len,_)=>(st,len,pw)) (gallopOf s) (failedOf s)
      modify λs=>SortSt.mk' (kindOf s) (Cm s) ((Cz s).push (lo,n,0)) (gallopOf s) (failedOf s)
      lo:=lo+n
    for _ in [0:sz] do
      let p:=Cz (← get)
      if p.size<=1 then break
      let i:=p.size-2
      let bf:=if i>0 then p[i-1]?.map (·.2.1) else none
      let i:=if bf.any (· < (p[i+1]?.elim 0 (·.2.1))) then i-1 else i
      if !(← mAt i) then return):=rfl
def Mt:Nat->List (List Cf)->List (Nat×Nat×Nat)->Prop
 | _,[],[]=>True
 | off,r :: rs,p :: ps=>p.1=off/\p.2.1=r.length/\Mt (off+r.length) rs ps
 | _,_,_=>False
theorem Mt.length:∀{off:Nat} {rs:List (List Cf)} {ps:List (Nat×Nat×Nat)},Mt off rs ps->ps.length=rs.length
 | _,[],[],_=>rfl
 | _,_ :: _,_ :: _,h=>by rw[B3,B3,Mt.length h.2.2]
theorem Mt.append:∀{off:Nat} {rs ts:List (List Cf)} {ps us:List (Nat×Nat×Nat)},Mt off rs ps->Mt (off+rs.flatten.length) ts us->Mt off (rs++ts) (ps++us)
 | _,[],_,[],_,_,h=>by simpa using h
 | off,r :: rs,ts,p :: ps,us,h,h'=>by
  refine ⟨h.1,h.2.1,Mt.append h.2.2 ?_⟩
  rw[Hy,BU, <- Kl] at h'
  exact h'
theorem Mt.split:∀{off:Nat} {rs:List (List Cf)} {ps:List (Nat×Nat×Nat)} (i:Nat),Mt off rs ps->i+1<ps.length →
  ∃R1 X Y R2 L1 w1 w2 L2,rs=R1++X :: Y :: R2/\ps=L1++(off+R1.flatten.length,X.length,w1) :: (off+R1.flatten.length+X.length,Y.length,w2) :: L2/\L1.length=i/\Mt off R1 L1/\Mt (off+R1.flatten.length+X.length+Y.length) R2 L2
 | off,r :: r2 :: rs,p :: p2 :: ps,0,h,_=>by
  obtain ⟨a,b,w1⟩:=p
  obtain ⟨c,d,w2⟩:=p2
  obtain ⟨h1,h2,h3,h4,h5⟩:=h
  dsimp only at h1 h2 h3 h4
  subst h1 h2 h3 h4
  exact ⟨[],r,r2,rs,[],w1,w2,ps,rfl,rfl,rfl,trivial,h5⟩
 | off,r :: rs,p :: ps,i+1,h,hl=>by
  rw[B3] at hl
  obtain ⟨R1,X,Y,R2,L1,w1,w2,L2,e1,e2,e3,m1,m2⟩:=Mt.split i h.2.2 (by omega)
  have ea:off+(r :: R1).flatten.length=off+r.length+R1.flatten.length:=by rw[Hy,BU];omega
  refine ⟨r :: R1,X,Y,R2,p :: L1,w1,w2,L2,by rw[e1];rfl,?_,by rw[B3,e3],⟨h.1,h.2.1,m1⟩,?_⟩
  ·rw[ea,e2];rfl
  ·rw[ea];exact m2
 | off,[],[],i,_,hl=>by simp at hl
 | off,[_],[_],0,_,hl=>by simp at hl
theorem Mt.modify (f:Nat×Nat×Nat->Nat×Nat×Nat)(hf:∀p,(f p).1=p.1/\(f p).2.1=p.2.1):∀{off:Nat} {rs:List (List Cf)} {ps:List (Nat×Nat×Nat)} (i:Nat),Mt off rs ps->Mt off rs (ps.modify i f)
 | _,[],[],i,_=>by cases i <;> exact trivial
 | off,r :: rs,p :: ps,0,h=>⟨(hf p).1.trans h.1,(hf p).2.trans h.2.1,h.2.2⟩
 | off,r :: rs,p :: ps,i+1,h=>⟨h.1,h.2.1,Mt.modify f hf i h.2.2⟩
theorem ur {α:Type}(l:List α)(a b c:α)(r:List α):((l++a :: b :: r).set l.length c).eraseIdx (l.length+1)=l++c :: r:=by
 induction l with
 | nil=>rfl
 | cons x l ih=>simp only[JA,B3,List.set_cons_succ,List.eraseIdx_cons_succ,ih]
section
variable  {O:GR}(key:Cf->O.α)(U:Cf->Prop)(κ:SortKind)
structure Rn (a0:List Cf)(lo:Nat)(st:CH):Prop where
 ex:∃runs rest,(Cm st).toList=runs.flatten++rest/\runs.flatten.length=lo/\(∀r∈runs,r.Pairwise (Le key)/\0<r.length)/\Mt 0 runs (Cz st).toList
 perm:(Cm st).toList.Perm a0
 k:kindOf st=κ
 f:failedOf st=none
end
section
variable  {prog:B7}{w:CJ}{A:CK}{E:BP->BR->Prop}{s:BR}{O:GR}{key:Cf->O.α}{U:Cf->Prop}{κ:SortKind}
theorem o9 (C:Cmp prog w A s O key U κ){a0:List Cf}{lo i:Nat}{st:CH}{Q:Bool->CH->Prop}(hu:∀p∈a0,U p)(R:Rn key κ a0 lo st)(hi:i+1<(Cz st).size)
  (h:∀st',Rn key κ a0 lo st'->(Cz st').size+1=(Cz st).size->(Cm st').toList.drop lo=(Cm st).toList.drop lo->Q true st'):wpS (Cn prog w) A E s (mAt i) Q st:=by
 obtain ⟨runs,rest,ea,el,er,em⟩:=R.ex
 obtain ⟨R1,X,Y,R2,L1,w1,w2,L2,e1,e2,e3,m1,m2⟩:=Mt.split i em (by rw[B0];exact hi)
 subst e1
 rw[FH] at e2 m2
 have hx:=er X (by simp)
 have hy:=er Y (by simp)
 have ga:(Cz st)[i]? = some (R1.flatten.length,X.length,w1):=by
  rw[<- Cd,e2, <- e3,show L1.length=L1.length+0 by omega,qR];rfl
 have gb:(Cz st)[i+1]? = some (R1.flatten.length+X.length,Y.length,w2):=by
  rw[<- Cd,e2, <- e3,qR];rfl
 refine Ab C (P:=R1.flatten) (X:=X) (Y:=Y) (S:=R2.flatten++rest) R.k R.f (by rw[ea];simp) (λp hp=>hu p (R.perm.mem_iff.mp hp)) ga gb hx.2 hy.2 hx.1 hy.1 λst' M pm sm ar pd kd fl =>?_
 have lm:M.length=X.length+Y.length:=by rw[pm.length_eq,BU]
 have ep:(Cz st').toList=L1++(R1.flatten.length,X.length+Y.length,w1) :: L2:=by
  rw[pd,Array.toList_eraseIdxIfInBounds,GX,e2, <- e3]
  exact ur _ _ _ _ _
 refine h st' ⟨⟨R1++M :: R2,rest,?_,?_,λr hr =>?_,?_⟩,?_,kd,fl⟩ ?_ ?_
 ·rw[ar];simp
 ·rw[<- el];simp[lm];omega
 ·rcases B5.mp hr with q | q
  ·exact er r (by simp[q])
  ·rcases Cw.mp q with q | q
   ·rw[q];exact ⟨sm,by have:=hx.2;omega⟩
   ·exact er r (by simp[q])
 ·rw[ep]
  refine Mt.append m1 ⟨by rw[FH],lm.symm,?_⟩
  rw[FH,lm, <- Kl]
  exact m2
 ·rw[ar]
  refine List.Perm.trans ?_ R.perm
  rw[ea,show (R1++X :: Y :: R2).flatten++rest=R1.flatten++((X++Y)++(R2.flatten++rest)) by simp]
  exact DN _ (Ey _ pm)
 ·rw[<- B0, <- B0,ep,e2]
  simp only[BU,B3]
  omega
 ·have l1:(R1++M :: R2).flatten.length=lo:=by rw[<- el];simp[lm];omega
  have q1:(Cm st').toList=(R1++M :: R2).flatten++rest:=by rw[ar];simp
  rw[q1,ea, <- l1,Hl,l1, <- el,Hl]
theorem Rn.sa {a0:List Cf}{lo:Nat}{st st':CH}(R:Rn key κ a0 lo st)(sa:SA lo st st'):Rn key κ a0 lo st':=by
 obtain ⟨runs,rest,ea,el,er,em⟩:=R.ex
 have et:(Cm st').toList.take lo=runs.flatten:=by
  have e1:(Cm st').toList.take lo=(Cm st).toList.take lo:=by
   refine Hz λi =>?_
   rw[Ec,Ec]
   split
   ·rw[Cd,Cd];exact sa.pre i (by assumption)
   ·rfl
  rw[e1,ea, <- el,List.take_left]
 refine ⟨⟨runs,(Cm st').toList.drop lo,by rw[<- et,D7],el,er,by rw[sa.p];exact em⟩,(GY.mp sa.perm).trans R.perm,sa.k.trans R.k,sa.f.trans R.f⟩
theorem uv {xs:Array Cf}{lo n:Nat}(h:Up key xs lo n):((xs.toList.drop lo).take n).Pairwise (Le key):=by
 refine Hk.mpr λi j hi hj hij =>?_
 have get:∀k (hk:k<((xs.toList.drop lo).take n).length),key ((xs.toList.drop lo).take n)[k]=kk key xs (lo+k)/\k<n:=λk hk=>by
  have hk':=hk
  rw[DK] at hk'
  refine ⟨?_,by omega⟩
  have e:((xs.toList.drop lo).take n)[k]? = xs[lo+k]? := by
   rw[Ec,if_pos (by omega),FN,Cd]
  rw[Cr hk] at e
  unfold kk
  rw[<- e];rfl
 obtain ⟨e1,l1⟩:=get i hi
 obtain ⟨e2,l2⟩:=get j hj
 show O.kle (key _) (key _)
 rw[e1,e2]
 exact h _ _ (by omega) (by omega) (by omega)
theorem Rn.push {a0:List Cf}{lo n:Nat}{st:CH}(R:Rn key κ a0 lo st)(hn:0<n)(hz:lo+n<=(Cm st).size)(hs:(((Cm st).toList.drop lo).take n).Pairwise (Le key)) :
  Rn key κ a0 (lo+n) (SortSt.mk' (kindOf st) (Cm st) ((Cz st).push (lo,n,0)) (gallopOf st) (failedOf st)):=by
 obtain ⟨runs,rest,ea,el,er,em⟩:=R.ex
 have ed:(Cm st).toList.drop lo=rest:=by rw[ea, <- el,Hl]
 rw[ed] at hs
 have lr:n<=rest.length:=by
  have:=congrArg List.length ea
  rw[B0,BU,el] at this
  omega
 have lt:(rest.take n).length=n:=by rw[DK];omega
 refine ⟨⟨runs++[rest.take n],rest.drop n,?_,?_,λr hr =>?_,?_⟩,R.perm,R.k,R.f⟩
 ·show (Cm st).toList=_
  rw[ea];simp
 ·simp[lt,el]
 ·rcases B5.mp hr with q | q
  ·exact er r q
  ·have e:r=rest.take n:=by simpa using q
   rw[e];exact ⟨hs,by omega⟩
 ·show Mt 0 _ ((Cz st).push (lo,n,0)).toList
  rw[EK]
  exact Mt.append em ⟨by show lo=_;omega,lt.symm,trivial⟩
theorem Rn.mod {a0:List Cf}{lo:Nat}{st:CH}(R:Rn key κ a0 lo st)(i:Nat)(f:Nat×Nat×Nat->Nat×Nat×Nat)(hf:∀p,(f p).1=p.1/\(f p).2.1=p.2.1):Rn key κ a0 lo (SortSt.mk' (kindOf st) (Cm st) ((Cz st).modify i f) (gallopOf st) (failedOf st)):=by
 obtain ⟨runs,rest,ea,el,er,em⟩:=R.ex
 refine ⟨⟨runs,rest,ea,el,er,?_⟩,R.perm,R.k,R.f⟩
 show Mt 0 runs ((Cz st).modify i f).toList
 rw[Array.toList_modify]
 exact Mt.modify f hf i em
theorem Ac {c:Prop}[Decidable c]{n:Nat}(h:1<n):(if c then n-2-1 else n-2)+1<n:=by split <;> omega
theorem mK:∀{runs:List (List Cf)},(∀r∈runs,0<r.length)->runs.length<=runs.flatten.length
 | [],_=>BV _
 | r :: rs,h=>by
  have h1:=h r B1
  have h2:=mK λq hq=>h q (B9 _ hq)
  rw[Hy,BU,B3]
  omega
theorem pe (C:Cmp prog w A s O key U κ){a0:List Cf}{st:CH}{Q:Unit->CH->Prop}(hu:∀p∈a0,U p)(ha:(Cm st).toList=a0)(hp:Cz st = #[])(hk:kindOf st=κ)(hf:failedOf st=none)(h1:1<=a0.length)
  (h:∀st',(Cm st').toList.Perm a0->(Cm st').toList.Pairwise (Le key)->failedOf st'=none->Q () st'):wpS (Cn prog w) A E s zg Q st:=by
 rw[vT]
 refine B6 (Gq ?_)
 dsimp only
 have sz0:(Cm st).size=a0.length:=by rw[<- B0,ha]
 have szR:∀{lo:Nat} {st':CH},Rn key κ a0 lo st'->(Cm st').size=(Cm st).size:=λR=>by rw[<- B0,R.perm.length_eq,sz0]
 have uR:∀{lo:Nat} {st':CH},Rn key κ a0 lo st'->∀p∈(Cm st').toList,U p:=λR p hp=>hu p (R.perm.mem_iff.mp hp)
 have R0:Rn key κ a0 0 st:=⟨⟨[],a0,by rw[ha];rfl,rfl,λr hr=>(by cases hr),by rw[hp];exact trivial⟩,by rw[ha],hk,hf⟩
 refine B6 (D6 (Dn (I:=λx c st'=>∃lo,c=(none,lo)/\x<=lo/\lo<=(Cm st).size/\Rn key κ a0 lo st') (Q:=λc st'=>c=(none,(Cm st).size)/\Rn key κ a0 (Cm st).size st') ?step ?fin ⟨0,rfl,BV _,CC _,R0⟩) ?post)
 case fin =>
  rintro c st' ⟨lo,rfl,l1,l2,R⟩
  obtain rfl:lo=(Cm st).size:=by omega
  exact ⟨rfl,R⟩
 case post =>
  rintro c st1 ⟨rfl,R⟩
  dsimp only
  have p0:(Cz st1).size<=(Cm st).size:=by
   obtain ⟨runs,rest,ea,el,er,em⟩:=R.ex
   have q:=em.length
   rw[B0] at q
   have:=mK λr hr=>(er r hr).2
   omega
  refine B6 (D6 (Dn (I:=λx c st'=>c=(none,())/\Rn key κ a0 (Cm st).size st'/\((Cz st').size<=1\/(Cz st').size+x<=(Cm st).size)) (Q:=λc st'=>c=(none,())/\Rn key κ a0 (Cm st).size st'/\(Cz st').size<=1) ?stepB ?finB ⟨rfl,R,.inr (by omega)⟩) ?postB)
  case finB =>
   rintro c st' ⟨rfl,R,q⟩
   exact ⟨rfl,R,by omega⟩
  case stepB =>
   rintro x c st' _ hx ⟨rfl,R,q⟩
   refine B6 (Gq ?_)
   by_cases c1:(Cz st').size<=1
   ·rw[if_pos c1]
    exact Cj ⟨rfl,R,c1⟩
   rw[if_neg c1]
   refine B6 (o9 C hu R (Ac (by omega)) λst2 R2 s2 _ =>?_)
   simp only[HH,Dl,if_false]
   exact Cj ⟨rfl,R2,by omega⟩
  case postB =>
   rintro c st' ⟨rfl,R,q⟩
   obtain ⟨runs,rest,ea,el,er,em⟩:=R.ex
   have lm:=em.length
   rw[B0] at lm
   have lr:=congrArg List.length ea
   rw[B0,szR R,BU,el] at lr
   have er0:rest=[]:=List.length_eq_zero_iff.mp (by omega)
   subst er0
   rw[CF] at ea
   match runs,er,lm,el,ea with
   | [],_,_,el,_=>simp at el;omega
   | [r],er,_,_,ea =>
    have e:(Cm st').toList=r:=by rw[ea];simp
    exact Cj (h st' R.perm (by rw[e];exact (er r (by simp)).1) R.f)
   | _ :: _ :: _,_,lm,_,_=>simp at lm;omega
 case step =>
  rintro x c st1 _ hx ⟨lo,rfl,l1,l2,R⟩
  dsimp only
  by_cases cl:lo≥(Cm st).size
  ·rw[if_pos cl]
   obtain rfl:lo=(Cm st).size:=by omega
   exact Cj ⟨rfl,R⟩
  rw[if_neg cl]
  have s1:=szR R
  refine B6 (yc C R.k (uR R) (by omega) (by omega) λn st2 n1 n2 sa2 up2 =>?_)
  dsimp only
  have R2:=R.sa sa2
  have s2:=szR R2
  by_cases cm:n<mrn (Cm st).size (Cm st).size 0
  case' pos =>
   rw[if_pos cm]
   refine B6 (GF (En ⟨rfl,?_⟩))
   obtain ⟨fo,e⟩:∃fo,fo=min ((Cm st).size-lo) (mrn (Cm st).size (Cm st).size 0):=⟨_,rfl⟩
   rw[<- e]
   refine B6 (vS C R2.k (uR R2) (by omega) (by omega) up2 λst3 sa3 up3 =>?_)
   simp only[HH,Dl,if_false]
   have R3:=R2.sa sa3
   have f0:0<fo:=by omega
   have f1:lo+fo<=(Cm st).size:=by omega
  case' neg =>
   rw[if_neg cm]
   obtain ⟨fo,e⟩:∃fo,fo=n:=⟨_,rfl⟩
   subst e
   obtain ⟨st3,e3⟩:∃st3,st3=st2:=⟨_,rfl⟩
   subst e3
   have R3:=R2
   have up3:=up2
   have f0:0<fo:=n1
   have f1:lo+fo<=(Cm st).size:=by omega
  all_goals
   have srt:=uv up3
   have s3:=szR R3
   refine B6 (Gq ?_)
   cases hbk:(Cz st3).back? with
   | none =>
    dsimp only
    exact B6 (Eo (Cj ⟨lo+fo,rfl,by omega,f1,R3.push f0 (by omega) srt⟩))
   | some t =>
    obtain ⟨t1,t2,t3⟩:=t
    dsimp only
    refine B6 (D6 (Dn (I:=λ_ c st'=>c=(none,())/\Rn key κ a0 lo st'/\(Cm st').toList.drop lo=(Cm st3).toList.drop lo) (Q:=λc st'=>c=(none,())/\Rn key κ a0 lo st'/\(Cm st').toList.drop lo=(Cm st3).toList.drop lo) ?stepC ?finC ⟨rfl,R3,rfl⟩) ?postC)
    case finC=>exact λc st' q=>q
    case stepC =>
     rintro z c st4 _ _ ⟨rfl,R4,d4⟩
     refine B6 (Gq ?_)
     by_cases p1:(Cz st4).size>1
     ·rw[if_pos p1]
      have lt:(Cz st4).size-2<(Cz st4).size:=by omega
      have e:(Cz st4)[(Cz st4).size-2]? = some (Cz st4)[(Cz st4).size-2]:=by simp[lt]
      rw[e]
      dsimp only
      split
      ·exact Cj ⟨rfl,R4,d4⟩
      ·refine B6 (o9 C hu R4 (by omega) λst5 R5 _ d5 =>?_)
       simp only[HH,Dl,if_false]
       exact Cj ⟨rfl,R5,d5.trans d4⟩
     ·rw[if_neg p1]
      exact Cj ⟨rfl,R4,d4⟩
    case postC =>
     rintro c st4 ⟨rfl,R4,d4⟩
     dsimp only
     have s4:=szR R4
     refine B6 (Eo (B6 (Eo (Cj ⟨lo+fo,rfl,by omega,f1,?_⟩))))
     refine Rn.push ?_ f0 ?_ ?_
     ·refine Rn.mod R4 _ _ ?_
      exact λp=>⟨rfl,rfl⟩
     ·show lo+fo<=(Cm st4).size
      omega
     ·show (((Cm st4).toList.drop lo).take fo).Pairwise (Le key)
      rw[d4]
      exact srt
end
open PySem PyProof.Rows
structure nV (prog:B7)(w:CJ)(s:BR)(vs:List BP)(O:GR)(key:BP->O.α):Prop where
 ok:2<=vs.length->∀(A:CK) (h6:Heap),(∀b o,s.heap.get? b=some o->h6.get? b=some o)->∃κ,(∀(Q:SortKind->BR->Prop) (E:BP->BR->Prop),Q κ { s with heap:=h6 }->Cb (Cn prog w) A (keyKind' vs.toArray) Q E { s with heap:=h6 }) ∧
  Cmp prog w A { s with heap:=h6 } O (λp=>key p.1) (λp=>p.1=p.2/\p.1∈vs) κ
section
variable  {prog:B7}{w:CJ}{A:CK}{E:BP->BR->Prop}{s:BR}{O:GR}{key:BP->O.α}
theorem zs:∀vs:List BP,(vs.zip vs).map (·.2)=vs
 | []=>rfl
 | v :: vs=>by rw[EC,Ci,zs vs]
theorem pf {l:List Cf}{vs:List BP}(h:l.Perm (vs.zip vs)):(l.map (·.2)).Perm vs/\∀p∈l,p.1=p.2/\p.1∈vs:=by
 have e:=zs vs
 refine ⟨by have:=h.map (·.2);rw[e] at this;exact this,λp hp =>?_⟩
 have m:=h.mem_iff.mp hp
 obtain ⟨i,hi⟩:=Dg.mp m
 rw[Hj] at hi
 have e1:=hi.1.symm.trans hi.2
 exact ⟨Cv e1,Cy hi.1⟩
theorem gO {a:Addr}{vs:List BP}{n:Nat}{P:Fin->BR->Prop}(ho:s.heap.get? a=some (seqObj "list" vs.toArray n))(hz:vs.length<=Ca)
    (hc:2<=vs.length->∀h6,(∀b o,b≠a->s.heap.get? b=some o->h6.get? b=some o)->∃κ,(∀(Q:SortKind->BR->Prop) (E:BP->BR->Prop),Q κ { s with heap:=h6 }->Cb (Cn prog w) A (keyKind' vs.toArray) Q E { s with heap:=h6 }) ∧
      Cmp prog w A { s with heap:=h6 } O (λp=>key p.1) (λp=>p.1=p.2/\p.1∈vs) κ)
    (h:∀out:List BP,out.Perm vs->out.Pairwise (λx y=>O.kle (key x) (key y))->P (.done (.ret .none)) { s with heap:=sortedHeap s.heap a vs out.toArray }):Cb (Cn prog w) A (Builtin.«list.sort» ⟨[.ref a],[]⟩) P E s:=by
  rw[list_sort_plain]
  have ha:a<s.heap.objs.size:=BW ho
  refine BN (Hg ho rfl ?_)
  refine BN (Fm ho rfl ?_ (by rw[BZ];exact hz) (CC _))
  obtain ⟨e1,ho1⟩:∃e1,(s.heap.update a (C9 λ_ => #[])).get? a=some (seqObj "list" #[] e1):=⟨_,FU ho (λ_ => #[])⟩
  refine BN (IQ ho1 rfl (BN (ID ?_ (by exact hz))))
  refine BN (FV ?_ (CC _))
  refine Dv ?_
  generalize hH:((s.heap.update a (C9 λ_ => #[])).push (seqObj "tuple" vs.toArray 0)).push (seqObj "list" #[] 0)=h6
  have kp:∀b o,b≠a->s.heap.get? b=some o->h6.get? b=some o:=λb o nb e=>by
    rw[<- hH]
    refine BO _ (BO _ ?_)
    rw[Dp _ _ _ _ nb]
    exact e
  have ho6:h6.get? a=some (seqObj "list" #[] e1):=by
    rw[<- hH]
    exact BO _ (BO _ ho1)
  have eH:∀out:List BP,sortedHeap s.heap a vs out.toArray=h6.update a (C9 λ_=>out.toArray):=λout=>by rw[<- hH];rfl
  have go:∀st':CH,(Cm st').toList.Perm (vs.zip vs)->(Cm st').toList.Pairwise (λp q=>O.kle (key p.1) (key q.1))->failedOf st'=none →
      Cb (Cn prog w) A (do
        let sorted:=(Cm st').map (·.2)
        let touched:=(← seqEpoch a) != e1
        Builtin.List.listUpdate (.ref a) λ_=>sorted
        if let some e:=failedOf st' then rule "list.sort.comparison-raised";throw e
        if touched then rule "list.sort.modified";raiseError "ValueError" "list modified during sort"
        ret .none) P E { s with heap:=h6 }:=by
    intro st' pm ps hf
    obtain ⟨z1,z2⟩:=pf pm
    have em:(Cm st').map (·.2)=((Cm st').toList.map (·.2)).toArray:=by
      apply HR.mp
      rw[Array.toList_map]
    dsimp only
    refine BN (IQ ho6 rfl ?_)
    refine BN (Fm ho6 rfl ?_ (CC _) (by rw[Array.size_map, <- B0,pm.length_eq,Ie,Ig];omega))
    rw[hf]
    simp only[bne_self_eq_false,Dl,if_false]
    refine BS ?_
    rw[em, <- eH]
    refine h _ z1 (CI.mpr (ps.imp_of_mem λ{p q} hp hq le =>?_))
    rw[<- (z2 p hp).1, <- (z2 q hq).1]
    exact le
  by_cases h2:vs.toArray.size<2
  · rw[if_pos h2,if_pos h2]
    refine BN (BS ?_)
    dsimp only
    rw[JM]
    refine BN (BS ?_)
    refine go (SortSt.mk' general' (vs.toArray.zip vs.toArray) #[] 7 none) (by show (vs.toArray.zip vs.toArray).toList.Perm _;simp) ?_ rfl
    rw[BZ] at h2
    have et:(vs.toArray.zip vs.toArray).toList=vs.zip vs:=by simp
    show (vs.toArray.zip vs.toArray).toList.Pairwise (λ(p q:Cf)=>O.kle (key p.1) (key q.1))
    rw[et]
    have short:∀us:List BP,us.length<2->(us.zip us).Pairwise (λ(p q:Cf)=>O.kle (key p.1) (key q.1)):=λus hu=>by
      match us,hu with
      | [],_=>exact List.Pairwise.nil
      | [v],_=>exact DR _ _
      | _ :: _ :: _,hu=>simp only[B3] at hu;omega
    exact short vs h2
  · rw[if_neg h2,if_neg h2]
    rw[BZ] at h2
    obtain ⟨κ,k1,C⟩:=hc (by omega) h6 kp
    refine BN (k1 _ _ ?_)
    have et:(vs.toArray.zip vs.toArray).toList=vs.zip vs:=by simp
    refine BN (C5 (pe C (E:=E) (a0:=vs.zip vs) (st:=SortSt.mk' κ (vs.toArray.zip vs.toArray) #[] 7 none)
      (Q:=λ_ st'=>(Cm st').toList.Perm (vs.zip vs)/\(Cm st').toList.Pairwise (Le λ(p:Cf)=>key p.1)/\failedOf st'=none)
      (pf (E1 _)).2 et rfl rfl rfl (by rw[Ie,Ig];omega) λst' a1 a2 a3=>⟨a1,a2,a3⟩) ?_ λ_ _ e=>e)
    rintro ⟨⟨⟩,st'⟩ s' ⟨rfl,hp,hs,hf⟩
    exact go st' hp hs hf
def iu (prog:B7)(w:CJ)(s:BR)(v:BP)(vs:List BP):Prop :=
 ∀(A:CK) (E:BP->BR->Prop) (R:List BP->BR->Prop),(∀h1,(∀b o,s.heap.get? b=some o->h1.get? b=some o)->s.heap.objs.size<=h1.objs.size->R vs { s with heap:=h1 })->Cb (Cn prog w) A (collect v) R E s
theorem kO {v:BP}{vs:List BP}{Q:BP->BR->Prop}(hv:iu prog w s v vs)(hz:vs.length<=Ca)(C:nV prog w s vs O key)
  (h:∀(h':Heap) (p:Addr) (out:List BP) (n:Nat),(∀b o,s.heap.get? b=some o->h'.get? b=some o)->s.heap.objs.size<=p->h'.get? p=some (seqObj "list" out.toArray n)->out.Perm vs->out.Pairwise (λx y=>O.kle (key x) (key y))->Q (.ref p) { s with heap:=h' }) :
  Cb (Cn prog w) A (call (.builtin "sorted") [v]) Q E s:=by
 refine Hm JR Jt Ju (args_sorted1 _) ?_
 unfold Builtin.«sorted»
 refine BN (m:=checkCount "sorted" 1 1 _) (BS ?_)
 refine BN (hv _ _ _ λh1 k1 z1=>BN (FV ?_ hz))
 have hoL:(h1.push (seqObj "list" vs.toArray 0)).get? h1.objs.size=some (seqObj "list" vs.toArray 0):=BX _ rfl
 have kL:∀b o,s.heap.get? b=some o->(h1.push (seqObj "list" vs.toArray 0)).get? b=some o:=λb o e=>BO _ (k1 b o e)
 refine BN (Dv (C8 slot_list_sort ⟨_,hoL,rfl⟩ entry_list_sort (gO (key:=key) (O:=O) hoL hz (λh2 h6 k6 =>?_) λout pm ps=>⟨_,rfl,?_⟩) (args_list_sort _)))
 ·exact C.ok h2 _ h6 λb o e=>k6 b o (Cp (B8 (BW e) z1)) (kL b o e)
 ·obtain ⟨n,en⟩:=sortedHeap_at (out:=out.toArray) hoL
  refine BS ⟨_,rfl,h _ _ out n (λb o e =>?_) z1 en pm ps⟩
  have lt:=B8 (BW e) z1
  rw[sortedHeap_old (Cp lt) (by rw[Jn];exact Em lt)]
  exact kL b o e
theorem dz {l:Addr}{o:Obj}{vs:List BP}{n:Nat}(ho:s.heap.get? l=some o)(hc:o.cls = .type "list" \/ o.cls = .type "tuple")(hd:o.data = .seq vs.toArray n)(hz:vs.length<=Ca):iu prog w s (.ref l) vs:=by
  intro A E R h
  unfold collect
  refine BN (IE (DY entry_proto_collect' ?_))
  show Cb _ _ (do again (.builtin "list.__iadd__" ⟨[<- newList [],.ref l],[]⟩)) _ _ s
  refine BN (FV (BS ⟨FO _ (by decide +kernel),DY entry_list_iadd' ?_⟩))
  show Cb _ _ (Dz (.ref s.heap.objs.size) (.ref l) (.ref s.heap.objs.size)) _ _ { s with heap:=s.heap.push (seqObj "list" #[] 0) }
  unfold Dz
  have ho':(s.heap.push (seqObj "list" #[] 0)).get? l=some o:=BO _ ho
  have cond:∀T,o.cls = .type T->(T = "list" \/ T = "tuple")->Cb (Cn prog w) A (typeOf (.ref l)) (λt s'=>t = .type T/\s'={ s with heap:=s.heap.push (seqObj "list" #[] 0) }) E { s with heap:=s.heap.push (seqObj "list" #[] 0) }:=λT e _=>EO (T:=T) ⟨o,ho',e⟩ ⟨rfl,rfl⟩
  obtain ⟨T,eT,hT⟩:∃T,o.cls = .type T/\(T = "list" \/ T = "tuple"):=by
    rcases hc with hc | hc
    · exact ⟨_,hc,.inl rfl⟩
    · exact ⟨_,hc,.inr rfl⟩
  refine BN (EO (T:=T) ⟨o,ho',eT⟩ ?_)
  rw[if_pos (by rcases hT with rfl | rfl <;> simp)]
  refine BN (Hg ho' hd ?_)
  refine BN (Hg (xs := #[]) (n:=0) (BX _ rfl) rfl ?_)
  rw[if_neg (by simp)]
  refine BN (Fm (xs := #[]) (n:=0) (BX _ rfl) rfl ?_ (CC _) (by show (#[]++vs.toArray).size<=Ca+1;simp only[EM,BZ,Dj];omega))
  refine BS ?_
  show Cb (Cn prog w) A (do
      let o ← load s.heap.objs.size
      match o.data with
      | .seq xs _=>pure xs.toList
      | _=>unsupported "internal:collect") R E { s with heap:=(s.heap.push (seqObj "list" #[] 0)).update s.heap.objs.size (C9 (· ++ vs.toArray)) }
  refine BN (Jm (FU (BX _ rfl) _) ?_)
  show Cb _ _ (pure ((#[]:Array BP)++vs.toArray).toList) R E _
  rw[show ((#[]:Array BP)++vs.toArray).toList=vs by simp]
  refine BS (h _ (λb ob e =>?_) ?_)
  · rw[Dp _ _ _ _ (Cp (BW e))]
    exact BO _ e
  · rw[JB,Jn]
    exact F3 _
end
open PySem PyProof.Rows
def kP:GR where
 α:=Int
 blt:=λa b=>decide (a<b)
 irrefl:=λa=>by simp
 trans:=λa b c h1 h2=>by simp at *;omega
 negTrans:=λa b c h=>by simp at *;omega
 total:=λa b h1 h2=>by simp at *;omega
theorem lex_irrefl:∀a,HT.lexLt a a=false
 | []=>rfl
 | x :: xs=>by rw[HT.aY,if_pos rfl];exact lex_irrefl xs
theorem lex_trans:∀a b c,HT.lexLt a b=true->HT.lexLt b c=true->HT.lexLt a c=true
 | [],[],_,h,_=>by cases h
 | [],_ :: _,[],_,h=>by cases h
 | [],_ :: _,_ :: _,_,_=>rfl
 | _ :: _,[],_,h,_=>by cases h
 | _ :: _,_ :: _,[],_,h=>by cases h
 | x :: xs,y :: ys,z :: zs,h1,h2=>by
  rw[HT.aY] at *
  by_cases e1:x=y
  ·subst e1
   rw[if_pos rfl] at h1
   by_cases e2:x=z
   ·rw[if_pos e2] at h2 ⊢
    exact lex_trans xs ys zs h1 h2
   ·rw[if_neg e2] at h2 ⊢
    exact h2
  ·rw[if_neg e1] at h1
   have l1:=of_decide_eq_true h1
   by_cases e2:y=z
   ·subst e2
    rw[if_neg e1]
    exact h1
   ·rw[if_neg e2] at h2
    have l2:=of_decide_eq_true h2
    rw[if_neg (by omega)]
    exact decide_eq_true (by omega)
theorem eU:∀a b,HT.lexLt a b=false->HT.lexLt b a=false->a=b
 | [],[],_,_=>rfl
 | [],_ :: _,h,_=>by cases h
 | _ :: _,[],_,h=>by cases h
 | x :: xs,y :: ys,h1,h2=>by
  rw[HT.aY] at *
  by_cases e:x=y
  ·subst e
   rw[if_pos rfl] at h1 h2
   rw[eU xs ys h1 h2]
  ·rw[if_neg e] at h1
   rw[if_neg (DE e)] at h2
   have a1:=of_decide_eq_false h1
   have a2:=of_decide_eq_false h2
   omega
theorem nW (a b c:List Int)(h:HT.lexLt a c=true):HT.lexLt a b=true\/HT.lexLt b c=true:=by
 cases h1:HT.lexLt a b with
 | true=>exact .inl rfl
 | false =>
  right
  cases h2:HT.lexLt b a with
  | true=>exact lex_trans b a c h2 h
  | false=>rw[<- eU a b h1 h2];exact h
def lexOrd:GR where
 α:=List Int
 blt:=HT.lexLt
 irrefl:=lex_irrefl
 trans:=lex_trans
 negTrans:=nW
 total:=eU
def intOf:BP->Int
 | .int i _=>i
 | _=>0
section
variable  {prog:B7}{w:CJ}{A:CK}{E:BP->BR->Prop}{s:BR}
theorem fZ:∀{vs:List BP} {ns:List Int},D5 vs ns->∀v∈vs,∃i t,v = .int i t
 | _,_,.nil,v,h=>by cases h
 | _,_,.cons n t r,v,h=>by
  rcases Cw.mp h with e | e
  ·exact ⟨n,t,e⟩
  ·exact fZ r v e
theorem nX {vs:List BP}{ns:List Int}(hI:D5 vs ns):nV prog w s vs kP intOf:=by
 refine ⟨λh2 A h6 _=>⟨oneType',λQ E q =>?_,⟨λE st x y Q hk hx hy q =>?_⟩⟩⟩
 ·match vs,h2,hI with
  | v1 :: v2 :: rest,_,hI =>
   rw[keyKind_ints hI]
   exact BS q
  | [],h2,_=>simp at h2
  | [_],h2,_=>simp at h2
 ·obtain ⟨i,t,e1⟩:=fZ hI _ hx.2
  obtain ⟨j,u,e2⟩:=fZ hI _ hy.2
  rw[lt'_eq]
  refine B6 (Gq ?_)
  rw[hk,keyLt'_oneType,e1,e2]
  refine B6 (GF (DL (JS ⟨rfl,?_⟩)))
  refine Cj ?_
  have q':Q (some (decide (intOf x.1<intOf y.1))) st:=q
  rw[e1,e2] at q'
  exact q'
def dA (h:Heap)(v:BP):List Int:=match v with
 | .ref p=>match h.get? p with
  | some o=>match o.data with
   | .seq xs _=>xs.toList.map intOf
   | _=>[]
  | none=>[]
 | _=>[]
def cI (h:Heap)(v:BP)(ns:List Int):Prop:=∃p o xs n,v = .ref p/\h.get? p=some o/\o.cls = .type "tuple" /\ o.data = .seq xs n/\D5 xs.toList ns
theorem ints_map:∀{vs:List BP} {ns:List Int},D5 vs ns->vs.map intOf=ns
 | _,_,.nil=>rfl
 | _,_,.cons n t r=>by rw[Ci,ints_map r];rfl
theorem cI.ints {h:Heap}{v:BP}{ns:List Int}(x:cI h v ns):dA h v=ns:=by
 obtain ⟨p,o,xs,n,rfl,e,_,d,r⟩:=x
 unfold dA
 dsimp only
 rw[e]
 dsimp only
 rw[d]
 exact ints_map r
theorem cI.keeps {h h':Heap}{v:BP}{ns:List Int}(x:cI h v ns)(k:∀b o,h.get? b=some o->h'.get? b=some o):cI h' v ns:=by
 obtain ⟨p,o,xs,n,rfl,e,r⟩:=x
 exact ⟨p,o,xs,n,rfl,k _ _ e,r⟩
theorem ph {fin:Bool}{Q:Bool->BR->Prop}:∀{us ws:List BP} {ns ms:List Int} (i:Nat),D5 us ns->D5 ws ms->(fin=true↔(decide (ns.length<ms.length)=true))->Q (HT.lexLt ns ms) s →
  PySem.W.KatLex prog w A true fin Q (us.zip ws) i s
 | _,_,_,_,i,.nil,.nil,hf,q=>by
  refine E9 ?_
  have e:fin=false:=by cases fin with
   | false=>rfl
   | true=>have:=hf.mp rfl;simp at this
  rw[e];exact q
 | _,_,_,_,i,.nil,.cons _ _ _,hf,q=>by
  refine E9 ?_
  have e:fin=true:=hf.mpr (by simp)
  rw[e];exact q
 | _,_,_,_,i,.cons _ _ _,.nil,hf,q=>by
  refine E9 ?_
  have e:fin=false:=by cases fin with
   | false=>rfl
   | true=>have:=hf.mp rfl;simp at this
  rw[e];exact q
 | _,_,_,_,i,.cons (ns:=ns) a t r,.cons (ns:=ms) c u r',hf,q=>by
  rw[EC]
  refine Gm (HU ?_)
  rw[HT.aY] at q
  by_cases e:a=c
  ·rw[if_pos e] at q
   rw[beq_iff_eq.mpr e]
   exact GJ (ph (i+1) r r' (by rw[hf];simp) q)
  ·rw[if_neg e] at q
   rw[beq_eq_false_iff_ne.mpr e]
   refine Hn ?_
   by_cases i0:(true && i == 0)=true
   ·rw[i0]
    exact JS q
   ·rw[D3.mpr i0,oneLt'_eq]
    simp only[Dl,if_false]
    refine BN (HT.kF _ _ a t c u prog w _ _ ?_)
    exact DC q
theorem kQ {h:Heap}:∀{vs:List BP},(∀v∈vs,∃ns,cI h v ns/\ns≠[])->∃fs,PySem.W.KatTups h vs fs/\fs.length=vs.length/\∀f∈fs,∃i t,f = .int i t
 | [],_=>⟨[],trivial,rfl,λf hf=>by cases hf⟩
 | v :: vs,hv=>by
  obtain ⟨fs,t,l,hf⟩:=kQ λu hu=>hv u (B9 _ hu)
  obtain ⟨ns,⟨p,o,xs,n,rfl,e,c,d,r⟩,ne⟩:=hv v B1
  have hx:∃i t,xs[0]? = some (.int i t):=by
   rw[<- Cd]
   generalize xs.toList=l at r
   cases r with
   | nil=>exact absurd rfl ne
   | cons i t r=>exact ⟨i,t,rfl⟩
  obtain ⟨i,t',hx⟩:=hx
  exact ⟨.int i t' :: fs,Iq e c d hx t,by rw[B3,B3,l],λf hf'=>by
   rcases Cw.mp hf' with q | q
   ·exact ⟨i,t',q⟩
   ·exact hf f q⟩
theorem nY {vs:List BP}(hv:∀v∈vs,∃ns,cI s.heap v ns/\ns≠[]):nV prog w s vs lexOrd (dA s.heap):=by
 refine ⟨λh2 A h6 k6=>⟨tuples' true,λQ E q =>?_,⟨λE st x y Q hk hx hy q =>?_⟩⟩⟩
 ·obtain ⟨fs,t,l,hf⟩:=kQ (h:=h6) (vs:=vs) λv hv'=>by
   obtain ⟨ns,i,ne⟩:=hv v hv'
   exact ⟨ns,i.keeps k6,ne⟩
  refine HS (T :=.type "int") t (by omega) (λf hf' =>?_) rfl q
  obtain ⟨i,t',rfl⟩:=hf f hf'
  exact Ge rfl
 ·obtain ⟨ns,i1,_⟩:=hv _ hx.2
  obtain ⟨ms,i2,_⟩:=hv _ hy.2
  have q':Q (some (HT.lexLt (dA s.heap x.1) (dA s.heap y.1))) st:=q
  rw[i1.ints,i2.ints] at q'
  obtain ⟨p1,o1,xs1,n1,e1,g1,c1,d1,r1⟩:=i1.keeps k6
  obtain ⟨p2,o2,xs2,n2,e2,g2,c2,d2,r2⟩:=i2.keeps k6
  rw[lt'_eq]
  refine B6 (Gq ?_)
  rw[hk,e1,e2]
  have l1:=r1.length
  have l2:=r2.length
  refine B6 (GF (DL (JZ g1 d1 g2 d2 (ph 0 r1 r2 ?_ ⟨rfl,?_⟩))))
  ·rw[<- l1, <- l2,B0,B0]
  ·exact Cj q'
end
end Srt
namespace L2
open PySem PySem.Spec PyProof.Rows
theorem bM {α β:Type}{f:α -> β}:∀{l:List β} {m:List α},l.Perm (m.map f)->∃m':List α,m'.Perm m/\l=m'.map f:=by
 intro l m h
 generalize hk:m.map f=k at h
 induction h generalizing m with
 | nil =>
  have:m=[]:=List.map_eq_nil_iff.mp hk
  exact ⟨[],by rw[this],rfl⟩
 | cons x _ ih =>
  match m,hk with
  | y :: m,hk =>
   rw[Ci] at hk
   injection hk with h1 h2
   obtain ⟨m',p,e⟩:=ih h2
   exact ⟨y :: m',p.cons y,by rw[Ci, <- e,h1]⟩
  | [],hk=>cases hk
 | swap x y l =>
  match m,hk with
  | a :: b :: m,hk =>
   rw[Ci,Ci] at hk
   injection hk with h1 h2
   injection h2 with h2 h3
   exact ⟨b :: a :: m,List.Perm.swap a b m,by rw[Ci,Ci,h1,h2,h3]⟩
  | [],hk=>cases hk
  | [_],hk=>simp at hk
 | trans _ _ ih1 ih2 =>
  obtain ⟨m',p,e⟩:=ih2 hk
  obtain ⟨m'',p',e'⟩:=ih1 e.symm
  exact ⟨m'',p'.trans p,e'⟩
theorem fj:∀{ns:List Int} {us:List BP},Vals (ns.map V.int) us->D5 us ns:=λr=>intsAre_of r
theorem nZ:∀{us:List BP} {ns:List Int},D5 us ns->Vals (ns.map V.int) us:=λr=>iV r
theorem mL:∀{us:List BP},(∀u∈us,∃i t,u=EN i t)->D5 us (us.map Srt.intOf)
 | [],_ =>.nil
 | u :: us,h=>by
  obtain ⟨i,t,e⟩:=h u B1
  subst e
  exact .cons i t (mL λv hv=>h v (B9 _ hv))
theorem cO:∀{α:Type} {f:α -> Addr} {ps:List α} {us:List BP},Vals (ps.map λx=>V.ref (f x)) us->us=ps.map λx=>Cc (f x)
 | _,_,[],_,r=>by cases r;rfl
 | _,f,p :: ps,_,r=>by
  cases r with
  | cons h t=>rw[Ci, <- cO t,show _=Cc (f p) from h]
theorem gB {α:Type}{f:α -> Addr}:∀{ps:List α},Vals (ps.map λx=>V.ref (f x)) (ps.map λx=>Cc (f x))
 | [] =>.nil
 | p :: ps =>.cons rfl gB
section
variable  {X:Cx}
theorem Inv.iw {pins:List (Addr×Obj)}{σ:St}{H:Hp}{s:BR}{p:Addr}{ys:List V}(I:Inv X pins σ H s)(h:SqL X.K H p ys\/SqT X.K H p ys) :
  ∃(its:List BP) (o:Obj) (n:Nat),Vals ys its/\s.heap.get? p=some o/\(o.cls = .type "list" \/ o.cls = .type "tuple")/\o.data = .seq its.toArray n/\ys.length<=Ca:=by
 rcases h with h | h
 ·obtain ⟨its,r,⟨o,n,e,c,_,d⟩,z⟩:=I.list h
  exact ⟨its,o,n,r,e,.inl c,d,z⟩
 ·obtain ⟨its,r,⟨o,e,c,n,d⟩,z⟩:=I.tuple h
  exact ⟨its,o,n,r,e,.inr c,d,z⟩
theorem Inv.newList {pins:List (Addr×Obj)}{σ:St}{H:Hp}{s:BR}{h':Heap}{p:Addr}{ys:List V}{its:List BP}{n:Nat}(I:Inv X pins σ H s)(k:∀b o,s.heap.get? b=some o->h'.get? b=some o)(hp:s.heap.objs.size<=p)
  (e:h'.get? p=some { cls :=.type "list",data :=.seq its.toArray n }) (r:Vals ys its) (hz:ys.length<=Ca):Inv X pins σ (upd H p (.lst ys)) { s with heap:=h' } :=
 I.laid (t':=s.toks) k hp ⟨hz,its,n,r,e⟩
theorem iy:cM X (.builtin "sorted") (λxs H Q=>∃(p:Addr) (ns:List Int),xs=[.ref p]/\(SqL X.K H p (ns.map V.int)\/SqT X.K H p (ns.map V.int))/\∀(l:Addr) (out:List Int),H l=none->out.Perm ns->out.Pairwise (· <= ·)->Q (.ref l) (upd H l (.lst (out.map V.int)))):=by
 intro pins s σ H xs us Q I r h
 obtain ⟨p,ns,rfl,hs,q⟩:=h
 obtain ⟨u,rfl,ru⟩:=vals1 r
 cases (show u=Cc p from ru)
 obtain ⟨its,o,n,rv,e,c,d,z⟩:=I.iw hs
 have hI:=fj rv
 have lz:its.length<=Ca:=by rw[<- rv.length];exact z
 refine Srt.kO (Srt.dz e c d lz) lz (Srt.nX hI) λh' l out m k hl el pm ps =>?_
 have hm:∀v∈out,∃i t,v=EN i t:=λv hv=>Srt.fZ hI v (pm.mem_iff.mp hv)
 have hO:=mL hm
 have pm':(out.map Srt.intOf).Perm ns:=by
  have:=pm.map Srt.intOf
  rw[Srt.ints_map hI] at this
  exact this
 refine ⟨.ref l,_,I.newList k hl el (nZ hO) (by rw[BQ,pm'.length_eq, <- BQ (f:=V.int)];exact z),rfl,q l _ (I.hok.fresh hl) pm' ?_⟩
 refine CI.mpr (ps.imp λ{x y} le =>?_)
 have le':decide (Srt.intOf y<Srt.intOf x)=false:=le
 have:=of_decide_eq_false le'
 omega
theorem oa:cM X (.builtin "sorted") (λxs H Q=>∃(p:Addr) (ts:List (Addr×List Int)),xs=[.ref p]/\(SqL X.K H p (ts.map λt =>.ref t.1)\/SqT X.K H p (ts.map λt =>.ref t.1))/\(∀t∈ts,SqT X.K H t.1 (t.2.map V.int)/\t.2≠[]) ∧
  ∀(l:Addr) (out:List (Addr×List Int)),H l=none->out.Perm ts->out.Pairwise (λa b=>HT.lexLt b.2 a.2=false)->Q (.ref l) (upd H l (.lst (out.map λt =>.ref t.1)))):=by
 intro pins s σ H xs us Q I r h
 obtain ⟨p,ts,rfl,hs,ht,q⟩:=h
 obtain ⟨u,rfl,ru⟩:=vals1 r
 cases (show u=Cc p from ru)
 obtain ⟨its,o,n,rv,e,c,d,z⟩:=I.iw hs
 have ei:=cO rv
 have lz:its.length<=Ca:=by rw[<- rv.length];exact z
 have tup:∀t∈ts,Srt.cI s.heap (Cc t.1) t.2:=λt hm=>by
  obtain ⟨jts,jr,⟨jo,je,jc,jn,jd⟩,_⟩:=I.tuple (ht t hm).1
  exact ⟨t.1,jo,_,jn,rfl,je,jc,jd,by simpa using fj jr⟩
 have hv:∀v∈its,∃ns,Srt.cI s.heap v ns/\ns≠[]:=λv hv=>by
  rw[ei] at hv
  obtain ⟨t,hm,rfl⟩:=Ce.mp hv
  exact ⟨t.2,tup t hm,(ht t hm).2⟩
 refine Srt.kO (Srt.dz e c d lz) lz (Srt.nY hv) λh' l out m k hl el pm ps =>?_
 rw[ei] at pm
 obtain ⟨out',pm',rfl⟩:=bM pm
 refine ⟨.ref l,_,I.newList k hl el gB (by rw[BQ,pm'.length_eq, <- BQ (f:=λt:Addr×List Int=>V.ref t.1)];exact z),rfl,q l _ (I.hok.fresh hl) pm' ?_⟩
 refine (CI.mp ps).imp_of_mem λ{a b} ha hb le =>?_
 have le':HT.lexLt (Srt.dA s.heap (Cc b.1)) (Srt.dA s.heap (Cc a.1))=false:=le
 rw[(tup a (pm'.mem_iff.mp ha)).ints,(tup b (pm'.mem_iff.mp hb)).ints] at le'
 exact le'
end
open PySem PySem.Spec PyProof.Rows
section
variable  {X:Cx}{tg:Expr}
end
theorem f9 {X:Cx}{K:BM}{x y:Str}{i j k:Nat}{p p' pos:Pos}(hN:X.N.Nodup)(hi:X.N[i]? = some x)(hj:X.N[j]? = some y)(hx:Loc X.env.scope x)(hy:Loc X.env.scope y)(hc:X.calm=true:=by rfl)(h:X.K=K:=by rfl)
  (hf:X.fn x=true\/X.env.scope.names.lookup x=some .local:=by first | exact .inl rfl | exact .inr rfl) (hg:X.fn y=true\/X.env.scope.names.lookup y=some .local:=by first | exact .inl rfl | exact .inr rfl):PG X (.Tuple [.Name x p,.Name y p'] k pos) (sE K i j):=by
 subst h
 exact nK hc (cA (aS hN hi hx hf) (cA (aS hN hj hy hg) jZ))
open PySem PySem.Spec PyProof.Rows
section
variable  {X:Cx}
theorem iX:∀{ns:List Int} {xs:List BP} {prog:B7} {w:CJ},D5 xs ns->ItemsAre (intKind prog w) ns xs
 | _,_,_,_,.nil =>.nil
 | _,_,_,_,.cons n t r =>.cons (intKind_is _ _ _ _) (iX r)
theorem jB:∀{its:List BP} {ns:List Int},D5 its ns->∃xs:List (Int×Tok),its=xs.map (λp=>EN p.1 p.2)/\xs.map (·.1)=ns
 | _,_,.nil=>⟨[],rfl,rfl⟩
 | _,_,.cons n t r=>by
  obtain ⟨xs,e1,e2⟩:=jB r
  exact ⟨(n,t) :: xs,by rw[Ci, <- e1],by rw[Ci,e2]⟩
theorem px (hh:X.A.handled=none):cM X (.builtin "sum") (λxs H Q=>∃(p:Addr) (ns:List Int),xs=[.ref p]/\H p=some (.lst (ns.map V.int))/\Q (.int ns.sum) H):=by
 intro pins s σ H xs us Q I r h
 obtain ⟨p,ns,rfl,hp,q⟩:=h
 obtain ⟨u,rfl,ru⟩:=vals1 r
 cases (show u=Cc p from ru)
 obtain ⟨z,its,n,r,e1⟩:=(show bo X.prog X.w H s.heap p (.lst _) from I.hok p _ hp)
 obtain ⟨zs,e2,e3⟩:=jB (intsAre_of r)
 have ei:its.toArray=intItems zs.toArray:=by rw[e2];simp[intItems]
 refine sum_intListG hh (xs:=zs.toArray) ⟨_,e1,rfl,n,by rw[ei]⟩ λh' tk t' k =>?_
 rw[preSum_eq,CP (by simp),e3]
 exact ⟨.int _,H,I.kept k,⟨_,rfl⟩,q⟩
end
end L2
namespace HT
open PySem PySem.Spec PyProof.Rows
section
variable  {prog:B7}{w:CJ}{A:CK}{E:BP->BR->Prop}{s:BR}
theorem gJ {t sl:Addr}{items:Array BP}{vl vu:BP}{lo hi:Option Int}{Q:BP->BR->Prop}(ht:IsTup s.heap t items)(hs:s.heap.IsSliceOf sl vl vu .none)(pl:IsPart vl lo)(pu:IsPart vu hi)
  (hw:sIx items.size 0 lo=0/\sIx items.size items.size hi=items.size) (h:Q (.ref t) s):Cb (Cn prog w) A (getItem (.ref t) (.ref sl)) Q E s:=by
 obtain ⟨os,hos,hcs,hds⟩:=id hs
 have hTs:s.TypeIs (.ref sl) "slice" :=⟨os,hos,hcs⟩
 unfold getItem
 try with_reducible refine Dv ?_
 first | refine BN (BS ?_) | skip
 refine BN (HE ht.typeIs (by decide) ?_)
 refine BN (C4 (name:=Str.ofString "__getitem__") ht.typeIs CB
  (C8 CB ht.typeIs entry_tuple_getitem ?_ (Hf _ _)))
 show Cb _ _ (Builtin.Tuple.tupleItemsOf (.ref t) >>= _) _ _ s
 refine BN (Jb ht ?_)
 refine BN (EO hTs ?_)
 rw[if_pos (by decide)]
 refine BN (eS hs pl pu ?_)
 show Cb _ _ (if (((sIx items.size 0 lo:Nat):Int) == 0 && (1:Int) == 1 && (sIx items.size items.size hi-sIx items.size 0 lo) == items.size)=true then _ else _) _ _ s
 rw[hw.1,hw.2,if_pos (by simp)]
 unfold Builtin.Tuple.tupleIsExact
 refine BN (BN (EO ht.typeIs (BS ?_)))
 rw[if_pos (by decide)]
 exact BN (En (BS ⟨_,rfl,BS h⟩))
end
end HT
namespace L2
open PySem PySem.Spec PyProof.Rows
section
variable  {X:Cx}
theorem yd:SlR X (λx lo hi H Q=>∃a xs,x = .ref a/\SqT X.K H a xs/\((HT.sIx xs.length 0 lo=0/\HT.sIx xs.length xs.length hi=xs.length)->Q (.ref a) H) ∧
  (¬ (HT.sIx xs.length 0 lo=0/\HT.sIx xs.length xs.length hi=xs.length)->∀p,H p=none->Q (.ref p) (upd H p (.tup (gI xs lo hi))))):=by
 intro pins s σ H x v vl vu lo hi sl Q I rx hs pl pu h
 obtain ⟨a,xs,rfl,hx,q1,q2⟩:=h
 by_cases hw:HT.sIx xs.length 0 lo=0/\HT.sIx xs.length xs.length hi=xs.length
 ·cases rx
  obtain ⟨its,r,ht,hz⟩:=I.tuple hx
  have hlen:its.toArray.size=xs.length:=by rw[BZ];exact r.length.symm
  refine ⟨"tuple",_,CB.lookup,ht.typeIs,?_⟩
  exact HT.gJ ht hs pl pu (by rw[hlen];exact hw) ⟨.ref a,H,I,rfl,q1 hw⟩
 ·exact zN pins s σ H _ v vl vu lo hi sl Q I rx hs pl pu ⟨a,xs,rfl,hx,hw,q2 hw⟩
theorem jC:cM X (.type "range") (λxs H Q=>∃n:Int,xs=[.int n]/\∀a,H a=none->Q (.ref a) (upd H a (.rng 0 n))):=by
 intro pins s σ H xs us Q I r h
 obtain ⟨n,rfl,q⟩:=h
 obtain ⟨u,rfl,⟨t,rfl⟩⟩:=vals1 r
 refine call_range_1 ?_
 exact ⟨.ref s.heap.objs.size,_,I.laid (o :=.rng 0 n) (λb ob q=>BO _ q) (BV _) ⟨_,_,_,BX _ rfl⟩,rfl,q _ (I.hok.fresh (BV _))⟩
end
section
variable  {prog:B7}{w:CJ}{A:CK}{E:BP->BR->Prop}{s:BR}
theorem lQ {R:List BP->BR->Prop}{r:Addr}{n:Nat}{t u v:Tok}(hh:A.handled=none)(hr:IsRange s.heap r 0 n 1 t u v)(hn:n<=2 ^ 24)
    (h:∀(h1:Heap) (tk:Nat) (vs:List BP),vs.length=n->(∀(i:Nat) (x:BP),vs[i]? = some x->∃t,x = .int i t)->(∀b o,s.heap.get? b=some o->h1.get? b=some o)->R vs { s with heap:=h1,toks:=tk }) :
    Cb (Cn prog w) A (collect (.ref r)) R E s:=by
  have hlt:r<s.heap.objs.size:=BW (show s.heap.get? r=some _ from hr)
  unfold collect
  refine BN (IE (DY GK ?_))
  rw[D1 GL _]
  show Cb _ A.in1 (newList [] >>= λl=>again (.builtin "list.__iadd__" ⟨[l,.ref r],[]⟩)) _ _ s
  refine BN (CM ?_)
  refine BS ⟨EW ET _,DY HI ?_⟩
  rw[D1 ET _]
  show Cb _ A.in1 (Dz (.ref s.heap.objs.size) (.ref r) (.ref s.heap.objs.size)) _ _ { s with heap:=s.heap.push { cls :=.type "list",data :=.seq ([]:List BP).toArray } }
  have hr1:IsRange (s.heap.push { cls :=.type "list",data :=.seq ([]:List BP).toArray }) r 0 n 1 t u v:=BO _ hr
  have rs:Builtin.Range.rangeSize 0 (n:Int) 1=(n:Int):=by
    rw[rangeSize_one]
    split <;> omega
  have hlen24:n<=16777216:=hn
  have hS0:(s.heap.push { cls :=.type "list",data :=.seq ([]:List BP).toArray }).get? s.heap.objs.size=some { cls :=.type "list",data :=.seq #[] 0 }:=BX _ rfl
  refine wpAny_extend_range (A:=A) (R:=λres s'=>match res with
      | .ok (.ret v)=>Cb (Cn prog w) A (match v with | .ref a=>(do match (← load a).data with | .seq xs _=>pure xs.toList | _=>unsupported "internal:collect") | _=>unsupported "internal:collect") R E s'
      | .ok _=>False
      | .error e=>E e s') (s:={ s with heap:=s.heap.push { cls :=.type "list",data :=.seq ([]:List BP).toArray } }) hh hr1 (small_one (by omega) (by omega) (by omega) (by omega)) rs hn s.heap.objs.size (.ref s.heap.objs.size) 0 hS0 λh' tk acc' c' kk hS' hacc =>?_
  show Cb _ A (load s.heap.objs.size >>= _) _ _ { s with heap:=h',toks:=tk }
  refine BN (Jm hS' ?_)
  refine BS (h h' tk acc'.toList (by rw[B0];exact hacc.1) (λi x hx =>?_) λb o e=>kk b o (Cp (BW e)) (BO _ e))
  rw[Cd] at hx
  obtain ⟨t',e⟩:=hacc.2 i x hx
  exact ⟨t',by rw[e];simp⟩
theorem fS (r:Addr)(n:Nat)(t u v:Tok)(hn:n<=1000) :
  Meets (Builtin.«tuple.__new__» ⟨[.type "tuple",.ref r],[]⟩)
   (λA R s=>A.handled=none/\IsRange s.heap r 0 n 1 t u v/\∀(h':Heap) (tk:Nat) (vs:List BP),vs.length=n->(∀(i:Nat) (x:BP),vs[i]? = some x->∃t,x = .int i t)->(∀b o',s.heap.get? b=some o'->h'.get? b=some o')->R (.ok (.ret (.ref h'.objs.size))) { s with heap:=h'.push { cls :=.type "tuple",data :=.seq vs.toArray },toks:=tk }) :=
 .of_wp λprog w A R s h=>by
  obtain ⟨hp,g,d,tk,os⟩:=s;obtain ⟨hh,ht,h⟩:=h
  have hsub:=sub_tuple_self
  have hinit:=Jo
  have hmh:=madeHere_tuple
  have hT:Shared.TypeIs ⟨hp,g,d,tk,os⟩ (.ref r) "range" :=⟨_,ht,rfl⟩
  wp_walk using EO hT,lQ (by simpa using hh) ht (by omega)
  intro h' tk' vs lv hv hk
  show Cb _ _ (Builtin.Tuple.tupleExact vs.toArray >>= λv=>ret v) _ _ _
  unfold Builtin.Tuple.tupleExact
  refine BN (CM ?_ (by show vs.toArray.size<=Ca;rw[BZ,lv];exact small hn))
  exact BS ⟨_,rfl,h h' tk' vs lv hv hk⟩
end
section
variable  {X:Cx}
theorem qT:∀{vs:List BP},(∀(i:Nat) (x:BP),vs[i]? = some x->∃t,x=EN i t)->Vals ((Dh vs.length).map λi=>V.int (i:Nat)) vs:=by
 suffices h:∀(vs:List BP) (k:Nat),(∀(i:Nat) (x:BP),vs[i]? = some x->∃t,x=EN ((i+k:Nat):Int) t)->Vals ((List.range' k vs.length).map λi=>V.int (i:Nat)) vs by
  intro vs hv
  have:=h vs 0 hv
  rw[List.range_eq_range']
  exact this
 intro vs
 induction vs with
 | nil=>intro k _;exact .nil
 | cons x vs ih =>
  intro k hv
  rw[B3,List.range'_succ,Ci]
  refine .cons ?_ (ih (k+1) λi y hy =>?_)
  ·obtain ⟨t,e⟩:=hv 0 x rfl
   exact ⟨t,by rw[e,FH]⟩
  ·obtain ⟨t,e⟩:=hv (i+1) y (by rw[List.getElem?_cons_succ];exact hy)
   exact ⟨t,by rw[e,show i+1+k=i+(k+1) by omega]⟩
theorem jD (hh:X.A.handled=none):cM X (.type "tuple") (λxs H Q=>∃(a:Addr) (n:Nat),xs=[.ref a]/\H a=some (.rng 0 n)/\n<=1000/\∀l,H l=none->Q (.ref l) (upd H l (.tup ((Dh n).map λi=>V.int (i:Nat))))):=by
 intro pins s σ H xs us Q I r h
 obtain ⟨a,n,rfl,ha,hn,q⟩:=h
 obtain ⟨u,rfl,ru⟩:=vals1 r
 cases (show u=Cc a from ru)
 obtain ⟨t,u,v,e⟩:=(show bo X.prog X.w H s.heap a (.rng 0 n) from I.hok a _ ha)
 refine Im Ir (by decide) (HA _) (HJ _) (λobj=>Fo obj _) HK
  (fS a n t u v hn) ⟨by simpa using hh,e,λh' tk vs lv hv k=>⟨⟨_,BX _ rfl,rfl⟩,?_⟩⟩
 have I1:Inv X pins σ H { s with heap:=h',toks:=tk }:=I.kept k
 have rv:=qT hv
 rw[lv] at rv
 exact ⟨.ref h'.objs.size,_,I1.laid (o :=.tup ((Dh n).map λi=>V.int (i:Nat))) (λb ob q=>BO _ q) (BV _) ⟨by rw[BQ,F7];exact small hn,vs,rv,dq.new _ _⟩,rfl,q _ (I1.hok.fresh (BV _))⟩
end
open PySem PySem.Spec PyProof.Rows
section
variable  {κ:Type}[DecidableEq κ]
def cW (kvs:List (κ×V))(k:κ):Option V:=(kvs.find? λkv=>decide (kv.1=k)).map (·.2)
def putK (kvs:List (κ×V))(k:κ)(v:V):List (κ×V) :=
 if (kvs.any λkv=>decide (kv.1=k))=true then kvs.map (λkv=>if kv.1=k then (kv.1,v) else kv) else kvs++[(k,v)]
theorem cC {p:κ×V}{r:List (κ×V)}{k:κ}(e:p.1=k):cW (p :: r) k=some p.2:=by simp[cW,Fb,e]
theorem cD {p:κ×V}{r:List (κ×V)}{k:κ}(e:¬ p.1=k):cW (p :: r) k=cW r k:=by simp[cW,Fb,e]
theorem df (k:κ):∀kvs:List (κ×V),(kvs.any λkv=>decide (kv.1=k))=(cW kvs k).isSome
 | []=>rfl
 | p :: r=>by
  rw[ED]
  by_cases e:p.1=k
  ·simp only[cC e,decide_eq_true e,Bool.true_or,Option.isSome_some]
  ·rw[cD e,decide_eq_false e,IZ];exact df k r
theorem pz (k j:κ)(y:V):∀kvs:List (κ×V),cW (kvs.map λkv=>if kv.1=k then (kv.1,y) else kv) j=(cW kvs j).map λx=>if j=k then y else x
 | []=>rfl
 | p :: r=>by
  have ih:=pz k j y r
  rw[Ci]
  by_cases h:p.1=k
  ·rw[if_pos h]
   by_cases e:p.1=j
   ·rw[cC (p:=(p.1,y)) e,cC e,Et,if_pos (e.symm.trans h)]
   ·rw[cD (p:=(p.1,y)) e,cD e,ih]
  ·rw[if_neg h]
   by_cases e:p.1=j
   ·rw[cC (p:=p) e,cC e,Et,if_neg (λz=>h (e.trans z))]
   ·rw[cD (p:=p) e,cD e,ih]
theorem mM (k j:κ)(y:V):∀kvs:List (κ×V),cW kvs k=none->cW (kvs++[(k,y)]) j=if j=k then some y else cW kvs j
 | [],_=>by
  by_cases e:k=j
  ·rw[if_pos e.symm];exact cC (p:=(k,y)) e
  ·rw[if_neg (λz=>e z.symm)];exact cD (p:=(k,y)) e
 | p :: r,hn=>by
  rw[JA]
  have hk:¬ p.1=k:=λz=>by rw[cC z] at hn;cases hn
  rw[cD hk] at hn
  have ih:=mM k j y r hn
  by_cases e:p.1=j
  ·rw[cC e,cC e,if_neg (λz=>hk (e.trans z))]
  ·rw[cD e,cD e,ih]
theorem vU (kvs:List (κ×V))(k j:κ)(y:V):cW (putK kvs k y) j=if j=k then some y else cW kvs j:=by
 unfold putK
 by_cases a:(kvs.any λkv=>decide (kv.1=k))=true
 ·rw[if_pos a,pz]
  rw[df] at a
  by_cases e:j=k
  ·obtain ⟨x,hx⟩:=Hx.mp a
   rw[if_pos e,e,hx,Et,if_pos rfl]
  ·rw[if_neg e]
   cases cW kvs j with
   | none=>rfl
   | some x=>rw[Et,if_neg e]
 ·rw[if_neg a]
  refine mM k j y kvs ?_
  rw[df] at a
  cases q:cW kvs k with
  | none=>rfl
  | some x=>rw[q] at a;exact (a rfl).elim
theorem gc (kvs:List (κ×V))(k:κ)(v:V):(putK kvs k v).length<=kvs.length+1:=by
 unfold putK
 split
 ·rw[BQ];omega
 ·rw[BU,B3,Dj];omega
theorem vV {kvs:List (κ×V)}{k:κ}(v:V)(h:cW kvs k=none):putK kvs k v=kvs++[(k,v)]:=by
 unfold putK
 rw[df,h]
 exact if_neg (by decide)
theorem gT.uw {o:Option V}{u:Option BP}(r:gT o u):o.isSome=u.isSome:=by
 cases o with
 | none=>cases u with
  | none=>rfl
  | some _=>exact (show False from r).elim
 | some _=>cases u with
  | none=>exact (show False from r).elim
  | some _=>rfl
theorem gT.getD {o:Option V}{u:Option BP}{d:V}{d':BP}(r:gT o u)(rd:RelV d d'):RelV (o.getD d) (u.getD d'):=by
 cases o with
 | none=>cases u with
  | none=>exact rd
  | some _=>exact (show False from r).elim
 | some _=>cases u with
  | none=>exact (show False from r).elim
  | some _=>exact r
theorem KV.val {kvs:List (κ×V)}{vs:List (κ×BP)}(r:KV kvs vs)(k:κ):gT (cW kvs k) (valueAt vs k):=by
 unfold KV at r
 induction r with
 | nil=>exact True.intro
 | @cons p q ps qs h t ih =>
  obtain ⟨h1,h2⟩:=h
  by_cases e:p.1=k
  ·have e':q.1=k:=h1.symm.trans e
   have b:valueAt (q :: qs) k=some q.2:=by simp[valueAt,Fb,e']
   rw[cC e,b];exact h2
  ·have e':¬ q.1=k:=λz=>e (h1.trans z)
   have b:valueAt (q :: qs) k=valueAt qs k:=by simp[valueAt,Fb,e']
   rw[cD e,b];exact ih
theorem KV.any {kvs:List (κ×V)}{vs:List (κ×BP)}(r:KV kvs vs)(k:κ):(kvs.any λkv=>decide (kv.1=k))=vs.any λkv=>decide (kv.1=k):=by
 unfold KV at r
 induction r with
 | nil=>rfl
 | cons h t ih=>rw[ED,ED,ih,h.1]
theorem KV.Ad {kvs:List (κ×V)}{vs:List (κ×BP)}(r:KV kvs vs)(k:κ){y:V}{u:BP}(ry:RelV y u) :
  KV (kvs.map λkv=>if kv.1=k then (kv.1,y) else kv) (vs.map λkv=>if kv.1=k then (kv.1,u) else kv):=by
 unfold KV at r ⊢
 induction r with
 | nil=>exact .nil
 | @cons p q ps qs h t ih =>
  rw[Ci,Ci]
  refine .cons ?_ ih
  obtain ⟨h1,h2⟩:=h
  by_cases e:p.1=k
  ·rw[if_pos e,if_pos (h1.symm.trans e)];exact ⟨h1,ry⟩
  ·rw[if_neg e,if_neg (λz=>e (h1.trans z))];exact ⟨h1,h2⟩
theorem KV.put {kvs:List (κ×V)}{vs:List (κ×BP)}(r:KV kvs vs)(k:κ){y:V}{u:BP}(ry:RelV y u):KV (putK kvs k y) (stored vs k u):=by
 unfold putK stored
 rw[r.any k]
 by_cases e:(vs.any λkv=>decide (kv.1=k))=true
 ·rw[if_pos e,if_pos e];exact r.Ad k ry
 ·rw[if_neg e,if_neg e];exact Ks r ⟨rfl,ry⟩
theorem KV.length {kvs:List (κ×V)}{vs:List (κ×BP)}(r:KV kvs vs):kvs.length=vs.length:=HG r
end
theorem sS {P:B7}{w:CJ}{k:Key}{u:BP}(r:RelV (kV k) u):(cb P w).is k u=true:=by
 cases k with
 | inl i=>obtain ⟨t,e⟩:=(show ∃t,u=EN i t from r);subst e;exact oU P w i t
 | inr x=>obtain ⟨t,e⟩:=(show ∃t,u=Value.str x t from r);subst e;exact oV P w x t
theorem mN {P:B7}{w:CJ}:∀{ks:List Key} {us:List BP},Vals (ks.map kV) us->ItemsAre (cb P w) ks us
 | [],_,r=>by rw[Jq] at r;cases r;exact .nil
 | k :: ks,_,r=>by
  rw[Ci] at r
  cases r with
  | cons h t=>exact .cons (sS h) (mN t)
abbrev KT (H:Hp):List (List Key×V)->List (List Key×Addr×BP)->Prop:=Paired λp q=>p.1=q.1/\H q.2.1=some (.tup (p.1.map kV))/\RelV p.2 q.2.2
theorem KT.val {H:Hp}{kvs:List (List Key×V)}{xs:List (List Key×Addr×BP)}(r:KT H kvs xs)(k:List Key):gT (cW kvs k) ((atKey xs k).map (·.2)):=by
 induction r with
 | nil=>exact True.intro
 | @cons p q ps qs h t ih =>
  obtain ⟨h1,_,h2⟩:=h
  by_cases e:p.1=k
  ·have e':q.1=k:=h1.symm.trans e
   have b:atKey (q :: qs) k=some q.2:=by simp[atKey,Fb,e']
   rw[cC e,b];exact h2
  ·have e':¬ q.1=k:=λz=>e (h1.trans z)
   have b:atKey (q :: qs) k=atKey qs k:=by simp[atKey,Fb,e']
   rw[cD e,b];exact ih
theorem KT.Ad {H:Hp}{kvs:List (List Key×V)}{xs:List (List Key×Addr×BP)}(r:KT H kvs xs)(k:List Key){y:V}{u:BP}(ry:RelV y u) :
  KT H (kvs.map λkv=>if kv.1=k then (kv.1,y) else kv) (xs.map (putAt k u)):=by
 induction r with
 | nil=>exact .nil
 | @cons p q ps qs h t ih =>
  rw[Ci,Ci]
  refine .cons ?_ ih
  obtain ⟨h1,h2,h3⟩:=h
  unfold putAt
  by_cases e:p.1=k
  ·rw[if_pos e,if_pos (h1.symm.trans e)];exact ⟨h1,h2,ry⟩
  ·rw[if_neg e,if_neg (λz=>e (h1.trans z))];exact ⟨h1,h2,h3⟩
theorem KT.put {H:Hp}{kvs:List (List Key×V)}{xs:List (List Key×Addr×BP)}(r:KT H kvs xs)(k:List Key){b:Addr}{y:V}{u:BP}(hb:H b=some (.tup (k.map kV)))(ry:RelV y u) :
  KT H (putK kvs k y) (storedH xs k b u):=by
 have e:(kvs.any λkv=>decide (kv.1=k))=(atKey xs k).isSome:=by
  rw[df,(r.val k).uw,Option.isSome_map]
 unfold putK storedH
 rw[e]
 by_cases q:(atKey xs k).isSome=true
 ·rw[if_pos q,if_pos q];exact r.Ad k ry
 ·rw[if_neg q,if_neg q];exact Ks r ⟨rfl,hb,ry⟩
theorem KT.keeps {H H':Hp}{kvs:List (List Key×V)}{xs:List (List Key×Addr×BP)}(r:KT H kvs xs)(ht:∀b ys,H b=some (.tup ys)->H' b=some (.tup ys)):KT H' kvs xs :=
 Paired.zB r λ_ _ z=>⟨z.1,ht _ _ z.2.1,z.2.2⟩
section
variable  {P:B7}{w:CJ}{H:Hp}{h:Heap}{a:Addr}
theorem zi {u:HO}(ok:HOk P w H h)(e:Rd H a u):bo P w H h a u:=e.ok ok
theorem pB {kvs:List (Key×V)}(ok:HOk P w H h)(e:Rd H a (.dK kvs)):kvs.length<=Ca/\(a == sysModules)=false/\∃vs,KV kvs vs/\h.DictOf (cb P w) a vs :=
 show bo P w H h a (.dK kvs) from zi ok e
theorem Bh {kvs:List (Key×V)}(ok:HOk P w H h)(e:H a=some (.dK kvs)):kvs.length<=Ca/\(a == sysModules)=false/\∃vs,KV kvs vs/\h.DictOf (cb P w) a vs:=pB ok (.inl e)
theorem og {ks:List Key}(ok:HOk P w H h)(e:H a=some (.tup (ks.map kV))):(tupleKind (cb P w)).is h ks a:=by
 obtain ⟨_,its,r,o,h1,h2,n,h3⟩:=(show bo P w H h a (.tup (ks.map kV)) from ok a _ e)
 exact ⟨o,its.toArray,n,h1,h2.1,h3,by simpa using mN r⟩
theorem mO {kvs:List (List Key×V)}(ok:HOk P w H h)(e:Rd H a (.dT kvs)):kvs.length<=Ca/\(a == sysModules)=false ∧
  ∃xs,KT H kvs xs/\h.DictOfH (tupleKind (cb P w)) a xs:=by
 obtain ⟨z,y,xs,r,o,es,ep,h1,h2,h3,h4,h5⟩:=(show bo P w H h a (.dT kvs) from zi ok e)
 refine ⟨z,y,xs,r,o,es,ep,h1,h2,h3,h4,λx hx =>?_,h5⟩
 have all:∀{l:List (List Key×V)} {m:List (List Key×Addr×BP)},KT H l m->∀x∈m,(tupleKind (cb P w)).is h x.1 x.2.1:=by
  intro l m q
  induction q with
  | nil=>intro x hx;exact nomatch hx
  | @cons p q ps qs hq t ih =>
   intro x hx
   rcases Cw.mp hx with e | hx
   ·subst e
    exact og ok (by rw[<- hq.1];exact hq.2.1)
   ·exact ih x hx
 exact all r x hx
theorem zj {kvs:List (List Key×V)}(ok:HOk P w H h)(e:H a=some (.dT kvs)):kvs.length<=Ca/\(a == sysModules)=false ∧
  ∃xs,KT H kvs xs/\h.DictOfH (tupleKind (cb P w)) a xs:=mO ok (.inl e)
end
def kR (H:Hp)(a:Addr)(y:V)(r:Option V):Prop :=
 (∃kvs k,Rd H a (.dK kvs)/\y=kV k/\r=cW kvs k)\/∃kvs k b,Rd H a (.dT kvs)/\y = .ref b/\H b=some (.tup (k.map kV))/\r=cW kvs k
def vW (H:Hp)(a:Addr)(y v:V)(H':Hp):Prop :=
 (∃kvs k,H a=some (.dK kvs)/\y=kV k/\kvs.length<Ca/\H'=upd H a (.dK (putK kvs k v))) ∨
 ∃kvs k b,H a=some (.dT kvs)/\y = .ref b/\H b=some (.tup (k.map kV))/\kvs.length<Ca/\H'=upd H a (.dT (putK kvs k v))
theorem kR.t {H:Hp}{a b:Addr}{kvs:List (List Key×V)}{k:List Key}(e:H a=some (.dT kvs))(eb:H b=some (.tup (k.map kV))):kR H a (.ref b) (cW kvs k) :=.inr ⟨kvs,k,b,.inl e,rfl,eb,rfl⟩
theorem vW.t {H:Hp}{a b:Addr}{kvs:List (List Key×V)}{k:List Key}{v:V}(e:H a=some (.dT kvs))(eb:H b=some (.tup (k.map kV)))(hl:kvs.length<Ca) :
  vW H a (.ref b) v (upd H a (.dT (putK kvs k v))) :=.inr ⟨kvs,k,b,e,rfl,eb,hl,rfl⟩
section
variable  {X:Cx}{pins:List (Addr×Obj)}{σ:St}{H:Hp}{s:BR}{a:Addr}{y v:V}{u r:BP}{o:Option V}{A:CK}{E:BP->BR->Prop}
theorem Inv.big (I:Inv X pins σ H s):sysModules<s.heap.objs.size:=by
 have h:Ct<s.heap.objs.size:=(I.mod.glob.keeps I.bk).lt
 exact Nat.lt_trans (by decide) h
theorem ux {Q:BP->BR->Prop}(hu:A.units+1<cLine)(I:Inv X pins σ H s)(g:kR H a y (some v))(ry:RelV y u)(h:∀w' s',Inv X pins σ H s'->RelV v w'->Q w' s') :
  Cb (Cn X.prog X.w) A (getItem (.ref a) u) Q E s:=by
 rcases g with ⟨kvs,k,e,ey,l⟩ | ⟨kvs,k,b,e,ey,eb,l⟩
 ·subst ey
  obtain ⟨z,hd,vs,rel,dd⟩:=pB I.hok e
  obtain ⟨w',hw,rw'⟩:=gT.some_of (v:=v) (o:=valueAt vs k) (by rw[l];exact rel.val k)
  exact wpAny_getItem_of (sS ry) dd.mapOf hw (h w' _ (I.tok _) rw')
 ·subst ey
  cases (show u=Cc b from ry)
  obtain ⟨z,hd,xs,rel,dd⟩:=mO I.hok e
  obtain ⟨w',hw,rw'⟩:=gT.some_of (v:=v) (o:=(atKey xs k).map (·.2)) (by rw[l];exact rel.val k)
  obtain ⟨p,hp,hp2⟩:=D2.mp hw
  refine wpAny_getItem_heap (Hh hu) (og I.hok eb) dd hp ?_
  rw[hp2]
  exact h w' _ (I.tok _) rw'
theorem sU {h':Heap}{t':Nat}{ob:HO}(I:Inv X pins σ H s)(mu:Mut (H a))(hs:Heap.SameBut a s.heap h')(he:∃q,h'.get? a=some q)(new:bo X.prog X.w (upd H a ob) h' a ob) :
  Inv X pins σ (upd H a ob) { s with heap:=h',toks:=t' } :=
 I.write (x:=a) (e:=a) mu (.inl rfl) (λb q hb z=>(hs.2 b hb).trans z) he new
theorem Ae {P:B7}{w:CJ}{H':Hp}{h':Heap}{kvs:List (Key×V)}{vs:List (Key×BP)}(z:kvs.length<=Ca)(hd:(a == sysModules)=false)(rel:KV kvs vs)(dd:h'.DictOf (cb P w) a vs) :
  bo P w H' h' a (.dK kvs):=⟨z,hd,vs,rel,dd⟩
theorem uy {H':Hp}{Q:Unit->BR->Prop}(hu:A.units+1<cLine)(I:Inv X pins σ H s)(g:vW H a y v H')(ry:RelV y u)(rv:RelV v r)(h:∀s',Inv X pins σ H' s'->Q () s') :
  Cb (Cn X.prog X.w) A (setItem (.ref a) u r) Q E s:=by
 rcases g with ⟨kvs,k,e,ey,l,eH⟩ | ⟨kvs,k,b,e,ey,eb,l,eH⟩
 ·subst ey eH
  obtain ⟨z,hd,vs,rel,dd⟩:=Bh I.hok e
  have hz:vs.length<=Ca:=by rw[<- rel.length];exact z
  have hl:(putK kvs k v).length<=Ca:=by have:=gc kvs k v;omega
  refine wpAny_setItem_pairs (hsz:=hz) (sS ry) dd λh' dd' hs=>h _ ?_
  have he:∃q,h'.get? a=some q:=let ⟨q,_,_,hq,_⟩:=dd';⟨q,hq⟩
  exact sU I (by rw[e];exact True.intro) hs he (Ae hl hd (rel.put k rv) dd')
 ·subst ey eH
  cases (show u=Cc b from ry)
  obtain ⟨z,hd,xs,rel,dd⟩:=zj I.hok e
  have hz:xs.length<=Ca:=by rw[<- HG rel];exact z
  have hl:(putK kvs k v).length<=Ca:=by have:=gc kvs k v;omega
  refine wpAny_setItem_heap (hsz:=hz) (Hh hu) (og I.hok eb) dd λh' dd' hs=>h _ ?_
  obtain ⟨q,es,ep,hq,h2,h3,h4,_,h5⟩:=dd'
  refine sU I (by rw[e];exact True.intro) hs ⟨q,hq⟩ ⟨hl,hd,_,(rel.put k eb rv).keeps λc ys ec =>?_,q,es,ep,hq,h2,h3,h4,h5⟩
  rw[ax (oW ec e (λz=>nomatch z))]
  exact ec
end
section
variable  {X:Cx}{pins:List (Addr×Obj)}{σ:St}{H:Hp}{s:BR}{a:Addr}{kvs:List (Key×V)}{k:Key}{u:BP}{A:CK}{E:BP->BR->Prop}
end
def Bi (i:Expr):Prop:=∀ov iv,subscripted i false ov iv=operate [ov,iv] (getItem ov iv)
theorem ye {prog:B7}{w:CJ}{A:CK}{E:BP->BR->Prop}{s:BR}{env:Env}{value slice:Expr}{pos:Pos}{T id:String}{Q:BP->BR->Prop}
  (hl:typeLookup (.type T) "__getitem__" = pure (some (.builtin id))) (hs:Bi slice)
  (h:Cb (Cn prog w) A (eval value env) (λo s₁=>Cb (Cn prog w) A (eval slice env) (λi s₂=>s₂.TypeIs o T/\Cb (Cn prog w) A (getItem o i) Q E s₂) E s₁) E s) :
  Cb (Cn prog w) A (eval (.Subscript value slice pos) env) Q E s:=by
 refine Subscript_ (C5 h (λo s₁ h₁=>C5 h₁ (λi s₂ h₂ =>?_) λ_ _ x=>x) λ_ _ x=>x)
 obtain ⟨hT,h₂⟩:=h₂
 unfold subscriptTail
 refine BN ?_
 rw[getitemInPython_of_ne hT.not_modules]
 refine BN (Fg hT hl ?_)
 have fin:Cb (Cn prog w) A (subscripted slice false o i) (λr s₃=>Cb (Cn prog w) A (letTemporaryGo value o r >>= λ_=>pure r) Q E s₃) E s₂:=by
  rw[hs o i]
  exact wpAny_operating (C5 h₂ (λr s₃ h₃=>BN (wpAny_letTemporaryGo (BS h₃))) λ_ _ x=>x)
 first
  | exact BS (BN fin)
  | exact BN (BS (BN fin))
  | exact BN fin
theorem pC {X:Cx}{pins:List (Addr×Obj)}{σ:St}{H:Hp}{s:BR}{a:Addr}{y:V}{o:Option V}(I:Inv X pins σ H s)(g:kR H a y o):s.TypeIs (.ref a) "dict" := by
 rcases g with ⟨kvs,k,e,_,_⟩ | ⟨kvs,k,b,e,_,_,_⟩
 ·obtain ⟨_,_,vs,_,dd⟩:=pB I.hok e
  exact dd.typeIs
 ·obtain ⟨_,_,xs,_,dd⟩:=mO I.hok e
  exact dd.typeIs
def Bj (td ty:TE):TE:=λσ H Q=>td σ H λx H1=>ty σ H1 λy H2=>∃a v,x = .ref a/\kR H2 a y (some v)/\Q v H2
def Bk (td ty tv:TE):TS:=λD σ H=>tv σ H λv H1=>td σ H1 λx H2=>ty σ H2 λy H3=>∃a H4,x = .ref a/\vW H3 a y v H4/\D.nx σ H4
section
variable  {X:Cx}{o i e value:Expr}{pos pos' tpos:Pos}{td ty tv:TE}
theorem yf (hu:X.A.units+1<cLine)(ho:PE X o td)(hi:PE X i ty)(hs:Bi i):PE X (.Subscript o i pos) (Bj td ty):=by
 intro pins s σ H Q I h
 refine ye PySem.F.slot_dict_getitem.lookup hs (thn (ho pins s σ H _ I h) λu s1 ⟨x,H1,I1,rx,q1⟩=>thn (hi pins s1 σ H1 _ I1 q1) λiv s2 ⟨y,H2,I2,ry,a,v,ex,g,q2⟩ =>?_)
 subst ex
 obtain rfl:u=Cc a:=rx
 exact ⟨pC I2 g,ux hu I2 g ry λw' s3 I3 rw'=>⟨v,H2,I3,rw',q2⟩⟩
theorem yg (hu:X.A.units+1<cLine)(ho:PE X o td)(hi:PE X i ty)(hv:PE X value tv)(hs:swapsWith value (some (.Subscript o i pos')) pos.line X.env=pure false) :
  PS X (.Assign [.Subscript o i pos'] value pos) (Bk td ty tv):=by
 intro pins s σ H D I h
 refine wpAny_Assign_Subscript (thn (hv pins s σ H _ I h) λr s1 ⟨v,H1,I1,rv,q1⟩=>thn (ho pins s1 σ H1 _ I1 q1) λu s2 ⟨x,H2,I2,rx,q2⟩=>thn (hi pins s2 σ H2 _ I2 q2) λiv s3 ⟨y,H3,I3,ry,a,H4,ex,g,q3⟩ =>?_) hs
 subst ex
 obtain rfl:u=Cc a:=rx
 exact uy hu I3 g ry rv λs4 I4=>⟨σ,H4,I4,q3⟩
end
theorem vX {P:B7}{w:CJ}{H:Hp}(h:Heap)(hb:sysModules<h.objs.size):bo P w H (h.push { cls :=.type "dict",data :=.dict #[] }) h.objs.size (.dT []) :=
 ⟨CC _,beq_eq_false_iff_ne.mpr (DE (Cp hb)),[],.nil,_, #[],0,BX _ rfl,⟨rfl,rfl,rfl⟩,rfl,rfl,J0⟩
def Af:TE:=λ_ H Q=>∀p,H p=none->Q (.ref p) (upd H p (.dT []))
section
variable  {X:Cx}{pos:Pos}
theorem vY:PE X (.Dict [] [] pos) Af:=λpins s σ H Q I h =>
 wpAny_Dict_empty ⟨.ref s.heap.objs.size,_,I.laid (a:=s.heap.objs.size) (o :=.dT []) (t':=s.toks) (λ_ _ q=>BO _ q) (BV _) (vX s.heap I.big),rfl,h _ (I.hok.fresh (BV _))⟩
end
structure M2 (X:Cx)(o:Expr)(m:Str)(apos:Pos)(e f:Expr)(cpos:Pos):Prop where
 base:attributeBase o m X.env (eval o X.env)=eval o X.env
 few:((Fi cpos (CO [e,f] X.env)).all (λx => !x.1) && (backToKw cpos (keywordEach [] X.env)).all (λx=>x.1.isSome)
  && decide (([e,f]:List Expr).length+([]:List Keyword).length+(if ([]:List Keyword).isEmpty then 0 else 1)<30))=true
 line:(apos.endLine == cpos.line)=true
 trees:Fi cpos (CO [e,f] X.env)=[(false,eval e X.env),(false,eval f X.env)]
def IsD (H:Hp)(a:Addr):Prop:=(∃kvs,Rd H a (.dK kvs))\/∃kvs,Rd H a (.dT kvs)
theorem Ag {X:Cx}{pins:List (Addr×Obj)}{σ:St}{H:Hp}{s:BR}{a:Addr}(I:Inv X pins σ H s)(d:IsD H a) :
  s.TypeIs (.ref a) "dict" /\ (∀b,Cc a = .ref b->∃ob,s.heap.get? b=some ob/\ob.dict=none)/\(a == sysModules)=false:=by
 rcases d with ⟨kvs,e⟩ | ⟨kvs,e⟩
 ·obtain ⟨_,hd,vs,_,dd⟩:=pB I.hok e
  refine ⟨dd.typeIs,λb q =>?_,hd⟩
  cases q
  obtain ⟨ob,_,_,h1,h2,_⟩:=dd
  exact ⟨ob,h1,h2.2.1⟩
 ·obtain ⟨_,hd,xs,_,dd⟩:=mO I.hok e
  refine ⟨dd.typeIs,λb q =>?_,hd⟩
  cases q
  obtain ⟨ob,_,_,h1,h2,_⟩:=dd
  exact ⟨ob,h1,h2.2.1⟩
section
variable  {X:Cx}{pins:List (Addr×Obj)}{σ:St}{H:Hp}{s:BR}{a:Addr}{y d:V}{u r:BP}{o:Option V}{A:CK}{E:BP->BR->Prop}
theorem Ah {Q:BP->BR->Prop}(hu:A.units+1<cLine)(I:Inv X pins σ H s)(g:kR H a y o)(ry:RelV y u)(rd:RelV d r)(h:∀w' s',Inv X pins σ H s'->RelV (o.getD d) w'->Q w' s') :
  Cb (Cn X.prog X.w) A (call (.builtin "dict.get") [.ref a,u,r]) Q E s:=by
 rcases g with ⟨kvs,k,e,ey,l⟩ | ⟨kvs,k,b,e,ey,eb,l⟩
 ·subst ey
  obtain ⟨z,hd,vs,rel,dd⟩:=pB I.hok e
  refine call_meetsIn Gf dd.typeIs HX (HL _ _ _) (meets_dict_get_default (cb X.prog X.w) a (sS ry) hd r) ⟨_,dd.mapOf,h _ _ (I.tok _) ?_⟩
  rw[l]
  exact (rel.val k).getD rd
 ·subst ey
  cases (show u=Cc b from ry)
  obtain ⟨z,hd,xs,rel,dd⟩:=mO I.hok e
  refine call_meetsIn Gf dd.typeIs HX (HL _ _ _) (meetsH_dict_get_default (tupleKind (cb X.prog X.w)) a b hd r) ⟨Hh hu,k,xs,og I.hok eb,dd,h _ _ (I.tok _) ?_⟩
  rw[l]
  exact (rel.val k).getD rd
end
def Ai (td ty tx:TE):TE:=λσ H Q=>td σ H λx H1=>∃a,x = .ref a/\IsD H1 a/\ty σ H1 λy H2=>tx σ H2 λz H3=>∃o,kR H3 a y o/\Q (o.getD z) H3
section
variable  {X:Cx}{o e f:Expr}{apos cpos:Pos}{td ty tx:TE}
theorem vZ (hu:X.A.units+1<cLine)(ho:PE X o td)(he:PE X e ty)(hf:PE X f tx)(m:M2 X o "get" apos e f cpos):PE X (.Call (.Attribute o "get" apos) [e,f] [] cpos) (Ai td ty tx):=by
 intro pins s σ H Q I h
 refine wpAny_Call_method m.base m.few m.line PySem.F.plainAttrs_dict Gf PySem.F.type_dict_get (thn (ho pins s σ H _ I h) λu s1 ⟨x,H1,I1,rx,a,ex,d,q1⟩ =>?_)
 subst ex
 obtain rfl:u=Cc a:=rx
 obtain ⟨t1,t2,_⟩:=Ag I1 d
 refine ⟨t1,t2,?_⟩
 rw[m.trees]
 refine FY rfl (Gu (FI (thn (he pins s1 σ H1 _ I1 q1) λiv s2 ⟨y,H2,I2,ry,q2⟩ =>
  FI (thn (hf pins s2 σ H2 _ I2 q2) λfv s3 ⟨z,H3,I3,rz,ov,g,q3⟩=>Hw ?_))))
 exact Ah hu I3 g ry rz λw' s4 I4 rw'=>⟨_,H3,I4,rw',q3⟩
end
section
variable  {X:Cx}{pins:List (Addr×Obj)}{σ:St}{H:Hp}{s:BR}{a:Addr}{kvs:List (Key×V)}{A:CK}{E:BP->BR->Prop}
end
section
variable  {X:Cx}{pins:List (Addr×Obj)}{σ:St}{H:Hp}{s:BR}{a:Addr}{y:V}{u:BP}{A:CK}{E:BP->BR->Prop}
end
open PySem PySem.Spec PyProof.Rows
section
variable  {X:Cx}
end
section
variable  {κ:Type}[DecidableEq κ]
theorem pD {kvs:List (κ×V)}{k:κ}(h:cW kvs k=none):¬ k∈kvs.map (·.1):=by
 intro m
 obtain ⟨p,hp,e⟩:=Ce.mp m
 have q:(kvs.any λkv=>decide (kv.1=k))=true:=Fx.mpr ⟨p,hp,decide_eq_true e⟩
 rw[df,h] at q
 exact absurd q (by simp)
theorem yh {kvs:List (κ×V)}{k:κ}{v:V}(h:cW kvs k=some v):k∈kvs.map (·.1):=by
 have q:(kvs.any λkv=>decide (kv.1=k))=true:=by
  rw[df,h]
  all_goals rfl
 obtain ⟨p,hp,e⟩:=Fx.mp q
 exact Ce.mpr ⟨p,hp,of_decide_eq_true e⟩
theorem sV:∀{l:List κ} {k:κ},l.Nodup->¬ k∈l->(l++[k]).Nodup
 | [],k,_,_=>by simp
 | a :: r,k,h,hk=>by
  obtain ⟨h1,h2⟩:=E7.mp h
  show (a :: (r++[k])).Nodup
  refine E7.mpr ⟨λm =>?_,sV h2 λm=>hk (Cw.mpr (Or.inr m))⟩
  rcases B5.mp m with q | q
  ·exact h1 q
  ·exact hk (Cw.mpr (Or.inl (Ck.mp q).symm))
theorem yi {kvs:List (κ×V)}{k:κ}(v:V)(hn:(kvs.map (·.1)).Nodup)(h:cW kvs k=none):((putK kvs k v).map (·.1)).Nodup:=by
 rw[vV v h,B4]
 exact sV hn (pD h)
end
open PySem PyProof.Rows
section
variable  {X:Cx}
end
open PySem PyProof.Rows
section
variable  {X:Cx}
def sW (ns ms:List Int)(j:Nat):Bool:=ns.getD j 0 == ms.getD j 0
theorem uz {ns ms:List Int}(h:ns.length=ms.length):((Dh ns.length).all λj=>sW ns ms j)=decide (ns=ms):=by
 rw[Dx,decide_eq_true_iff,EB]
 constructor
 ·intro hh
  refine JC h λj h1 h2 =>?_
  have:=hh j (El.mpr h1)
  unfold sW at this
  rw[CN,CN,Cr h1,Cr h2] at this
  exact of_decide_eq_true (by simpa using this)
 ·rintro rfl j _
  exact beq_self_eq_true _
theorem uA {ns ms:List Int}:((Dh (min ns.length ms.length)).all (sW ns ms) && ns.length == ms.length)=decide (ns=ms):=by
 by_cases h:ns.length=ms.length
 ·rw[<- h,Ig,show (ns.length == ns.length)=true from beq_self_eq_true _,Bool.and_true]
  exact uz h
 ·have ne:ns≠ms:=λz=>h (by rw[z])
  rw[decide_eq_false ne,show (ns.length == ms.length)=false from by simpa using h,Ho]
theorem v8 {ns:List Int}{us:List BP}(r:Vals (ns.map V.int) us){j:Nat}(h:j<us.toArray.size):∃t,us.toArray[j] = .int (ns.getD j 0) t:=by
 have l:=r.length
 rw[BQ] at l
 rw[BZ] at h
 have e1:(ns.map V.int)[j]? = some (.int (ns.getD j 0)):=by
  rw[CA,CN,Cr (by omega)]
  rfl
 obtain ⟨u,g1,q1⟩:=r.get e1
 have f1:us.toArray[j]=u:=by simp[Cg] at g1;obtain ⟨_,g⟩:=g1;simpa using g
 rw[f1]
 exact q1
def Wd (i:Int):Prop:=i.natAbs<2 ^ 4000
def Bl (_ j:Int):Prop:=0<j/\Wd j
theorem v9:OpR X (binaryOp .FloorDiv) (rI Bl λi j =>.int (i/j)):=opI λi j _ _ _ _ _ hc q=>by
 have h1:(0:Int)<j:=hc.1
 have h2:j.natAbs.log2<9000:=by
  have:j.natAbs.log2<4000:=(Nat.log2_lt (by omega)).mpr hc.2
  omega
 refine floordiv_int (by omega) ?_ (.inl (PyProof.noPylong_of_log2 h2))
 rw[GV i (by omega)]
 exact q
end
section
variable  {P:B7}{w:CJ}{K:BM}{mg:Str->Option BP}{base:Heap}
end
end L2
namespace L2.Rev
open PySem
open Sem (wp)
section
variable  {prog:B7}{w:CJ}{A:CK}{E:BP->BR->Prop}{s:BR}
end
end L2.Rev
namespace L2
open PySem PySem.Spec PyProof.Rows
section
variable  {X:Cx}
theorem pE:C2 "reversed" = some (.type "reversed"):=by decide +kernel
theorem pF:∀{xs:List V} {us:List BP},Vals xs us->Vals xs.reverse us.reverse
 | [],[],_ =>.nil
 | x :: xs,u :: us,.cons h t=>by
  rw[F1,F1]
  exact (pF t).append (.cons h .nil)
end
end L2
namespace L2.Rem
open PySem PySem.SeqAt PySem.MeetsSeq
open AutoSeq1 (wpAny_loadPart')
end L2.Rem
namespace L2
open PySem PySem.Spec PyProof.Rows
section
variable  {X:Cx}
theorem any_range {bs:List Bool}:((Dh bs.length).any λi=>bs.getD i false)=bs.any id:=by
 rw[Dx,Fx,Fx]
 constructor
 ·rintro ⟨i,hi,h⟩
  have lt:=El.mp hi
  rw[CN,Cr lt] at h
  exact ⟨bs[i],Fw lt,h⟩
 ·rintro ⟨b,hb,h⟩
  obtain ⟨i,lt,e⟩:=List.getElem_of_mem hb
  refine ⟨i,El.mpr lt,?_⟩
  rw[CN,Cr lt,e]
  exact h
theorem wa (hc:X.calm=true):cM X (.builtin "any") (λxs H Q=>∃(p:Addr) (bs:List Bool),xs=[.ref p]/\SqL X.K H p (bs.map V.bl)/\Q (.bl (bs.any id)) H):=by
 intro pins s σ H xs us Q I r h
 obtain ⟨p,bs,rfl,hs,q⟩:=h
 obtain ⟨u,rfl,ru⟩:=vals1 r
 cases (show u=Cc p from ru)
 obtain ⟨its,rv,pl,hz⟩:=I.list hs
 have l:=rv.length
 rw[BQ] at l
 have hpl:p<s.heap.objs.size:=by obtain ⟨o,_,e,_⟩:=pl;exact BW e
 refine call_any_walk (F8 pl.isList ?_)
 have hd:X.A.in1.handled=none:=I.ok.hd hc
 refine ⟨s.heap.objs.size,_,_,_,_,_,_,rfl,Walks.list hd s.heap.objs.size p (Cp hpl) its.toArray,⟨⟨_,BX _ rfl,rfl,rfl⟩,?_⟩,jy rv,λh' tk k =>?_⟩
 ·exact pl.isList.at λo e=>BO _ e
 ·have e:((Dh its.toArray.size).any λi=>bs.getD i false)=bs.any id:=by rw[BZ, <- l,any_range]
  rw[e]
  refine ⟨.bl (bs.any id),H,I.kept (t':=tk) (λb o eb=>k b o ?_ (BO _ eb)),rfl,q⟩
  intro hb
  have:b=s.heap.objs.size:=by simpa using hb
  exact absurd (BW eb) (by rw[this];exact Dc _)
end
open PySem PySem.Spec PyProof.Rows
section
variable  {X:Cx}
def zk (K:BM):R2:=λx y H Q=>∃a b xs ys,x = .ref a/\y = .ref b/\SqT K H a xs/\SqT K H b ys/\ys≠[]/\xs.length+ys.length<=Ca/\(xs=[]->Q (.ref b) H)/\(xs≠[]->∀p,H p=none->Q (.ref p) (upd H p (.tup (xs++ys))))
theorem iz:OpR X (binaryOp .Add) (zk X.K):=by
 intro pins s σ H x y v u Q I rx ry h
 obtain ⟨a,b,xs,ys,rfl,rfl,ha,hb,hy,hz,q1,q2⟩:=h
 by_cases hx:xs=[]
 ·cases rx
  cases ry
  obtain ⟨its,r1,p1,_⟩:=I.tuple ha
  obtain ⟨its2,r2,p2,_⟩:=I.tuple hb
  obtain ⟨⟨c1,d1,da1,s1⟩,o1,k1,n1,g1⟩:=id p1
  obtain ⟨⟨c2,d2,da2,s2⟩,o2,k2,n2,g2⟩:=id p2
  simp only at k1 g1 k2 g2
  subst k1 g1 k2 g2
  have e0:its=[]:=r1.ij.mpr hx
  exact He ⟨_,o1,rfl⟩ ⟨_,o2,rfl⟩ Gp HM E2 ES (EJ _ _)
   (tuple_addW0 a b its.toArray its2.toArray n1 n2 d1 d2 s1 s2 (by simp[e0])) ⟨o1,o2,⟨.ref b,H,I,rfl,q1 hx⟩⟩
 ·exact sv pins s σ H _ _ v u Q I rx ry ⟨a,b,xs,ys,rfl,rfl,ha,hb,hx,hz,λz=>absurd z hy,λ_=>q2 hx⟩
end
open PySem PySem.Spec PyProof.Rows
theorem Inv.uB {X:Cx}{pins:List (Addr×Obj)}{σ:St}{H:Hp}{s:BR}{h':Heap}{t':Nat}{ch:List Addr}(I:Inv X pins σ H s)(f:∀b∈ch,jL X pins H b)
  (k:∀b ob,b∉ch->s.heap.get? b=some ob->h'.get? b=some ob):Inv X pins σ H { s with heap:=h',toks:=t' }:=by
 have nit:∀b u,H b=some u->b∉ch:=λb u e z=>by have:=(f b z).1;rw[this] at e;cases e
 refine I.step (g':=s.gens) (d':=s.drawn) (ch:=ch) (λb hb =>?_) (λb o _ _ hc e _=>k b o hc e) (λb o _ _ hc e _=>⟨o.slots,k b o hc e⟩) (λ_ _ _ _ n=>n)
  (λb o hc e=>⟨o,k b o hc e⟩) (λ_ _ e=>e) (λ_ _ _ e=>e) (λb ps e=>⟨#[],by rw[e];simp⟩) (λm hm =>?_) (λb u e =>?_) I.bare
 ·obtain ⟨g0,g1,g2,g3,g4,g5⟩:=f b hb
  exact ⟨g3,g1,g4,g5⟩
 ·obtain ⟨o,es,ep,ho,r⟩:=hm
  exact ⟨o,es,ep,k _ o (λz=>(f _ z).2.1 rfl) ho,r⟩
 ·refine (I.hok b u e).fV (λc v hc q=>k c v ?_ q) (λ_ q=>q) λ_ _ q=>q
  rcases hc with z | z
  ·rw[z];exact nit b u e
  ·exact nit c _ z
theorem Aj (n a b:Nat)(h1:a<n)(h2:b<n):ZipApart (n+4) (n+2) (n+3) n (n+1) a b :=
  ⟨λz=>absurd (show n+2=n+4 from z) (by omega),λz=>absurd (show n+3=n+4 from z) (by omega),λz=>absurd (show n=n+4 from z) (by omega),λz=>absurd (show n+1=n+4 from z) (by omega),λz=>absurd (show n+2=n+3 from z) (by omega),λz=>absurd (show n+2=n from z) (by omega),λz=>absurd (show n+2=n+1 from z) (by omega),λz=>absurd (show n+3=n from z) (by omega),λz=>absurd (show n+3=n+1 from z) (by omega),λz=>absurd (show n=n+1 from z) (by omega),
   λz=>absurd (show a=n+4 from z) (by omega),λz=>absurd (show a=n+3 from z) (by omega),λz=>absurd (show a=n from z) (by omega),λz=>absurd (show a=n+1 from z) (by omega),λz=>absurd (show b=n+4 from z) (by omega),λz=>absurd (show b=n+3 from z) (by omega),λz=>absurd (show b=n from z) (by omega),λz=>absurd (show b=n+1 from z) (by omega)⟩
theorem boot_zip:C2 "zip" = some (.type "zip"):=by decide +kernel
section
variable  {X:Cx}
end
open PySem PySem.Spec PyProof.Rows
theorem uC (ns:List Int)(lo hi:Option Int):∃ms:List Int,gI (ns.map V.int) lo hi=ms.map V.int/\ms.length<=ns.length/\∀v∈ms,v∈ns:=by
 refine ⟨(ns.drop (HT.sIx (ns.map V.int).length 0 lo)).take (HT.sIx (ns.map V.int).length (ns.map V.int).length hi-HT.sIx (ns.map V.int).length 0 lo),?_,?_,λv hv=>EG (DF hv)⟩
 ·unfold gI
  rw[Gy,List.map_drop]
 ·rw[DK,EA]
  omega
def Pt (n:Nat)(H:Hp)(p:Addr):Prop:=∃xs:List Int,xs.length=n/\H p=some (.lst (xs.map V.int))
structure Bu (n:Nat)(p:Addr)(H H':Hp):Prop where
 pot:Pt n H' p
 st:∀q o,q≠p->H q=some o->H' q=some o
theorem Pt.same {n:Nat}{p:Addr}{H H1:Hp}(a:Pt n H p)(s:aB H H1):Pt n H1 p:=by obtain ⟨xs,l,e⟩:=a;exact ⟨xs,l,s _ _ e⟩
theorem Pt.ne {n:Nat}{p b:Addr}{H:Hp}(a:Pt n H p)(h:H b=none):b≠p:=by
 obtain ⟨xs,_,e⟩:=a
 exact DE (aF e h)
theorem Pt.neT {n:Nat}{p b:Addr}{H:Hp}{ys:List V}(a:Pt n H p)(h:H b=some (.tup ys)):b≠p:=by
 obtain ⟨xs,_,e⟩:=a
 exact oW h e (by intro z;cases z)
theorem Bu.refl {n:Nat}{p:Addr}{H:Hp}(h:Pt n H p):Bu n p H H:=⟨h,λ_ _ _ z=>z⟩
theorem Bu.trans {n:Nat}{p:Addr}{H H1 H2:Hp}(a:Bu n p H H1)(b:Bu n p H1 H2):Bu n p H H2:=⟨b.pot,λq o m z=>b.st q o m (a.st q o m z)⟩
theorem Bu.same {n:Nat}{p:Addr}{H H1 H2:Hp}(a:Bu n p H H1)(b:aB H1 H2):Bu n p H H2:=⟨a.pot.same b,λq o m z=>b _ _ (a.st q o m z)⟩
theorem Bu.put {n:Nat}{p:Addr}{H H1:Hp}(a:Bu n p H H1){ys:List Int}(l:ys.length=n):Bu n p H (upd H1 p (.lst (ys.map V.int))):=⟨⟨ys,l,af⟩,λq o m z=>by rw[ax m];exact a.st q o m z⟩
theorem Bu.qU {n:Nat}{p l:Addr}{H H1:Hp}(a:Bu n p H H1)(hl:H l=none)(np:l≠p)(o:HO):Bu n p H (upd H1 l o):=⟨by obtain ⟨xs,z,e⟩:=a.pot;exact ⟨xs,z,by rw[ax np.symm];exact e⟩,λq u m z=>by rw[ax (aF z hl)];exact a.st q u m z⟩
theorem Bu.tup {n:Nat}{p q:Addr}{H H1:Hp}(a:Bu n p H H1)(h:Pt n H p){xs:List V}(t:H q=some (.tup xs)):H1 q=some (.tup xs):=a.st q _ (h.neT t) t
theorem Bu.fresh {n:Nat}{p:Addr}{H H':Hp}{o:HO}(h:H p=none)(b:Bu n p (upd H p o) H'):aB H H':=λq u e=>by
 have m:q≠p:=aF e h
 refine b.st q u m ?_
 rw[ax m]
 exact e
variable  {X:Cx}
open PySem PySem.Spec PyProof.Rows
section
variable  {X:Cx}
def zo (K:BM):R2:=λx y H Q=>∃a b xs ys,x = .ref a/\y = .ref b/\SqT K H a xs/\SqT K H b ys/\xs.length+ys.length<=Ca/\(xs=[]->Q (.ref b) H)/\(ys=[]->Q (.ref a) H)/\(xs≠[]->ys≠[]->∀p,H p=none->Q (.ref p) (upd H p (.tup (xs++ys))))
theorem pH:OpR X (binaryOp .Add) (zo X.K):=by
 intro pins s σ H x y v u Q I rx ry h
 obtain ⟨a,b,xs,ys,rfl,rfl,ha,hb,hz,q1,q2,q3⟩:=h
 by_cases hx:xs=[]
 ·cases rx
  cases ry
  obtain ⟨its,r1,p1,_⟩:=I.tuple ha
  obtain ⟨its2,r2,p2,_⟩:=I.tuple hb
  obtain ⟨⟨c1,d1,da1,s1⟩,o1,k1,n1,g1⟩:=id p1
  obtain ⟨⟨c2,d2,da2,s2⟩,o2,k2,n2,g2⟩:=id p2
  simp only at k1 g1 k2 g2
  subst k1 g1 k2 g2
  have e0:its=[]:=r1.ij.mpr hx
  exact He ⟨_,o1,rfl⟩ ⟨_,o2,rfl⟩ Gp HM E2 ES (EJ _ _)
   (tuple_addW0 a b its.toArray its2.toArray n1 n2 d1 d2 s1 s2 (by simp[e0])) ⟨o1,o2,⟨.ref b,H,I,rfl,q1 hx⟩⟩
 ·exact sv pins s σ H _ _ v u Q I rx ry ⟨a,b,xs,ys,rfl,rfl,ha,hb,hx,hz,q2,λhy=>q3 hx hy⟩
end
open PySem PySem.Spec PyProof.Rows
def ItB:Bool->Heap->Addr->Addr->Nat->Prop
 | true,h,it,l,i=>h.IsListIter it l i
 | false,h,it,l,i=>h.IsTupleIter it l i
def SB':Bool->Heap->Addr->Array BP->Prop
 | true,h,l,xs=>h.IsList l xs
 | false,h,l,xs=>h.IsTuple l xs
theorem ItB.to {b:Bool}{h h':Heap}{it l:Addr}{i:Nat}(x:ItB b h it l i)(k:∀o,h.get? it=some o->h'.get? it=some o):ItB b h' it l i:=by
 cases b
 ·exact Heap.IsTupleIter.at (show h.IsTupleIter it l i from x) k
 ·exact Heap.IsListIter.at (show h.IsListIter it l i from x) k
theorem SB'.to {b:Bool}{h h':Heap}{l:Addr}{xs:Array BP}(x:SB' b h l xs)(k:∀o,h.get? l=some o->h'.get? l=some o):SB' b h' l xs:=by
 cases b
 ·obtain ⟨o,e,r⟩:=(show h.IsTuple l xs from x);exact ⟨o,k o e,r⟩
 ·obtain ⟨o,e,r⟩:=(show h.IsList l xs from x);exact ⟨o,k o e,r⟩
theorem ItB.lt {b:Bool}{h:Heap}{it l:Addr}{i:Nat}(x:ItB b h it l i):it<h.objs.size:=by
 cases b
 ·obtain ⟨o,e,_⟩:=(show h.IsTupleIter it l i from x);exact BW e
 ·obtain ⟨o,e,_⟩:=(show h.IsListIter it l i from x);exact BW e
theorem ItB.obj {b:Bool}{h:Heap}{it l:Addr}{i:Nat}(x:ItB b h it l i):∃o,h.get? it=some o/\∀v,o.data ≠ .cell v:=by
 cases b
 ·obtain ⟨o,e,_,d⟩:=(show h.IsTupleIter it l i from x);exact ⟨o,e,λv z=>by rw[d] at z;cases z⟩
 ·obtain ⟨o,e,_,d⟩:=(show h.IsListIter it l i from x);exact ⟨o,e,λv z=>by rw[d] at z;cases z⟩
section
variable  {prog:B7}{w:CJ}{A:CK}{E:BP->BR->Prop}{s:BR}
theorem we {b:Bool}{it l:Addr}{i:Nat}{xs:Array BP}{x:BP}{Q:BP->BR->Prop}(hi:ItB b s.heap it l i)(hl:SB' b s.heap l xs)(hx:xs[i]? = some x)
  (q:∀h',ItB b h' it l (i+1)->Heap.SameBut it s.heap h'->Q x { s with heap:=h' }):Cb (Cn prog w) A (Builtin.SmallTypes.nextOf (.ref it)) Q E s:=by
 cases b
 ·exact qO hi hl hx q
 ·exact wpAny_nextOf_list_item hi hl hx q
theorem mP {b:Bool}{it l:Addr}{i:Nat}{xs:Array BP}{Q:BP->BR->Prop}(hh:A.handled=none)(hi:ItB b s.heap it l i)(hl:SB' b s.heap l xs)(hx:xs[i]? = none)
  (q:∀h' e,Heap.ExtBut it s.heap h'->(∃o,h'.get? e=some o/\o.cls = .type "StopIteration")->E (.ref e) { s with heap:=h' }):Cb (Cn prog w) A (Builtin.SmallTypes.nextOf (.ref it)) Q E s:=by
 cases b
 ·exact kM hh hi hl hx q
 ·exact wpAny_nextOf_list_end hh hi hl hx q
theorem uE {c d:Bool}{z TI TO i1 i2 l1 l2:Addr}{k1 k2:Nat}{xs ys:Array BP}{x y a b:BP}{Q:BP->BR->Prop}(D:ZipApart z TI TO i1 i2 l1 l2)
  (hz:IsZip s.heap z TI TO .none) (hTI:IsPair s.heap TI (.ref i1) (.ref i2)) (hTO:IsPair s.heap TO a b)
  (j1:ItB c s.heap i1 l1 k1) (j2:ItB d s.heap i2 l2 k2) (m1:SB' c s.heap l1 xs) (m2:SB' d s.heap l2 ys) (hx:xs[k1]? = some x) (hy:ys[k2]? = some y)
  (hQ:∀h',IsZip h' z TI TO (Ea s.heap.objs.size)->IsPair h' TO x y->ItB c h' i1 l1 (k1+1)->ItB d h' i2 l2 (k2+1)->IsPair h' s.heap.objs.size x y->h'.objs.size=s.heap.objs.size+1 →
   (∀c o,c≠z->c≠TO->c≠i1->c≠i2->s.heap.get? c=some o->h'.get? c=some o)->Q (.ref s.heap.objs.size) { s with heap:=h' }) :
  Cb (Cn prog w) A (Builtin.«zip.__next__» ⟨[.ref z],[]⟩) (λfin s'=>∃v,fin = .done (.ret v)/\Q v s') E s:=by
 show Cb _ _ (field (.ref z) 2 >>= _) _ _ _;refine BN (De hz rfl (x :=.bool false) rfl ?_)
 show Cb _ _ (field (.ref z) 3 >>= _) _ _ _;refine BN (De hz rfl (x :=.ref TI) rfl ?_)
 refine BN (DP hTI rfl ?_);show Cb _ _ (Builtin.SmallTypes.ownedTupleIsFree (.ref z) >>= _) _ _ _
 refine BN ?_;unfold Builtin.SmallTypes.ownedTupleIsFree
 refine BN (De hz rfl (x :=.none) rfl (BS ?_));simp only[if_true]
 refine BN (En ?_);refine BN (De hz rfl (x :=.ref TO) rfl ?_)
 refine BN (EE hz (by simp) λg1 hz1 s1 =>?_);replace hz1:IsZip g1 z TI TO .ellipsis:=hz1
 refine BN ?_;simp only[HQ,JN,Ia,Ka]
 refine BN (BN (HN ?_));show Cb _ _ (Builtin.SmallTypes.nextOf (.ref i1) >>= _) _ _ _
 refine BN (we (j1.to λo e=>s1.extBut _ _ D.i1z e) (m1.to λo e=>s1.extBut _ _ D.l1z e) hx λg2 j1' s2=>BS ?_)
 have t2:IsPair g2 TO a b:=s2.extBut _ _ D.TOi1 (s1.extBut _ _ D.TOz hTO)
 refine BN (DP t2 rfl ?_);refine BN (Gw t2 λg3 t3 s3 =>?_)
 replace t3:IsPair g3 TO x b:=t3;refine BN (FE (BS ?_))
 refine BN (BN (HN ?_));show Cb _ _ (Builtin.SmallTypes.nextOf (.ref i2) >>= _) _ _ _
 refine BN (we (((j2.to λo e=>s1.extBut _ _ D.i2z e).to λo e=>s2.extBut _ _ D.i12.symm e).to λo e=>s3.extBut _ _ D.TOi2.symm e) (((m2.to λo e=>s1.extBut _ _ D.l2z e).to λo e=>s2.extBut _ _ D.l2i1 e).to λo e=>s3.extBut _ _ D.l2TO e) hy λg4 j2' s4=>BS ?_)
 have t4:IsPair g4 TO x b:=s4.extBut _ _ D.TOi2 t3
 refine BN (DP t4 rfl ?_);refine BN (Gw t4 λg5 t5 s5 =>?_)
 replace t5:IsPair g5 TO x y:=t5;refine BN (FE (BS (BS ?_)))
 refine BN (DP t5 rfl ?_);refine BN (ID ?_)
 have sz:g5.objs.size=s.heap.objs.size:=by rw[s5.1,s4.1,s3.1,s2.1,s1.1]
 have z5:IsZip g5 z TI TO .ellipsis:=s5.extBut _ _ D.TOz.symm (s4.extBut _ _ D.i2z.symm (s3.extBut _ _ D.TOz.symm (s2.extBut _ _ D.i1z.symm hz1)))
 have k5:∀c o,c≠z->c≠TO->c≠i1->c≠i2->s.heap.get? c=some o->g5.get? c=some o:=λc o c1 c2 c3 c4 e=>s5.extBut _ _ c2 (s4.extBut _ _ c4 (s3.extBut _ _ c2 (s2.extBut _ _ c3 (s1.extBut _ _ c1 e))))
 have n1:ItB c g5 i1 l1 (k1+1):=((j1'.to λo e=>s3.extBut _ _ D.TOi1.symm e).to λo e=>s4.extBut _ _ D.i12 e).to λo e=>s5.extBut _ _ D.TOi1.symm e
 have n2:ItB d g5 i2 l2 (k2+1):=j2'.to λo e=>s5.extBut _ _ D.TOi2.symm e
 have zl:z<g5.objs.size:=BW z5
 show Cb _ _ (Builtin.SmallTypes.ownedTupleHandOut (.ref z) (.ref g5.objs.size) >>= _) _ _ _;refine BN ?_
 unfold Builtin.SmallTypes.ownedTupleHandOut
 have z6:IsZip (g5.push { cls :=.type "tuple",data :=.seq #[x,y] }) z TI TO .ellipsis:=BO _ z5
 refine BN (EE z6 (by simp) λg7 z7 s7 =>?_);replace z7:IsZip g7 z TI TO (Ea g5.objs.size):=z7
 refine EE z7 (by simp) λg8 z8 s8 =>?_;replace z8:IsZip g8 z TI TO (Ea g5.objs.size):=z8
 have up:∀c o,c≠z->g5.get? c=some o->g8.get? c=some o:=λc o c1 e=>s8.extBut _ _ c1 (s7.extBut _ _ c1 (BO _ e))
 have p8:IsPair g8 g5.objs.size x y:=s8.extBut _ _ (E6 zl) (s7.extBut _ _ (E6 zl) (BX _ rfl))
 have e8:g8.objs.size=g5.objs.size+1:=by rw[s8.1,s7.1,EF]
 rw[sz] at z8 p8 e8
 refine BS ⟨_,rfl,?_⟩;show Q (.ref g5.objs.size) _;rw[sz]
 exact hQ g8 z8 (up _ _ D.TOz t5) (n1.to λo e=>up _ o D.i1z e) (n2.to λo e=>up _ o D.i2z e) p8 e8 λc o c1 c2 c3 c4 e=>up c o c1 (k5 c o c1 c2 c3 c4 e)
theorem wg {c d:Bool}{z TI TO i1 i2 l1 l2:Addr}{k1 k2:Nat}{xs ys:Array BP}{a b:BP}{Q:Fin->BR->Prop}(hh:A.handled=none)(D:ZipApart z TI TO i1 i2 l1 l2)
  (hz:IsZip s.heap z TI TO .none) (hTI:IsPair s.heap TI (.ref i1) (.ref i2)) (hTO:IsPair s.heap TO a b)
  (j1:ItB c s.heap i1 l1 k1) (j2:ItB d s.heap i2 l2 k2) (m1:SB' c s.heap l1 xs) (m2:SB' d s.heap l2 ys) (hend:xs[k1]? = none\/ys[k2]? = none)
  (hE:∀h' e,(∀c o,c≠z->c≠TO->c≠i1->c≠i2->s.heap.get? c=some o->h'.get? c=some o)->(∃o,h'.get? e=some o/\o.cls = .type "StopIteration")->E (.ref e) { s with heap:=h' }) :
  Cb (Cn prog w) A (Builtin.«zip.__next__» ⟨[.ref z],[]⟩) Q E s:=by
 show Cb _ _ (field (.ref z) 2 >>= _) _ _ _;refine BN (De hz rfl (x :=.bool false) rfl ?_)
 show Cb _ _ (field (.ref z) 3 >>= _) _ _ _;refine BN (De hz rfl (x :=.ref TI) rfl ?_)
 refine BN (DP hTI rfl ?_);show Cb _ _ (Builtin.SmallTypes.ownedTupleIsFree (.ref z) >>= _) _ _ _
 refine BN ?_;unfold Builtin.SmallTypes.ownedTupleIsFree
 refine BN (De hz rfl (x :=.none) rfl (BS ?_));simp only[if_true]
 refine BN (En ?_);refine BN (De hz rfl (x :=.ref TO) rfl ?_)
 refine BN (EE hz (by simp) λg1 hz1 s1 =>?_);replace hz1:IsZip g1 z TI TO .ellipsis:=hz1
 refine BN ?_;simp only[HQ,JN,Ia,Ka]
 refine BN (BN (HN ?_));show Cb _ _ (Builtin.SmallTypes.nextOf (.ref i1) >>= _) _ _ _
 cases hx:xs[k1]? with
 | none =>
  refine BN (mP hh (j1.to λo e=>s1.extBut _ _ D.i1z e) (m1.to λo e=>s1.extBut _ _ D.l1z e) hx λg2 e s2 he =>?_)
  obtain ⟨oe,hoe,hce⟩:=he
  have z2:IsZip g2 z TI TO .ellipsis:=s2 _ _ D.i1z.symm hz1
  have hez:e≠z:=λx=>by subst x;rw[z2] at hoe;cases hoe;simp at hce
  refine EE z2 (by simp) λg3 _ s3=>hE g3 e (λc o c1 _ c3 _ x=>s3.extBut _ _ c1 (s2 _ _ c3 (s1.extBut _ _ c1 x))) ⟨oe,s3.extBut _ _ hez hoe,hce⟩
 | some x =>
  have hy:ys[k2]? = none:=by rcases hend with h | h;rw[hx] at h;cases h;exact h
  refine BN (we (j1.to λo e=>s1.extBut _ _ D.i1z e) (m1.to λo e=>s1.extBut _ _ D.l1z e) hx λg2 j1' s2=>BS ?_)
  have t2:IsPair g2 TO a b:=s2.extBut _ _ D.TOi1 (s1.extBut _ _ D.TOz hTO)
  refine BN (DP t2 rfl ?_);refine BN (Gw t2 λg3 t3 s3 =>?_)
  refine BN (FE (BS ?_));refine BN (BN (HN ?_))
  show Cb _ _ (Builtin.SmallTypes.nextOf (.ref i2) >>= _) _ _ _;refine BN (mP hh (((j2.to λo e=>s1.extBut _ _ D.i2z e).to λo e=>s2.extBut _ _ D.i12.symm e).to λo e=>s3.extBut _ _ D.TOi2.symm e) (((m2.to λo e=>s1.extBut _ _ D.l2z e).to λo e=>s2.extBut _ _ D.l2i1 e).to λo e=>s3.extBut _ _ D.l2TO e) hy λg4 e s4 he =>?_)
  obtain ⟨oe,hoe,hce⟩:=he
  have z4:IsZip g4 z TI TO .ellipsis:=s4 _ _ D.i2z.symm (s3.extBut _ _ D.TOz.symm (s2.extBut _ _ D.i1z.symm hz1))
  have hez:e≠z:=λx=>by subst x;rw[z4] at hoe;cases hoe;simp at hce
  refine EE z4 (by simp) λg5 _ s5=>hE g5 e (λc o c1 c2 c3 c4 x=>s5.extBut _ _ c1 (s4 _ _ c4 (s3.extBut _ _ c2 (s2.extBut _ _ c3 (s1.extBut _ _ c1 x))))) ⟨oe,s5.extBut _ _ hez hoe,hce⟩
theorem pI {c d:Bool}{z TI TO i1 i2 l1 l2:Addr}{k1 k2:Nat}{xs ys:Array BP}{x y a b:BP}{Q:Option BP->BR->Prop}(D:ZipApart z TI TO i1 i2 l1 l2)
  (hz:IsZip s.heap z TI TO .none) (hTI:IsPair s.heap TI (.ref i1) (.ref i2)) (hTO:IsPair s.heap TO a b)
  (j1:ItB c s.heap i1 l1 k1) (j2:ItB d s.heap i2 l2 k2) (m1:SB' c s.heap l1 xs) (m2:SB' d s.heap l2 ys) (hx:xs[k1]? = some x) (hy:ys[k2]? = some y)
  (hQ:∀h',IsZip h' z TI TO (Ea s.heap.objs.size)->IsPair h' TO x y->ItB c h' i1 l1 (k1+1)->ItB d h' i2 l2 (k2+1)->IsPair h' s.heap.objs.size x y->h'.objs.size=s.heap.objs.size+1 →
   (∀c o,c≠z->c≠TO->c≠i1->c≠i2->s.heap.get? c=some o->h'.get? c=some o)->Q (some (.ref s.heap.objs.size)) { s with heap:=h' }):Cb (Cn prog w) A (pyNext (.ref z)) Q E s:=by
 have hT:s.TypeIs (.ref z) "zip" :=⟨_,hz,rfl⟩
 unfold pyNext;exact BN (DL (C4 (name:=Str.ofString "__next__") hT GN (C8 GN hT JD (uE D hz hTI hTO j1 j2 m1 m2 hx hy λh' a1 a2 a3 a4 a5 a6 a7=>BS (hQ h' a1 a2 a3 a4 a5 a6 a7)) (Jl _))))
theorem jP {c d:Bool}{z TI TO i1 i2 l1 l2:Addr}{k1 k2:Nat}{xs ys:Array BP}{a b:BP}{Q:Option BP->BR->Prop}(hh:A.handled=none)(D:ZipApart z TI TO i1 i2 l1 l2)
  (hz:IsZip s.heap z TI TO .none) (hTI:IsPair s.heap TI (.ref i1) (.ref i2)) (hTO:IsPair s.heap TO a b)
  (j1:ItB c s.heap i1 l1 k1) (j2:ItB d s.heap i2 l2 k2) (m1:SB' c s.heap l1 xs) (m2:SB' d s.heap l2 ys) (hend:xs[k1]? = none\/ys[k2]? = none)
  (hQ:∀h',(∀c o,c≠z->c≠TO->c≠i1->c≠i2->s.heap.get? c=some o->h'.get? c=some o)->Q none { s with heap:=h' }):Cb (Cn prog w) A (pyNext (.ref z)) Q E s:=by
 have hT:s.TypeIs (.ref z) "zip" :=⟨_,hz,rfl⟩
 unfold pyNext;refine BN (DL (C4 (name:=Str.ofString "__next__") hT GN (C8 GN hT JD (wg hh D hz hTI hTO j1 j2 m1 m2 hend λh' e hk he =>?_) (Jl _))))
 obtain ⟨o,ho,hc⟩:=he
 refine BN (Fy (T := "StopIteration") (b:=true) ⟨o,ho,hc⟩ IG ?_);exact BS (hQ _ hk)
def sZ:Bool->String
 | true => "list_iterator"
 | false => "tuple_iterator"
def zB1 (c:Bool)(h:Heap)(l1:Addr):Heap:=h.push { cls :=.type (sZ c),data :=.fields #[.ref l1,.int 0 0] }
def zB2 (c d:Bool)(h:Heap)(l1 l2:Addr):Heap:=(zB1 c h l1).push { cls :=.type (sZ d),data :=.fields #[.ref l2,.int 0 0] }
def zB3 (c d:Bool)(h:Heap)(l1 l2:Addr):Heap:=(zB2 c d h l1 l2).push { cls :=.type "tuple",data :=.seq #[.ref h.objs.size,.ref (zB1 c h l1).objs.size] }
def zB4 (c d:Bool)(h:Heap)(l1 l2:Addr):Heap:=(zB3 c d h l1 l2).push { cls :=.type "tuple",data :=.seq #[.none,.none] }
def zB5 (c d:Bool)(h:Heap)(l1 l2:Addr):Heap:=(zB4 c d h l1 l2).push { cls :=.type "zip",data :=.fields #[.none,.bool false,.bool false,.ref (zB2 c d h l1 l2).objs.size,.ref (zB3 c d h l1 l2).objs.size] }
theorem zp {c:Bool}{l:Addr}{xs:Array BP}{Q:BP->BR->Prop}(hl:SB' c s.heap l xs)(q:Q (.ref s.heap.objs.size) { s with heap:=zB1 c s.heap l }):Cb (Cn prog w) A (pyIter (.ref l)) Q E s:=by
 cases c
 ·exact Hd hl q
 ·exact F8 hl q
theorem wj (c d:Bool)(l1 l2:Addr)(xs ys:Array BP):Meets (Builtin.«zip.__new__» ⟨[.type "zip",.ref l1,.ref l2],[]⟩) (λ_ R s=>SB' c s.heap l1 xs/\SB' d s.heap l2 ys ∧
   R (.ok (.ret (.ref (zB4 c d s.heap l1 l2).objs.size))) { s with heap:=zB5 c d s.heap l1 l2 }) :=
 .of_wp λprog w A R s h=>by
  obtain ⟨hp,g,dr,tk,os⟩:=s;obtain ⟨hl1,hl2,h⟩:=h
  have hsub:=sub_zip
  have m1:SB' c (Shared.heap ⟨hp,g,dr,tk,os⟩) l1 xs:=hl1
  have m2:SB' d (Shared.heap ⟨zB1 c hp l1,g,dr,tk,os⟩) l2 ys:=hl2.to λo e=>BO _ e
  wp_walk using zp m1,zp m2
  exact ⟨_,rfl,h⟩
theorem uF {c d:Bool}{l1 l2:Addr}{xs ys:Array BP}{Q:BP->BR->Prop}(m1:SB' c s.heap l1 xs)(m2:SB' d s.heap l2 ys)
  (h:∀h',IsZip h' (s.heap.objs.size+4) (s.heap.objs.size+2) (s.heap.objs.size+3) .none->IsPair h' (s.heap.objs.size+2) (.ref s.heap.objs.size) (.ref (s.heap.objs.size+1)) →
   IsPair h' (s.heap.objs.size+3) .none .none->ItB c h' s.heap.objs.size l1 0->ItB d h' (s.heap.objs.size+1) l2 0 →
   (∀c o,s.heap.get? c=some o->h'.get? c=some o)->Q (.ref (s.heap.objs.size+4)) { s with heap:=h' }):Cb (Cn prog w) A (call (.type "zip") [.ref l1,.ref l2]) Q E s:=by
 refine Im F.called_zip (by decide) (F.typeCall_zip_2 _ _) (F.newCall_zip_2 _ _) (λobj=>F.args_object_init_3 obj _ _) F.entry_zip_new (wj c d l1 l2 xs ys) ⟨m1,m2,?_⟩
 have z1:(zB1 c s.heap l1).objs.size=s.heap.objs.size+1:=EF ..
 have z2:(zB2 c d s.heap l1 l2).objs.size=s.heap.objs.size+2:=(EF ..).trans (by rw[z1])
 have z3:(zB3 c d s.heap l1 l2).objs.size=s.heap.objs.size+3:=(EF ..).trans (by rw[z2])
 have z4:(zB4 c d s.heap l1 l2).objs.size=s.heap.objs.size+4:=(EF ..).trans (by rw[z3])
 have g5:(zB5 c d s.heap l1 l2).get? (zB4 c d s.heap l1 l2).objs.size=some { cls :=.type "zip",data :=.fields #[.none,.bool false,.bool false,.ref (zB2 c d s.heap l1 l2).objs.size,.ref (zB3 c d s.heap l1 l2).objs.size] }:=BX _ rfl
 have g4:(zB5 c d s.heap l1 l2).get? (zB3 c d s.heap l1 l2).objs.size=some { cls :=.type "tuple",data :=.seq #[.none,.none] }:=BO _ (BX _ rfl)
 have g3:(zB5 c d s.heap l1 l2).get? (zB2 c d s.heap l1 l2).objs.size=some { cls :=.type "tuple",data :=.seq #[.ref s.heap.objs.size,.ref (zB1 c s.heap l1).objs.size] }:=BO _ (BO _ (BX _ rfl))
 have g2:(zB5 c d s.heap l1 l2).get? (zB1 c s.heap l1).objs.size=some { cls :=.type (sZ d),data :=.fields #[.ref l2,.int 0 0] }:=BO _ (BO _ (BO _ (BX _ rfl)))
 have g1:(zB5 c d s.heap l1 l2).get? s.heap.objs.size=some { cls :=.type (sZ c),data :=.fields #[.ref l1,.int 0 0] }:=BO _ (BO _ (BO _ (BO _ (BX _ rfl))))
 show _/\_
 rw[z2,z3,z4] at g5
 rw[z1,z2] at g3
 rw[z3] at g4
 rw[z1] at g2
 rw[z4]
 refine ⟨⟨_,g5,rfl⟩,h _ g5 g3 g4 ?_ ?_ λc' o x=>BO _ (BO _ (BO _ (BO _ (BO _ x))))⟩
 ·cases c
  ·exact ⟨_,g1,rfl,rfl⟩
  ·exact ⟨_,g1,rfl,rfl⟩
 ·cases d
  ·exact ⟨_,g2,rfl,rfl⟩
  ·exact ⟨_,g2,rfl,rfl⟩
end
def SqB (K:BM):Bool->Hp->Addr->List V->Prop
 | true,H,a,xs=>SqL K H a xs
 | false,H,a,xs=>SqT K H a xs
theorem SqB.row {X:Cx}{c:Bool}{pins:List (Addr×Obj)}{σ:St}{H:Hp}{s:BR}(I:Inv X pins σ H s){a:Addr}{xs:List V}(h:SqB X.K c H a xs):∃its:List BP,Vals xs its/\SB' c s.heap a its.toArray:=by
 cases c
 ·obtain ⟨its,r,p,_⟩:=I.tuple (show SqT X.K H a xs from h);exact ⟨its,r,p⟩
 ·obtain ⟨its,r,p,_⟩:=I.list (show SqL X.K H a xs from h);exact ⟨its,r,p.isList⟩
theorem SB'.lt {c:Bool}{h:Heap}{l:Addr}{xs:Array BP}(x:SB' c h l xs):l<h.objs.size:=by
 cases c
 ·obtain ⟨o,e,_⟩:=(show h.IsTuple l xs from x);exact BW e
 ·obtain ⟨o,e,_⟩:=(show h.IsList l xs from x);exact BW e
theorem SqB.inj {X:Cx}{c:Bool}{pins:List (Addr×Obj)}{σ:St}{H:Hp}{s:BR}(I:Inv X pins σ H s){a:Addr}{xs ys:List V}(h:SqB X.K c H a xs)(g:SqB X.K c H a ys):xs=ys:=by
 cases c
 ·exact I.ma h g
 ·exact I.oX h g
def ItZ (K:BM)(c d:Bool)(a b:Addr):It :=
 ⟨λi H=>∃xs ys u v,SqB K c H a xs/\SqB K d H b ys/\xs[i]? = some u/\ys[i]? = some v,λi H x H'=>∃T u v,H T=none/\x = .ref T/\H'=upd H T (.tup [u,v])/\(∀xs,SqB K c H a xs->xs[i]? = some u)/\∀ys,SqB K d H b ys->ys[i]? = some v,λi H=>∃xs ys,SqB K c H a xs/\SqB K d H b ys/\(xs.length<=i\/ys.length<=i)⟩
theorem uG {P:B7}{w:CJ}{K:BM}{elts:List Expr}{k:Nat}{pos:Pos}(c d:Bool)(a b z TI TO i1 i2:Addr)(D:ZipApart z TI TO i1 i2 a b):Turn P w K (.Tuple elts k pos) (ItZ K c d a b) [z,TI,TO,i1,i2] z (λi h=>IsZip h z TI TO .none/\IsPair h TI (.ref i1) (.ref i2)/\(∃x y,IsPair h TO x y)/\ItB c h i1 a i/\ItB d h i2 b i) where
 mem:=by simp
 obj:=λi h ⟨hz,hI,⟨x,y,hO⟩,h1,h2⟩ e he=>by
  have he':e=z\/e=TI\/e=TO\/e=i1\/e=i2:=by simpa using he
  rcases he' with q | q | q | q | q
  ·subst q;exact ⟨_,hz,λv z=>nomatch z⟩
  ·subst q;exact ⟨_,hI,λv z=>nomatch z⟩
  ·subst q;exact ⟨_,hO,λv z=>nomatch z⟩
  ·subst q;exact h1.obj
  ·subst q;exact h2.obj
 keep:=λi h h' ⟨hz,hI,⟨x,y,hO⟩,h1,h2⟩ kp=>⟨kp z (by simp) _ hz,kp TI (by simp) _ hI,⟨x,y,kp TO (by simp) _ hO⟩,h1.to λo e=>kp i1 (by simp) o e,h2.to λo e=>kp i2 (by simp) o e⟩
 item:=λX eP eW eK hcalm i pins s σ H E I f ⟨hz,hI,⟨x,y,hO⟩,h1,h2⟩ go=>by
  subst eP eW eK
  obtain ⟨xs,ys,u,v,ha,hb,hu,hv⟩:=go
  obtain ⟨its,r,pl⟩:=SqB.row I ha
  obtain ⟨jts,r',pl'⟩:=SqB.row I hb
  obtain ⟨u',eu,ru⟩:=r.get hu
  obtain ⟨v',ev,rv⟩:=r'.get hv
  refine pI D hz hI hO h1 h2 pl pl' (x:=u') (y:=v') (by rw[DM];exact eu) (by rw[DM];exact ev) λh' o1 o2 o3 o4 o5 o6 kp =>?_
  refine ⟨_,rfl,?_⟩
  refine wpAny_letOwnedTupleGo_zip o1 λh2' e2 sb =>?_
  have ez:z≠s.heap.objs.size:=Cp (BW hz)
  have lt:∀e∈[z,TI,TO,i1,i2],e≠s.heap.objs.size:=λe he=>by
   have he':e=z\/e=TI\/e=TO\/e=i1\/e=i2:=by simpa using he
   rcases he' with q | q | q | q | q
   ·rw[q];exact ez
   ·rw[q];exact Cp (BW hI)
   ·rw[q];exact Cp (BW hO)
   ·rw[q];exact Cp h1.lt
   ·rw[q];exact Cp h2.lt
  have kp2:∀e ob,e∉[z,TI,TO,i1,i2]->s.heap.get? e=some ob->h2'.get? e=some ob:=λe ob he eb=>by
   have n1:e≠z:=λq=>he (by simp[q])
   have n2:e≠TO:=λq=>he (by simp[q])
   have n3:e≠i1:=λq=>he (by simp[q])
   have n4:e≠i2:=λq=>he (by simp[q])
   rw[sb.2 e n1];exact kp e ob n1 n2 n3 n4 eb
  have j1:ItB c h2' i1 a (i+1):=o3.to λob eb=>by rw[sb.2 i1 D.i1z];exact eb
  have j2:ItB d h2' i2 b (i+1):=o4.to λob eb=>by rw[sb.2 i2 D.i2z];exact eb
  have jI:IsPair h2' TI (.ref i1) (.ref i2):=by
   show h2'.get? TI=_
   rw[sb.2 TI D.TIz]
   exact kp TI _ D.TIz D.TITO D.TIi1 D.TIi2 hI
  have jO:IsPair h2' TO u' v':=by
   show h2'.get? TO=_
   rw[sb.2 TO D.TOz]
   exact o2
  have tp:h2'.get? s.heap.objs.size=some { cls :=.type "tuple",data :=.seq #[u',v'] }:=by rw[sb.2 _ (DE ez)];exact o5
  refine ⟨.ref s.heap.objs.size,upd H s.heap.objs.size (.tup [u,v]),I.qN (ch:=[z,TI,TO,i1,i2]) f kp2 (λe he =>?_) (BV _) ?_,rfl,⟨s.heap.objs.size,u,v,I.hok.fresh (BV _),rfl,rfl,λzs hy =>?_,λzs hy =>?_⟩,⟨e2,jI,⟨_,_,jO⟩,j1,j2⟩,λe he =>?_⟩
  ·have he':e=z\/e=TI\/e=TO\/e=i1\/e=i2:=by simpa using he
   rcases he' with q | q | q | q | q
   ·rw[q];exact ⟨_,e2⟩
   ·rw[q];exact ⟨_,jI⟩
   ·rw[q];exact ⟨_,jO⟩
   ·rw[q];obtain ⟨o,ho,_⟩:=j1.obj;exact ⟨o,ho⟩
   ·rw[q];obtain ⟨o,ho,_⟩:=j2.obj;exact ⟨o,ho⟩
  ·refine ⟨(by show 2<=Ca;decide),[u',v'],.cons ru (.cons rv .nil),_,tp,⟨rfl,rfl⟩,_,rfl⟩
  ·rw[SqB.inj I hy ha];exact hu
  ·rw[SqB.inj I hy hb];exact hv
  ·rw[ax (lt e he)];exact (f e he).1
 done:=λX eP eW eK hcalm i pins s σ H E I f ⟨hz,hI,⟨x,y,hO⟩,h1,h2⟩ stop=>by
  subst eP eW eK
  obtain ⟨xs,ys,ha,hb,hl⟩:=stop
  obtain ⟨its,r,pl⟩:=SqB.row I ha
  obtain ⟨jts,r',pl'⟩:=SqB.row I hb
  have l:=r.length
  have l':=r'.length
  refine jP (I.ok.hd hcalm) D hz hI hO h1 h2 pl pl' (hl.imp (λ_=>by rw[DM];exact Hq.mpr (by omega)) (λ_=>by rw[DM];exact Hq.mpr (by omega))) λh' ex=>⟨rfl,?_⟩
  exact I.uB (ch:=[z,TI,TO,i1,i2]) (h':=h') (t':=s.toks) f λe o he eb=>ex e o (λq=>he (by simp[q])) (λq=>he (by simp[q])) (λq=>he (by simp[q])) (λq=>he (by simp[q])) eb
 self:=λA i s Q E ⟨hz,_⟩ q=>wpAny_pyIter_zip hz q
def Bm (K:BM)(c d:Bool)(ta:TA):TI:=λσ H R=>ta σ H λvs H1=>∃a b,vs=[.ref a,.ref b]/\(∃xs,SqB K c H1 a xs)/\(∃ys,SqB K d H1 b ys)/\R (ItZ K c d a b) H1
theorem j8 {X:Cx}(c d:Bool){a b:Expr}{ta:TA}{p pos pos':Pos}{elts:List Expr}{k:Nat}(hg:Gl X "zip")(hm:X.mg "zip" = none)(ha:PA X [a,b] ta)(hs:CO [a,b] X.env=[(false,eval a X.env),(false,eval b X.env)]:=by rfl)(hs2:CO [b] X.env=[(false,eval b X.env)]:=by rfl) :
  PI X (.Tuple elts k pos') (.Call (.Name "zip" p) [a,b] [] pos) (Bm X.K c d ta):=by
 intro pins s σ H R I h
 refine Call_ (fW I hg hm boot_zip (DQ (thn (ha pos pins s σ H _ I h) λus s1 ⟨vs,H1,I1,r1,q1⟩ =>?_) (by rw[hs,hs2]) (by rw[hs2];rfl)))
 obtain ⟨l1,l2,e,⟨xs,hx⟩,⟨ys,hy⟩,q⟩:=q1
 subst e
 cases r1 with
 | cons r rr =>
  cases rr with
  | cons r' rr =>
   cases rr
   cases r
   cases r'
   have fp:∀b∈[s1.heap.objs.size+4,s1.heap.objs.size+2,s1.heap.objs.size+3,s1.heap.objs.size,s1.heap.objs.size+1],jL X pins H1 b:=λb hb=>by
    have ge:s1.heap.objs.size<=b:=by
     simp at hb
     omega
    exact I1.vq ge (I1.hok.fresh ge)
   obtain ⟨its,rv,pl⟩:=SqB.row I1 hx
   obtain ⟨jts,rv',pl'⟩:=SqB.row I1 hy
   have D:=Aj _ _ _ pl.lt pl'.lt
   refine uF pl pl' λh' hz hI hO h1 h2 kp =>?_
   have T:=uG (P:=X.prog) (w:=X.w) (K:=X.K) (elts:=elts) (k:=k) (pos:=pos') c d l1 l2 _ _ _ _ _ D
   refine T.self _ 0 _ _ _ ⟨hz,hI,⟨_,_,hO⟩,h1,h2⟩ ?_
   exact ⟨_,_,_,_,H1,rfl,I1.kept (t':=s1.toks) kp,T,⟨hz,hI,⟨_,_,hO⟩,h1,h2⟩,fp,q⟩
theorem zq {K:BM}{c d:Bool}{a b:Addr}{xs ys:List V}{k l:Nat}{tc:TT}{te:TE}{τ:St}{H:Hp}{Q:VK}(n:Nat)(n1:n<=xs.length)(n2:n<=ys.length)(n3:n=xs.length\/n=ys.length)(Pv:Nat->List V->Hp->Prop)(hkl:k≠l)(h0:Pv 0 [] H)(hz:n<=Ca)
  (hl:∀i zs H,i<=n->Pv i zs H->SqB K c H a xs/\SqB K d H b ys)
  (hs:∀i x y zs H T,xs[i]? = some x->ys[i]? = some y->zs.length<=i->H T=none->Pv i zs H->zf k l tc te τ Pv i x y zs (upd H T (.tup [x,y])))
  (hd:∀zs H,zs.length<=n->Pv n zs H->∀r,H r=none->Q (.ref r) (upd H r (.lst zs))):fL (ItZ K c d a b) (sE K k l) tc te τ Q H:=by
 refine ⟨λi m σ zs H=>m=n-i/\i<=n/\(∀a b,(σ.set k (some a)).set l (some b)=(τ.set k (some a)).set l (some b))/\zs.length<=i/\Pv i zs H,⟨n,by simp,CC _,λ_ _=>rfl,BV _,h0⟩,?_⟩
 rintro i m σ zs H ⟨rfl,hi,hτ,hy,pv⟩
 obtain ⟨q1,q2⟩:=hl i zs H hi pv
 by_cases hlt:i<n
 ·refine .inr ⟨⟨xs,ys,xs[i]'(by omega),ys[i]'(by omega),q1,q2,by simp[show i<xs.length by omega],by simp[show i<ys.length by omega]⟩,λx H' y =>?_⟩
  obtain ⟨T,u,v,hT,ex,eH,hu,hv⟩:=y
  subst ex eH
  refine ⟨T,_,rfl,SqT.of af,rfl,_,_,rfl,_,_,rfl,rfl,?_⟩
  rw[hτ]
  have hσ:∀a b,((((τ.set k (some u)).set l (some v)).set k (some a)).set l (some b))=(τ.set k (some a)).set l (some b):=λa b=>by
   rw[Km _ _ (DE hkl),FG,FG]
  refine hs i u v zs _ T (hu xs q1) (hv ys q2) hy hT pv _ _ (λy4 H4 p4=>⟨by omega,n-(i+1),by omega,rfl,hlt,hσ,by rw[BU,Df];omega,p4⟩) λH3 p3=>⟨n-(i+1),by omega,rfl,hlt,hσ,by omega,p3⟩
 ·have e:i=n:=by omega
  subst e
  exact .inl ⟨⟨xs,ys,q1,q2,n3.elim (λz =>.inl (by omega)) (λz =>.inr (by omega))⟩,by omega,hd zs H hy pv⟩
end L2
namespace L2.RvT
open PySem PyProof.Rows
open Sem (wp)
theorem iY:Manifest.owners.lookup (String.ofList ['d', 'e', 's', 'r', 'e', 'v', 'e', 'r'].reverse)=some Manifest.sig_reversed:=by kernel_rfl
theorem slot_next:Slot "reversed" "__next__" "reversed.__next__" :=
 .of (owner := "reversed") (n := "__next__") (by rw[Fh,D9];kernel_rfl) (by decide +kernel) (by decide +kernel) (by decide +kernel)
  (by first | exact .inl (by decide +kernel) | exact .inr (by decide +kernel)) (by rw[Fv];kernel_rfl)
theorem entry_next:entryFor table "reversed.__next__" = some Builtin.«reversed.__next__» := entryFor_of_tree (by kernel_rfl)
theorem args_next (a:BP):argsOk "reversed.__next__" ⟨[a],[]⟩:=by
 unfold argsOk;rw[Jd (id := "reversed.__next__") (n:=['_', '_', 't', 'x', 'e', 'n', '_', '_']) (o:=['d', 'e', 's', 'r', 'e', 'v', 'e', 'r']) (by kernel_rfl) iY];kernel_rfl
theorem mQ:Slot "reversed" "__iter__" "reversed.__iter__" :=
 .of (owner := "reversed") (n := "__iter__") (by rw[Fh,D9];kernel_rfl) (by decide +kernel) (by decide +kernel) (by decide +kernel)
  (by first | exact .inl (by decide +kernel) | exact .inr (by decide +kernel)) (by rw[Fv];kernel_rfl)
theorem uH (a:BP):argsOk "reversed.__iter__" ⟨[a],[]⟩:=by
 unfold argsOk;rw[Jd (id := "reversed.__iter__") (n:=['_', '_', 'r', 'e', 't', 'i', '_', '_']) (o:=['d', 'e', 's', 'r', 'e', 'v', 'e', 'r']) (by kernel_rfl) iY];kernel_rfl
theorem qV:entryFor table "reversed.__iter__" = some Builtin.«dict_keyiterator.__iter__» :=
 entryFor_alias (id' := "dict_keyiterator.__iter__") (by kernel_rfl) (by first | rfl | decide +kernel | (unfold String.splitOn;simp +decide [String.splitOnAux])) (by decide +kernel) (by kernel_rfl)
theorem Ak:typeLookup (.type "tuple") "__reversed__" = pure none:=by rw[Fh,D9];kernel_rfl
theorem Al:typeLookup (.type "reversed") "__len__" = pure none:=by rw[Fh,D9];kernel_rfl
theorem pK:typeLookup (.type "reversed") "__length_hint__" = pure (some (.builtin "reversed.__length_hint__")):=by rw[Fh,D9];kernel_rfl
theorem sub_self:isSubtype (.type "reversed") (.type "reversed")=pure true:=by rw[Fv];kernel_rfl
theorem wk:isSubtype (.type "tuple") (.type "dict")=pure false:=by rw[Fv];kernel_rfl
theorem uI:Slot "reversed" "__init__" "object.__init__" :=
 .of (owner := "object") (n := "__init__") (by rw[Fh,D9];kernel_rfl) (by decide +kernel) (by decide +kernel) (by decide +kernel)
  (by first | exact .inl (by decide +kernel) | exact .inr (by decide +kernel)) (by rw[Fv];kernel_rfl)
theorem called:TypeCalled "reversed" "reversed.__new__" "object.__init__" :=
 ⟨by decide +kernel,by decide +kernel,⟨_,_,Iu⟩,madeBy_type Iu PySem.F.lookup_reversed_new (by decide +kernel),by decide +kernel,by rw[Fv];kernel_rfl,uI⟩
def rvO (t:Addr)(i:Int):Obj:={ cls :=.type "reversed",data :=.fields #[.ref t,Ea i] }
def gK (h:Heap)(a t:Addr)(i:Int):Prop:=∃o,h.get? a=some o/\o.cls = .type "reversed" /\ o.data = .fields #[.ref t,Ea i]
section
variable  {prog:B7}{w:CJ}{A:CK}{E:BP->BR->Prop}{s:BR}
theorem gK.typeIs {a t:Addr}{i:Int}(x:gK s.heap a t i):s.TypeIs (.ref a) "reversed" := let ⟨o,ho,hc,_⟩:=x;⟨o,ho,hc⟩
theorem gK.at {h h':Heap}{a t:Addr}{i:Int}(x:gK h a t i)(e:∀o,h.get? a=some o->h'.get? a=some o):gK h' a t i:=let ⟨o,ho,r⟩:=x;⟨o,e _ ho,r⟩
theorem pL {h h':Heap}{a:Addr}{its:Array BP}(x:IsTup h a its)(e:∀o,h.get? a=some o->h'.get? a=some o):IsTup h' a its:=let ⟨o,ho,r⟩:=x;⟨o,e _ ho,r⟩
theorem uJ (t:Addr)(its:Array BP)(hz:(its.size:Int)<2 ^ 63) :
  Meets (Builtin.«reversed.__new__» ⟨[.type "reversed",.ref t],[]⟩) (λ_ R s=>IsTup s.heap t its/\R (.ok (.ret (.ref s.heap.objs.size))) { s with heap:=s.heap.push (rvO t ((its.size:Int)-1)),toks:=s.toks+1+1 }) :=
 .of_wp λprog w A R s h=>by
  obtain ⟨ht,h⟩:=h
  unfold Builtin.«reversed.__new__»
  refine BN (Ew (newClass_reversed _) ?_)
  try dsimp only
  refine BN (Ew (a:=()) (by first | rfl | kernel_rfl) ?_)
  refine BN (Ew (a:=()) (by first | rfl | kernel_rfl) ?_)
  try dsimp only
  refine BN (Fg ht.typeIs Ak ?_)
  try dsimp only
  refine BN ?_
  show Cb _ _ (isInstance (.ref t) (.type "dict") >>= _) _ _ s
  refine BN (Fy (T := "tuple") (b:=false) ht.typeIs wk ?_)
  refine DJ (λhab=>absurd hab (by decide)) (λ_ =>?_)
  refine BN (Fg ht.typeIs CB.lookup ?_)
  refine DJ (λ_=>BS ?_) (λhab=>absurd (by decide +kernel) hab)
  refine DJ (λhab=>absurd hab (by decide)) (λ_ =>?_)
  refine BN (len_tuple ht hz ?_)
  refine BN (Ew (a:=some (its.size:Int)) rfl ?_)
  refine BN ?_
  show Cb _ _ (newObj (.type "reversed") (.fields #[.ref t,Ea ((its.size:Int)-1)])) _ _ _
  exact CM (BS ⟨_,rfl,h⟩)
theorem wo {t:Addr}{its:Array BP}{Q:BP->BR->Prop}(ht:IsTup s.heap t its)(hz:(its.size:Int)<2 ^ 63)
  (h:Q (.ref s.heap.objs.size) { s with heap:=s.heap.push (rvO t ((its.size:Int)-1)),toks:=s.toks+1+1 }):Cb (Cn prog w) A (call (.type "reversed") [.ref t]) Q E s:=by
 refine Im called (by decide) (PySem.F.typeCall_reversed_1 _) (PySem.F.newCall_reversed_1 _) (λobj=>Fo obj _) PySem.F.entry_reversed_new (uJ t its hz) ⟨ht,?_⟩
 exact ⟨⟨_,BX _ rfl,rfl⟩,h⟩
theorem next_item {I t:Addr}{i:Nat}{its:Array BP}{x:BP}{Q:Option BP->BR->Prop}(hit:gK s.heap I t (i:Int))(ht:IsTup s.heap t its)(hx:its[i]? = some x)(hi:(i:Int)<2 ^ 63)
  (hQ:∀h' tk,gK h' I t ((i:Int)-1)->Heap.SameBut I s.heap h'->Q (some x) { s with heap:=h',toks:=tk }):Cb (Cn prog w) A (pyNext (.ref I)) Q E s:=by
 obtain ⟨o,ho,hc,hd⟩:=id hit
 unfold pyNext
 refine BN (DL (C4 (name:=Str.ofString "__next__") hit.typeIs slot_next (C8 slot_next hit.typeIs entry_next ?_ (args_next _))))
 unfold Builtin.«reversed.__next__»
 refine BN (Ew (a:=(Cc I,[])) rfl ?_)
 try dsimp only
 refine BN (De ho hd (x :=.ref t) rfl ?_)
 refine BN (De ho hd (x:=Ea (i:Int)) rfl ?_)
 show Cb _ _ (if (i:Int)<0 then _ else _) _ _ s
 rw[if_neg (by omega)]
 show Cb _ _ (specialOf (.ref t) "__getitem__" >>= _) _ _ s
 refine BN (Fg ht.typeIs CB.lookup ?_)
 refine DJ (λhab=>absurd hab (by decide)) (λ_ =>?_)
 refine BN (wpAny_mkInt ?_)
 refine BN (DL ?_)
 refine PyProof.Rows.getItem_tuple (j:=i) ht (by omega) hi (IM (by omega) (by have:=(DD.mp hx).1;omega)) hx ?_
 refine BN (De ho hd (x:=Ea (i:Int)) rfl ?_)
 show Cb _ _ (setField (.ref I) 1 (Ea ((i:Int)-1)) >>= λ_=>ret x) _ _ _
 refine BN (Fu ho hd (by simp) ?_)
 refine BS ⟨x,rfl,BS (hQ _ _ ?_ (Fz ..))⟩
 exact ⟨_,C6 _ ho (Gb (Eb hd _)),(Jh ..).trans hc,by rw[Eb hd];simp⟩
theorem next_end {I t:Addr}{Q:Option BP->BR->Prop}(hh:A.handled=none)(hit:gK s.heap I t (-1))
  (hQ:∀h',Heap.ExtBut I s.heap h'->Q none { s with heap:=h' }):Cb (Cn prog w) A (pyNext (.ref I)) Q E s:=by
 obtain ⟨o,ho,hc,hd⟩:=id hit
 unfold pyNext
 refine BN (DL (C4 (name:=Str.ofString "__next__") hit.typeIs slot_next (C8 slot_next hit.typeIs entry_next ?_ (args_next _))))
 unfold Builtin.«reversed.__next__»
 refine BN (Ew (a:=(Cc I,[])) rfl ?_)
 try dsimp only
 refine BN (De ho hd (x :=.ref t) rfl ?_)
 refine BN (De ho hd (x:=Ea (-1)) rfl ?_)
 show Cb _ _ (if (-1:Int)<0 then _ else _) _ _ s
 rw[if_pos (by decide)]
 refine BN (En ?_)
 refine BN ?_
 show Cb _ _ (setField (.ref I) 1 (Ea (-1)) >>= λ_=>setField (.ref I) 0 .none) _ _ s
 refine BN (Fu ho hd (by simp) ?_)
 have h1:=C6 (Obj.mapFields λfs=>fs.setIfInBounds 1 (Ea (-1))) ho (Gb (Eb hd _))
 refine Fu h1 (Eb hd _) (by simp) ?_
 refine BN ?_
 show Cb _ _ (newExc (.type "StopIteration") [] >>= _) _ _ _
 refine BN ?_
 simp only[newExc,newTuple]
 refine BN (CM ?_ (by size_fits))
 refine BN (m:=firstArgMember _ _) (Ew (a:=Ee) (by first | rfl | (simp only[firstArgMember];rfl)) ?_)
 refine CM ?_ (by size_fits)
 simp only[raiseNew]
 refine BN (wpAny_handled ?_)
 first | rw[show A.in1.handled=none from hh] | rw[hh]
 refine BN (BS (wpAny_throw ?_))
 refine BN (Fy (T := "StopIteration") (b:=true) ⟨_,BX _ rfl,rfl⟩ IG ?_)
 refine BS (hQ _ ?_)
 refine JE (JE (λb o hb eo =>?_) _) _
 exact (CV _ _ (DE hb)).trans ((CV _ _ (DE hb)).trans eo)
theorem tf {I t:Addr}{i:Int}{Q:BP->BR->Prop}(hit:gK s.heap I t i)(h:Q (.ref I) s):Cb (Cn prog w) A (pyIter (.ref I)) Q E s:=by
 refine Jp hit.typeIs mQ (C8 mQ hit.typeIs qV ?_ (uH _))
 show Cb _ _ (ret (.ref I)) _ _ s
 exact BS ⟨_,rfl, "reversed",_,hit.typeIs,slot_next.lookup,h⟩
theorem mR:Slot "reversed" "__length_hint__" "reversed.__length_hint__" :=
 .of (owner := "reversed") (n := "__length_hint__") pK (by decide +kernel) (by decide +kernel) (by decide +kernel)
  (by first | exact .inl (by decide +kernel) | exact .inr (by decide +kernel)) sub_self
theorem qW:entryFor table "reversed.__length_hint__" = some Builtin.«reversed.__length_hint__» := entryFor_of_tree (by kernel_rfl)
theorem uK (a:BP):argsOk "reversed.__length_hint__" ⟨[a],[]⟩:=by
 unfold argsOk;rw[Jd (id := "reversed.__length_hint__") (n:=['_', '_', 't', 'n', 'i', 'h', '_', 'h', 't', 'g', 'n', 'e', 'l', '_', '_']) (o:=['d', 'e', 's', 'r', 'e', 'v', 'e', 'r']) (by kernel_rfl) iY];kernel_rfl
theorem uL {I t:Addr}{its:Array BP}{Q:BP->BR->Prop}(hit:gK s.heap I t ((its.size:Int)-1))(ht:IsTup s.heap t its)(hz:(its.size:Int)<2 ^ 63)
  (h:∀u tk,Q (.int its.size u) { s with toks:=tk }):Cb (Cn prog w) A (call (.builtin "reversed.__length_hint__") [.ref I]) Q E s:=by
 obtain ⟨o,ho,hc,hd⟩:=id hit
 refine C8 mR hit.typeIs qW ?_ (uK _)
 unfold Builtin.«reversed.__length_hint__»
 refine BN (Ew (a:=Cc I) rfl ?_)
 refine BN (De ho hd (x :=.ref t) rfl ?_)
 refine DJ (λhab=>absurd hab (show ¬ (false=true) from B2)) (λ_ =>?_)
 refine BN (len_tuple ht hz ?_)
 refine BN (Ew (a:=some (its.size:Int)) rfl ?_)
 refine BN (De ho hd (x:=Ea ((its.size:Int)-1)) rfl ?_)
 show Cb _ _ (if (its.size:Int)<((its.size:Int)-1)+1 then _ else retInt (((its.size:Int)-1)+1)) _ _ _
 rw[if_neg (by omega),show ((its.size:Int)-1)+1=its.size by omega]
 exact BN (wpAny_mkInt (BS ⟨_,rfl,h _ _⟩))
theorem yj {I t:Addr}{its:Array BP}{Q:Bool->BR->Prop}(hit:gK s.heap I t ((its.size:Int)-1))(ht:IsTup s.heap t its)(hz:its.size<=2 ^ 24)(h:∀b tk,Q b { s with toks:=tk }):Cb (Cn prog w) A (GS (.ref I)) Q E s:=by
 unfold GS
 refine BN (Fg hit.typeIs Al ?_)
 wp_delta
 refine BN (Fg hit.typeIs pK ?_)
 generalize hid:("reversed.__length_hint__" : String)=id0
 wp_delta
 rw[show splitId id0=some ("reversed", "__length_hint__") from by subst hid;decide +kernel]
 subst hid
 refine BN (Fy (T := "reversed") (b:=true) hit.typeIs sub_self ?_)
 refine DJ (λhab=>absurd hab (by decide)) (λ_ =>?_)
 refine DJ (λhab=>absurd hab (by decide +kernel)) (λ_ =>?_)
 refine BN (En ?_)
 refine BN (Ew (mR.bind _) ?_)
 refine BN (DL (uL hit ht (by omega) λu tk =>?_))
 show Cb _ A (asInt? (.int (its.size:Int) u) >>= _) Q E _
 have ea:asInt? (EN (its.size:Int) u)=pure (some (its.size:Int)):=rfl
 rw[ea,pure_bind]
 generalize hn:(its.size:Int)=n
 dsimp only
 refine DJ (λhab=>absurd hab ?_) (λ_ =>?_)
 ·unfold Builtin.List.listFitsIndex;simp;omega
 refine DJ (λhab=>absurd hab (by omega)) (λ_ =>?_)
 refine DJ (λhab=>absurd hab ?_) (λ_ =>?_)
 ·rw[L2.vG (by rw[IL];omega)];exact B2
 exact BS (h _ _)
end
theorem walk {prog:B7}{w:CJ}{A:CK}(hh:A.handled=none)(I t:Addr)(hne:t≠I)(its:Array BP)(hz:(its.size:Int)<2 ^ 63) :
  Walks prog w A I [I,t] [I] its.size (λi v=>its[its.size-1-i]? = some v) (λi h=>i<=its.size/\gK h I t ((its.size:Int)-1-(i:Int))/\IsTup h t its) where
 sub:=λb hb=>by simp at hb;simp[hb]
 frame:=λ_ _ _ x hk=>⟨x.1,x.2.1.at λo e=>hk I (by simp) o e,pL x.2.2 λo e=>hk t (by simp) o e⟩
 item:=λi s Q E hi x hQ=>by
  have e:(its.size:Int)-1-(i:Int)=((its.size-1-i:Nat):Int):=by omega
  have hit:=x.2.1
  rw[e] at hit
  have hx:its[its.size-1-i]? = some (its[its.size-1-i]'(by omega)):=Hr (by omega)
  refine next_item hit x.2.2 hx (by omega) λh' tk hit' hs' =>?_
  have e2:((its.size-1-i:Nat):Int)-1=(its.size:Int)-1-((i+1:Nat):Int):=by omega
  rw[e2] at hit'
  exact hQ _ h' tk hx ⟨hi,hit',pL x.2.2 λo eo=>(hs'.2 t hne).trans eo⟩ λb o hb eo=>hs'.extBut b o (λh=>hb (by simp[h])) eo
 done:=λs Q E x hQ=>by
  have e:(its.size:Int)-1-(its.size:Int) = -1:=by omega
  have hit:=x.2.1
  rw[e] at hit
  exact next_end hh hit λh' he'=>hQ h' s.toks λb o hb eo=>he' b o (λh=>hb (by simp[h])) eo
 self:=λ_ _ _ _ x hQ=>tf x.2.1 hQ
section
variable  {prog:B7}{w:CJ}{A:CK}{E:BP->BR->Prop}{s:BR}
theorem uM {R:Result->BR->Prop}{I t:Addr}{items:Array BP}(hh:A.handled=none)(hit:gK s.heap I t ((items.size:Int)-1))(hl:IsTup s.heap t items)(hne:t≠I)(hlen:items.size<=2 ^ 24)
  (S:Addr) (hSI:S≠I) (hSl:S≠t) (res:BP) (c₀:Nat) (hS:s.heap.get? S=some { cls :=.type "list",data :=.seq #[] c₀ })
  (hR:∀h' tk acc' c',(∀b o,b≠S->b≠I->s.heap.get? b=some o->h'.get? b=some o)->h'.get? S=some { cls :=.type "list",dict:=none,data :=.seq acc' c',slots := #[] } →
   ItemsOf (λi v=>items[items.size-1-i]? = some v) acc' items.size->R (.ok (.ret res)) { s with heap:=h',toks:=tk }) :
  Cb (Cn prog w) A.in1 (Dz (.ref S) (.ref I) res)
   (λfin s'=>match fin with | .done f=>R (.ok f) s' | .again c'=>c'.quiet=true/\Hv (Cn prog w) A c' R s') (λe s'=>R (.error e) s') s:=by
 have hSf:S∉[I,t]:=λhm=>by
  rcases Cw.mp hm with e | hm
  ·exact hSI e
  ·exact hSl (Ck.mp hm)
 have W:=(walk (prog:=prog) (w:=w) (A:=A.in1) hh I t hne items (by omega)).toS
 unfold Dz
 refine BN (EO (T := "reversed") hit.typeIs ?_)
 have h1:HF (.ref S) (.ref I)=false:=by simp[HF,hSI]
 have h2:(Fn "reversed" == Fn "list")=false:=by decide +kernel
 have h3:(Fn "reversed" == Fn "tuple")=false:=by decide +kernel
 simp only[h1,h2,h3,Bool.or_false,Dl,if_false]
 refine BN (tf hit ?_)
 refine BN (Dv (yj hit hl hlen λb tk =>?_))
 refine DJ (λ_ =>?_) (λ_=>BS ⟨EW Hs _,?_⟩)
 ·refine BN (En ?_)
  refine BN ?_
  show Cb _ A.in1 (updateSeq S (·.push .none) >>= λ_=>updateSeq S (·.pop)) _ _ _
  refine BN (FW hS rfl ?_)
  have hS₂:=C6 (C9 (·.push Ee)) hS rfl
  refine FW (hz:=by seq_fits) hS₂ rfl ?_
  have hS₃:=C6 (C9 (·.pop)) hS₂ rfl
  have oth:∀b o,b≠S->s.heap.get? b=some o->((s.heap.update S (C9 (·.push Ee))).update S (C9 (·.pop))).get? b=some o :=
   λb o hb e=>(CV _ _ (DE hb)).trans ((CV _ _ (DE hb)).trans e)
  refine BS ⟨EW Hs _,Iz W (by rw[IL];omega) S hSf res items.size 0 _ _ _ rfl (CC _) ⟨CC _,by simpa using hit.at λo e=>oth I o (DE hSI) e,pL hl λo e=>oth t o (DE hSl) e⟩ hS₃ (Kt _) λs' acc' c' hm hS' hacc =>?_⟩
  rw[Kn hm]
  refine hR s'.heap s'.toks acc' c' (λb o hb hbI e=>hm.heap b o (λhmem =>?_) (oth b o hb e)) hS' hacc
  rcases Cw.mp hmem with e' | hmem
  ·exact hb e'
  ·exact hbI (Ck.mp hmem)
 refine Iz W (by rw[IL];omega) S hSf res items.size 0 _ #[] c₀ rfl (CC _) ⟨CC _,by simpa using hit,hl⟩ hS (Kt _) λs' acc' c' hm hS' hacc =>?_
 rw[Kn hm]
 refine hR s'.heap s'.toks acc' c' (λb o hb hbI e=>hm.heap b o (λhmem =>?_) e) hS' hacc
 rcases Cw.mp hmem with e' | hmem
 ·exact hb e'
 ·exact hbI (Ck.mp hmem)
theorem qX {R:List BP->BR->Prop}{I t:Addr}{items:Array BP}(hh:A.handled=none)(hit:gK s.heap I t ((items.size:Int)-1))(hl:IsTup s.heap t items)(hne:t≠I)(hlen:items.size<=2 ^ 24)
    (h:∀(h1:Heap) (tk:Nat) (vs:List BP),vs=items.toList.reverse->(∀b o,b≠I->s.heap.get? b=some o->h1.get? b=some o)->R vs { s with heap:=h1,toks:=tk }) :
    Cb (Cn prog w) A (collect (.ref I)) R E s:=by
  obtain ⟨oi,hoi,_⟩:=id hit
  obtain ⟨ol,hol,_⟩:=id hl
  unfold collect
  refine BN (IE (DY GK ?_))
  rw[D1 GL _]
  show Cb _ A.in1 (newList [] >>= λl=>again (.builtin "list.__iadd__" ⟨[l,.ref I],[]⟩)) _ _ s
  refine BN (CM ?_)
  refine BS ⟨EW ET _,DY HI ?_⟩
  rw[D1 ET _]
  show Cb _ A.in1 (Dz (.ref s.heap.objs.size) (.ref I) (.ref s.heap.objs.size)) _ _ { s with heap:=s.heap.push { cls :=.type "list",data :=.seq ([]:List BP).toArray } }
  have hS0:(s.heap.push { cls :=.type "list",data :=.seq ([]:List BP).toArray }).get? s.heap.objs.size=some { cls :=.type "list",data :=.seq #[] 0 }:=BX _ rfl
  refine uM (A:=A) (R:=λres s'=>match res with
      | .ok (.ret v)=>Cb (Cn prog w) A (match v with | .ref a=>(do match (← load a).data with | .seq xs _=>pure xs.toList | _=>unsupported "internal:collect") | _=>unsupported "internal:collect") R E s'
      | .ok _=>False
      | .error e=>E e s') (s:={ s with heap:=s.heap.push { cls :=.type "list",data :=.seq ([]:List BP).toArray } }) hh (hit.at λo e=>BO _ e) (pL hl λo e=>BO _ e) hne hlen s.heap.objs.size (DE (Cp (BW hoi))) (DE (Cp (BW hol))) (.ref s.heap.objs.size) 0 hS0 λh' tk acc' c' kk hS' it =>?_
  show Cb _ A (load s.heap.objs.size >>= _) _ _ { s with heap:=h',toks:=tk }
  refine BN (Jm hS' ?_)
  refine BS (h h' tk acc'.toList ?_ λb o hb e=>kk b o (Cp (BW e)) hb (BO _ e))
  refine Hz λj =>?_
  rw[Cd]
  have h1:acc'.size=items.toList.length:=it.1
  by_cases hj:j<items.toList.length
  · obtain ⟨v,hv⟩:∃v,acc'[j]? = some v:=⟨acc'[j]'(by omega),Hr _⟩
    have:=it.2 j v hv
    dsimp only at this
    rw[<- Cd] at this
    rw[hv,Ih hj, <- this]
    rfl
  · rw[E4 (by omega),Gg (by rw[C7];omega)]
theorem jQ (I t:Addr)(items:Array BP)(hne:t≠I)(hn:items.size<=1000) :
  Meets (Builtin.«tuple.__new__» ⟨[.type "tuple",.ref I],[]⟩)
   (λA R s=>A.handled=none/\gK s.heap I t ((items.size:Int)-1)/\IsTup s.heap t items/\∀(h':Heap) (tk:Nat),(∀b o',b≠I->s.heap.get? b=some o'->h'.get? b=some o')->R (.ok (.ret (.ref h'.objs.size))) { s with heap:=h'.push { cls :=.type "tuple",data :=.seq items.toList.reverse.toArray },toks:=tk }) :=
 .of_wp λprog w A R s h=>by
  obtain ⟨hp,g,d,tk,os⟩:=s;obtain ⟨hh,hr,ht,h⟩:=h
  have hsub:=sub_tuple_self
  have hinit:=Jo
  have hmh:=madeHere_tuple
  have hT:Shared.TypeIs ⟨hp,g,d,tk,os⟩ (.ref I) "reversed" := gK.typeIs (s:=⟨hp,g,d,tk,os⟩) hr
  wp_walk using EO hT,qX (by simpa using hh) hr ht hne (by omega)
  rintro h' tk' vs rfl hk
  show Cb _ _ (Builtin.Tuple.tupleExact items.toList.reverse.toArray >>= λv=>ret v) _ _ _
  unfold Builtin.Tuple.tupleExact
  refine BN (CM ?_ (by show items.toList.reverse.toArray.size<=Ca;rw[BZ,C7,B0];exact small hn))
  exact BS ⟨_,rfl,h h' tk' hk⟩
end
end L2.RvT
namespace L2
open PySem PySem.Spec PyProof.Rows
section
variable  {X:Cx}
theorem uN:C2 "tuple" = some (.type "tuple"):=by decide +kernel
def yk (K:BM)(te:TE):TE:=λσ H Q=>te σ H λx H1=>∃l xs,x = .ref l/\SqT K H1 l xs/\xs.length<=1000/\∀p,H1 p=none->Q (.ref p) (upd H1 p (.tup xs.reverse))
theorem mS {e:Expr}{te:TE}{p1 p2 pos1 pos2:Pos}(hh:X.A.handled=none)(hg1:Gl X "tuple")(hm1:X.mg "tuple" = none)(hg2:Gl X "reversed")(hm2:X.mg "reversed" = none)(he:PE X e te)
  (hs1:CO [Expr.Call (.Name "reversed" p2) [e] [] pos2] X.env=(false,eval (.Call (.Name "reversed" p2) [e] [] pos2) X.env) :: CO [] X.env:=by rfl) (hp1:(Fi pos1 (CO [] X.env)).any (·.1)=false:=by rfl)
  (hs2:CO [e] X.env=(false,eval e X.env) :: CO [] X.env:=by rfl) (hp2:(Fi pos2 (CO [] X.env)).any (·.1)=false:=by rfl) :
  PE X (.Call (.Name "tuple" p1) [.Call (.Name "reversed" p2) [e] [] pos2] [] pos1) (yk X.K te):=by
 intro pins s σ H Q I h
 refine DG (fW I hg1 hm1 uN ?_ (by decide) (by decide))
 refine DQ ?_ hs1 hp1
 rw[hs1]
 show Cb _ _ (spliced ((false,eval (.Call (.Name "reversed" p2) [e] [] pos2) X.env) :: Fi pos1 (CO [] X.env))) _ _ s
 refine FI ?_
 refine DG (fW I hg2 hm2 pE ?_ (by decide) (by decide))
 refine DQ (thn ((aa he ag hs2) pos2 pins s σ H (λvs H1=>match vs with | [x]=>∃l xs,x = .ref l/\SqT X.K H1 l xs/\xs.length<=1000/\∀p,H1 p=none->Q (.ref p) (upd H1 p (.tup xs.reverse)) | _=>False) I ?_) λus s1 ⟨vs,H1,I1,r1,q1⟩ =>?_) hs2 hp2
 ·exact h
 ·match vs,q1 with
  | [x],q1 =>
  obtain ⟨t,xs,rfl,hx,h1000,q⟩:=q1
  obtain ⟨u,rfl,ru⟩:=vals1 r1
  cases (show u=Cc t from ru)
  obtain ⟨its,r,ht,hz⟩:=I1.tuple hx
  have ll:=r.length
  have lz:its.toArray.size=xs.length:=by rw[BZ];exact ll.symm
  refine RvT.wo ht (by rw[lz];omega) ?_
  refine Hw ?_
  obtain ⟨ot,hot,_⟩:=id ht
  refine Im Ir (by decide) (HA _) (HJ _) (λobj=>Fo obj _) HK
   (RvT.jQ s1.heap.objs.size t its.toArray (Cp (BW hot)) (by rw[lz];exact h1000)) ⟨by simpa using hh,⟨_,BX _ rfl,rfl,rfl⟩,RvT.pL ht (λo e=>BO _ e),λh' tk k=>⟨⟨_,BX _ rfl,rfl⟩,?_⟩⟩
  have I2:Inv X pins σ H1 { s1 with heap:=h',toks:=tk }:=I1.kept λb o e=>k b o (Cp (BW e)) (BO _ e)
  exact ⟨.ref h'.objs.size,_,I2.laid (o :=.tup xs.reverse) (λb ob q=>BO _ q) (BV _) ⟨by rw[C7];exact small h1000,its.reverse,pF r,dq.new _ _⟩,rfl,q _ (I2.hok.fresh (BV _))⟩
end
open PySem PySem.Spec PyProof.Rows
section
variable  {X:Cx}
end
theorem uO {K:BM}{p:Addr}{ts:List (Addr×V×V)}{k l:Nat}{tc:TT}{te:TE}{τ:St}{H:Hp}{Q:VK}(Pv:Nat->List V->Hp->Prop)(hkl:k≠l)(h0:Pv 0 [] H)(hz:ts.length<=Ca)
  (hl:∀i ys H,i<=ts.length->Pv i ys H->SqT K H p (ts.map λt =>.ref t.1)/\∀t∈ts,SqT K H t.1 [t.2.1,t.2.2])
  (hs:∀i t ys H,ts[i]? = some t->ys.length<=i->Pv i ys H->zf k l tc te τ Pv i t.2.1 t.2.2 ys H)
  (hd:∀ys H,ys.length<=ts.length->Pv ts.length ys H->∀r,H r=none->Q (.ref r) (upd H r (.lst ys))):fL (Itt K p) (sE K k l) tc te τ Q H:=by
 refine ⟨λi m σ ys H=>m=ts.length-i/\i<=ts.length/\(∀a b,(σ.set k (some a)).set l (some b)=(τ.set k (some a)).set l (some b))/\ys.length<=i/\Pv i ys H,⟨ts.length,by simp,CC _,λ_ _=>rfl,BV _,h0⟩,?_⟩
 rintro i m σ ys H ⟨rfl,hi,hτ,hy,pv⟩
 obtain ⟨q,qt⟩:=hl i ys H hi pv
 have ln:(ts.map λt:Addr×V×V=>V.ref t.1).length=ts.length:=BQ _
 by_cases hlt:i<ts.length
 ·have et:ts[i]? = some ts[i]:=Cr hlt
  have em:(ts.map λt:Addr×V×V=>V.ref t.1)[i]? = some (.ref ts[i].1):=by rw[CA,et];rfl
  refine .inr ⟨⟨_,_,q,em⟩,λx H' y =>?_⟩
  obtain ⟨e,y⟩:=y
  subst e
  have ex:=y _ q
  rw[em] at ex
  cases ex
  have st:=qt ts[i] (Fw hlt)
  refine ⟨ts[i].1,_,rfl,st,rfl,_,_,rfl,_,_,rfl,rfl,?_⟩
  rw[hτ]
  have hσ:∀a b,((((τ.set k (some ts[i].2.1)).set l (some ts[i].2.2)).set k (some a)).set l (some b))=(τ.set k (some a)).set l (some b):=λa b=>by
   rw[Km _ _ (DE hkl),FG,FG]
  refine hs i ts[i] ys _ et hy pv _ _ (λy4 H4 p4=>⟨by omega,ts.length-(i+1),by omega,rfl,hlt,hσ,by rw[BU,Df];omega,p4⟩) λH3 p3=>⟨ts.length-(i+1),by omega,rfl,hlt,hσ,by omega,p3⟩
 ·have e:i=ts.length:=by omega
  subst e
  exact .inl ⟨⟨_,q,by rw[ln];exact BV _⟩,by omega,hd ys H hy pv⟩
open PySem PySem.Spec PyProof.Rows
section
variable  {X:Cx}
theorem wq {K:BM}(hu:X.A.units+8<cLine)(hK:X.K=K:=by rfl):OpR X (DZ .NotEq) (λx y H Q=>∃(a b:Addr) (ns ms:List Int),x = .ref a/\y = .ref b/\SqT K H a (ns.map V.int)/\SqT K H b (ms.map V.int)/\Q (.bl (!decide (ns=ms))) H):=by
 subst hK
 intro pins s σ H x y v u Q I rx ry h
 obtain ⟨a,b,ns,ms,rfl,rfl,h1,h2,q⟩:=h
 cases (show v=Cc a from rx)
 cases (show u=Cc b from ry)
 obtain ⟨its,r1,p1,_⟩:=I.tuple h1
 obtain ⟨its2,r2,p2,_⟩:=I.tuple h2
 have l1:=r1.length
 have l2:=r2.length
 rw[BQ] at l1 l2
 have hu1:X.A.units<cLine:=by omega
 have R:=SeqAt.RcNeAt.tuples (A:=X.A) (e:=sW ns ms) (show s.heap.IsTuple a its.toArray from p1) (show s.heap.IsTuple b its2.toArray from p2) hu1 (by
  intro j h1 h2
  obtain ⟨t1,g1⟩:=v8 r1 h1
  obtain ⟨t2,g2⟩:=v8 r2 h2
  rw[g1,g2]
  exact FL _ t1 _ t2)
 rw[BZ,BZ, <- l1, <- l2,uA] at R
 exact R _ _ _ _ ⟨.bl _,H,I,rfl,q⟩
end
end L2
namespace Srt
open PySem PyProof.Rows
section
variable  {prog:B7}{w:CJ}{A:CK}{E:BP->BR->Prop}{s:BR}{O:GR}{key:BP->O.α}
theorem pM {v:BP}{vs:List BP}{Q:BP->BR->Prop}(hv:iu prog w s v vs)(hz:vs.length<=Ca)
  (C:2<=vs.length->∀(B:CK) (h6:Heap),B.units<=A.units+6->(∀b o,s.heap.get? b=some o->h6.get? b=some o)->∃κ,(∀(Q:SortKind->BR->Prop) (E:BP->BR->Prop),Q κ { s with heap:=h6 }->Cb (Cn prog w) B (keyKind' vs.toArray) Q E { s with heap:=h6 }) ∧
  Cmp prog w B { s with heap:=h6 } O (λp=>key p.1) (λp=>p.1=p.2/\p.1∈vs) κ)
  (h:∀(h':Heap) (p:Addr) (out:List BP) (n:Nat),(∀b o,s.heap.get? b=some o->h'.get? b=some o)->s.heap.objs.size<=p->h'.get? p=some (seqObj "list" out.toArray n)->out.Perm vs->out.Pairwise (λx y=>O.kle (key x) (key y))->Q (.ref p) { s with heap:=h' }) :
  Cb (Cn prog w) A (call (.builtin "sorted") [v]) Q E s:=by
 refine Hm JR Jt Ju (args_sorted1 _) ?_
 unfold Builtin.«sorted»
 refine BN (m:=checkCount "sorted" 1 1 _) (BS ?_)
 refine BN (hv _ _ _ λh1 k1 z1=>BN (FV ?_ hz))
 have hoL:(h1.push (seqObj "list" vs.toArray 0)).get? h1.objs.size=some (seqObj "list" vs.toArray 0):=BX _ rfl
 have kL:∀b o,s.heap.get? b=some o->(h1.push (seqObj "list" vs.toArray 0)).get? b=some o:=λb o e=>BO _ (k1 b o e)
 refine BN (Dv (C8 slot_list_sort ⟨_,hoL,rfl⟩ entry_list_sort (gO (key:=key) (O:=O) hoL hz (λh2 h6 k6 =>?_) λout pm ps=>⟨_,rfl,?_⟩) (args_list_sort _)))
 ·refine C h2 _ h6 ?_ λb o e=>k6 b o (Cp (B8 (BW e) z1)) (kL b o e)
  simp only[Around.in1_units]
  omega
 ·obtain ⟨n,en⟩:=sortedHeap_at (out:=out.toArray) hoL
  refine BS ⟨_,rfl,h _ _ out n (λb o e =>?_) z1 en pm ps⟩
  have lt:=B8 (BW e) z1
  rw[sortedHeap_old (Cp lt) (by rw[Jn];exact Em lt)]
  exact kL b o e
end
def IsPair (h:Heap)(v:BP)(k:List Int×List Int):Prop:=∃p o xs n a b,v = .ref p/\h.get? p=some o/\o.cls = .type "tuple" /\ o.data = .seq xs n/\xs.toList=[.ref a,.ref b]/\cI h (.ref a) k.1/\cI h (.ref b) k.2
theorem cI.isTup {h:Heap}{a:Addr}{ns:List Int}(x:cI h (.ref a) ns):∃its:Array BP,IsTup h a its/\D5 its.toList ns:=by
 obtain ⟨p,o,xs,n,e,g,c,d,r⟩:=x
 cases e
 exact ⟨xs,⟨o,g,c,n,d⟩,r⟩
theorem mT {A:CK}{s:BR}{a b:Addr}{ns ms:List Int}(hu:A.units<cLine)(x:cI s.heap (.ref a) ns)(y:cI s.heap (.ref b) ms):GH A s (.ref a) (.ref b) (decide (ns=ms)):=by
 obtain ⟨p,o,xs,n,e,g,c,d,r⟩:=x
 cases e
 obtain ⟨p',o',xs',n',e',g',c',d',r'⟩:=y
 cases e'
 exact λprog w E Q q=>wpAny_eqBool_tuple (knd:=intKind prog w) hu ⟨o,_,n,g,c,d,L2.iX r⟩ ⟨o',_,n',g',c',d',L2.iX r'⟩ q
section
variable  {prog:B7}{w:CJ}{s:BR}
end
end Srt
namespace L2
open PySem PySem.Spec PyProof.Rows
section
variable  {X:Cx}
end
open PySem PySem.Spec PyProof.Rows
theorem mU {α β:Type}{f:α -> Option β}{g:α -> β}:∀{l:List α},(∀k∈l,f k=some (g k))->l.filterMap f=l.map g
 | [],_=>rfl
 | x :: l,h=>by
  rw[Dw,h x B1,Ci,mU λk hk=>h k (B9 _ hk)]
end L2
namespace HT
open PySem PyProof.Rows
section
variable  {prog:B7}{w:CJ}{A:CK}{E:BP->BR->Prop}{s:BR}
theorem qY (n:Nat):Builtin.Slice.sliceAdjust none none (-1) (n:Int)=((n:Int)-1, -1):=by
 unfold Builtin.Slice.sliceAdjust
 simp
theorem qZ (n:Nat):Builtin.Slice.slicePlaces ((n:Int)-1) (-1) (-1)=n:=by
 unfold Builtin.Slice.slicePlaces
 simp
 omega
theorem iZ {sl:Addr}{t:Tok}{n:Nat}{Q:Int×Int×Nat->BR->Prop}(hs:s.heap.IsSliceOf sl .none .none (.int (-1) t))
  (h:Q ((n:Int)-1, -1,n) s):Cb (Cn prog w) A (Builtin.Slice.sliceApplied (.ref sl) (pure (n:Int))) Q E s:=by
 obtain ⟨os,hos,hcs,hds⟩:=id hs
 unfold Builtin.Slice.sliceApplied Builtin.Slice.sliceFields
 refine BN (BN (De hos hds (x :=.none) rfl (BN (De hos hds (x :=.none) rfl (BN (De hos hds (x :=.int (-1) t) rfl (BS ?_)))))))
 refine BN (slicePart_int ?_)
 show Cb _ _ (if ((-1:Int) == 0)=true then _ else _) _ _ s
 rw[if_neg (by decide)]
 refine BN (Ht (BN (Ht (BN (BS ?_)))))
 show Cb _ _ (match Builtin.Slice.sliceAdjust none none (-1) (n:Int) with | (lo,hi)=>pure (lo,(-1:Int),Builtin.Slice.slicePlaces lo hi (-1))) _ _ s
 rw[qY n]
 show Cb _ _ (pure ((n:Int)-1,(-1:Int),Builtin.Slice.slicePlaces ((n:Int)-1) (-1) (-1))) _ _ s
 rw[qZ]
 exact BS h
theorem Bn (xs:List BP):((Dh xs.length).filterMap λ(m:Nat)=>xs.toArray[(((xs.length:Int)-1)+(m:Int)*(-1)).toNat]?).toArray=xs.reverse.toArray:=by
 congr 1
 have h1:∀k∈Dh xs.length,xs.toArray[(((xs.length:Int)-1)+(k:Int)*(-1)).toNat]? = some (xs.reverse.getD k .none):=λk hk=>by
  have hk':=El.mp hk
  have:(((xs.length:Int)-1)+(k:Int)*(-1)).toNat=xs.length-1-k:=by omega
  rw[this,DM,CN,Ih hk',Cr (show xs.length-1-k<xs.length by omega)]
  rfl
 rw[L2.mU h1]
 apply JC
 ·rw[BQ,F7,C7]
 ·intro n h2 h3
  rw[List.getElem_map,List.getElem_range,CN,Cr h3]
  rfl
theorem iA {t sl:Addr}{its:List BP}{tk:Tok}{Q:BP->BR->Prop}(ht:IsTup s.heap t its.toArray)(hs:s.heap.IsSliceOf sl .none .none (.int (-1) tk))
  (h:Q (.ref s.heap.objs.size) { s with heap:=s.heap.push { cls :=.type "tuple",data :=.seq its.reverse.toArray } })
  (hsz:its.length<=Ca):Cb (Cn prog w) A (getItem (.ref t) (.ref sl)) Q E s:=by
 have htake:sizeOk (.seq its.reverse.toArray):=by
  show its.reverse.toArray.size<=Ca
  rw[BZ,C7];exact hsz
 obtain ⟨os,hos,hcs,hds⟩:=id hs
 have hTs:s.TypeIs (.ref sl) "slice" :=⟨os,hos,hcs⟩
 unfold getItem
 try with_reducible refine Dv ?_
 first | refine BN (BS ?_) | skip
 refine BN (HE ht.typeIs (by decide) ?_)
 refine BN (C4 (name:=Str.ofString "__getitem__") ht.typeIs CB
  (C8 CB ht.typeIs entry_tuple_getitem ?_ (Hf _ _)))
 show Cb _ _ (Builtin.Tuple.tupleItemsOf (.ref t) >>= _) _ _ s
 refine BN (Jb ht ?_)
 refine BN (EO hTs ?_)
 rw[if_pos (by decide)]
 refine BN (iZ hs ?_)
 have hno:¬ (((((its.toArray.size:Nat):Int)-1) == 0 && (-1:Int) == 1 && its.toArray.size == its.toArray.size)=true):=by
  intro q
  rw[CQ,CQ] at q
  have:=q.1.2
  revert this
  decide
 show Cb _ _ (if ((((its.toArray.size:Nat):Int)-1) == 0 && (-1:Int) == 1 && its.toArray.size == its.toArray.size)=true then _ else _) _ _ s
 rw[if_neg hno,BZ,Bn]
 first
  | exact BN (m:=Builtin.Tuple.tupleExact _) (CM (BS ⟨_,rfl,BS h⟩) htake)
  | exact BN (m:=Builtin.Tuple.tupleExact _) (CM (BN (BS (BS ⟨_,rfl,BS h⟩))) htake)
  | exact BN (BN (m:=Builtin.Tuple.tupleExact _) (CM (BS (BS ⟨_,rfl,BS h⟩)) htake))
  | exact BN (BN (m:=Builtin.Tuple.tupleExact _) (CM (BS ⟨_,rfl,BS h⟩) htake))
end
end HT
namespace L2
open PySem PySem.Spec PyProof.Rows
def Bo (K:BM)(te:TE):TE:=λσ H Q=>te σ H λx H1=>∃a xs,x = .ref a/\SqT K H1 a xs/\∀p,H1 p=none->Q (.ref p) (upd H1 p (.tup xs.reverse))
theorem oh {X:Cx}{e:Expr}{te:TE}{j:Nat}{p1 p2 p3 pos:Pos}(he:PE X e te):PE X (.Subscript e (.Slice none none (some (.UnaryOp .USub (.Constant (.int 1) j p1) p3)) p2) pos) (Bo X.K te):=by
 intro pins s σ H Q I h
 refine Subscript_ (thn (he pins s σ H _ I h) λv s1 ⟨x,H1,I1,r1,q1⟩ =>?_)
 obtain ⟨a,xs,rfl,hx,q⟩:=q1
 cases r1
 refine wpAny_Slice ?_
 rw[Jc]
 refine BS (BS ?_)
 rw[evalPart_some]
 have un:PE X (.UnaryOp .USub (.Constant (.int 1) j p1) p3) _:=ze vx ai
 refine thn (un pins s1 σ H1 (λy H'=>y = .int (-1)/\H'=H1) I1 ⟨1,rfl,rfl,rfl⟩) λu s2 ⟨y,H2,I2,r2,ey,eH⟩ =>?_
 subst ey eH
 obtain ⟨t,rfl⟩:=r2
 have I4:Inv X pins σ H2 { s2 with heap:=s2.heap.push { cls :=.type "slice",data :=.fields #[.none,.none,.int (-1) t] } }:=I2.kept (t':=s2.toks) λb ob q=>BO _ q
 obtain ⟨its,r,ht,hz⟩:=I4.tuple hx
 have hlen:=r.length
 show Cb (Cn X.prog X.w) X.A (subscriptTail e (.Slice none none (some (.UnaryOp .USub (.Constant (.int 1) j p1) p3)) p2) (.ref a) (.ref s2.heap.objs.size)) (EP X pins σ Q) X.xe { s2 with heap:=s2.heap.push { cls :=.type "slice",data :=.fields #[.none,.none,.int (-1) t] } }
 refine tail_any (ops:=[.ref a,.ref s2.heap.objs.size]) ht.typeIs CB.lookup ?_ (by with_unfolding_all rfl)
 refine HT.iA ht (IV ..) ?_ (by omega)
 refine ⟨.ref _,_,I4.laid (t':=s2.toks) (o :=.tup xs.reverse) (λb ob q=>BO _ q) (BV _) ?_,rfl,q _ (I4.hok.fresh (BV _))⟩
 exact ⟨by rw[C7];exact hz,_,Vals.reverse r,dq.new _ _⟩
end L2
namespace L2.MnT
open PySem PyProof.Rows
section
variable  {prog:B7}{w:CJ}{A:CK}{E:BP->BR->Prop}{I:Addr}{fp wr:List Addr}{n:Nat}{P:Nat->BP->Prop}{St:Nat->Heap->Prop}
def Cmp (prog:B7)(w:CJ)(A:CK)(P:Nat->BP->Prop)(St:Nat->Heap->Prop)(bt:Nat->Nat->Bool):Prop :=
 ∀k i j x y (s:BR) (Q E:BP->BR->Prop),St k s.heap->P i x->P j y->Q (.bool (bt i j)) s->Cb (Cn prog w) A (richCompare .Lt x y) Q E s
abbrev Bag (S:Addr)(xs:Array BP)(c:Nat)(h:Heap):Prop:=h.get? S=some { cls :=.type "list",dict:=none,data :=.seq xs c,slots := #[] }
abbrev Kept (wr:List Addr)(S:Addr)(h h':Heap):Prop:=∀b o,b∉wr->b≠S->h.get? b=some o->h'.get? b=some o
theorem loop {R:Result->BR->Prop}(W:Walks prog w A.in1 I fp wr n P St){bt:Nat->Nat->Bool}(C:Cmp prog w A.in1 P St bt){S:Addr}(nS:S∉fp):∀(d j:Nat) (s:BR) (best:BP) (c:Nat),n=j+1+d->St (j+1) s.heap->P (argBest bt j) best->Bag S #[best,best] c s.heap →
  (∀v h' tk,P (argBest bt (n-1)) v->Kept wr S s.heap h'->R (.ok (.ret v)) { s with heap:=h',toks:=tk })->Hv (Cn prog w) A (.builtin "min.loop" ⟨[.ref I,.none,.ref S],[]⟩) R s:=by
 have nw:S∉wr:=λh=>nS (W.sub _ h)
 have nm:(toString "min" ++ toString ".loop" : String) = "min.loop" := by decide
 intro d
 induction d with
 | zero =>
  intro j s best c hn st pb bg hR
  have e:j+1=n:=by omega
  rw[e] at st
  refine DY FZ ?_
  rw[D1 DH _]
  show Cb _ _ (seqItems? (.ref S) >>= _) _ _ s
  refine BN (DP bg rfl ?_)
  show Cb _ _ (tryCatch (pyNext (.ref I)) _ >>= _) _ _ s
  refine BN (Hu (W.done s _ _ st λh1 tk kp =>?_))
  show Cb _ _ (updateSeq S (λ_ => #[]) >>= _) _ _ _
  refine BN ?_
  refine FW (kp S _ nw bg) rfl (BN (FE (BS (hR best _ tk (by rw[<- e];exact pb) ?_))))
  exact λb o nb ns eb=>(CV _ _ (DE ns)).trans (kp b o nb eb)
 | succ d ih =>
  intro j s best c hn st pb bg hR
  refine DY FZ ?_
  rw[D1 DH _]
  show Cb _ _ (seqItems? (.ref S) >>= _) _ _ s
  refine BN (DP bg rfl ?_)
  show Cb _ _ (tryCatch (pyNext (.ref I)) _ >>= _) _ _ s
  refine BN (Hu (W.item (j+1) s _ _ (by omega) st λv h1 tk pv st1 kp =>?_))
  have bg1:=kp S _ nw bg
  show Cb _ _ (tryCatch (JT [v,v] (richCompare .Lt v best >>= _)) _ >>= _) _ _ _
  refine BN (Hu (Dv (BN (C (j+1+1) (j+1) (argBest bt j) v best _ _ _ st1 pv pb ?_))))
  refine BN (Dv (DC ?_))
  refine BN (FE (BS ?_))
  by_cases hb:bt (j+1) (argBest bt j)=true
  ·have ea:argBest bt (j+1)=j+1:=by simp only[argBest,hb,if_true]
   rw[hb]
   simp only[if_true]
   refine BN ?_
   refine FW bg1 rfl (BN (FE ?_))
   rw[nm]
   refine BS ⟨EW DH _,ih (j+1) _ v _ (by omega) (W.frame _ _ _ st1 λb fb o eb =>?_) (by rw[ea];exact pv) (C6 _ bg1 rfl) λv2 h2 tk2 p2 k2=>hR v2 h2 tk2 p2 λb o nb ns eb=>k2 b o nb ns ?_⟩
   ·exact (CV _ _ (λz:S=b=>nS (z ▸ fb))).trans eb
   ·exact (CV _ _ (DE ns)).trans (kp b o nb eb)
  ·have ea:argBest bt (j+1)=argBest bt j:=by simp only[argBest,hb];rfl
   rw[D3.mpr hb]
   simp only[Dl,if_false]
   refine BN (FE ?_)
   rw[nm]
   exact BS ⟨EW DH _,ih (j+1) _ best c (by omega) st1 (by rw[ea];exact pb) bg1 λv2 h2 tk2 p2 k2=>hR v2 h2 tk2 p2 λb o nb ns eb=>k2 b o nb ns (kp b o nb eb)⟩
theorem first {R:Result->BR->Prop}(W:Walks prog w A.in1 I fp wr n P St){bt:Nat->Nat->Bool}(C:Cmp prog w A.in1 P St bt){S:Addr}(nS:S∉fp)(hn:0<n){s:BR}{c:Nat}(st:St 0 s.heap)(bg:Bag S #[] c s.heap)
  (hR:∀v h' tk,P (argBest bt (n-1)) v->Kept wr S s.heap h'->R (.ok (.ret v)) { s with heap:=h',toks:=tk }):Hv (Cn prog w) A (.builtin "min.loop" ⟨[.ref I,.none,.ref S],[]⟩) R s:=by
 have nw:S∉wr:=λh=>nS (W.sub _ h)
 have nm:(toString "min" ++ toString ".loop" : String) = "min.loop" := by decide
 refine DY FZ ?_
 rw[D1 DH _]
 show Cb _ _ (seqItems? (.ref S) >>= _) _ _ s
 refine BN (DP bg rfl ?_)
 show Cb _ _ (tryCatch (pyNext (.ref I)) _ >>= _) _ _ s
 refine BN (Hu (W.item 0 s _ _ hn st λv h1 tk pv st1 kp =>?_))
 have bg1:=kp S _ nw bg
 show Cb _ _ (updateSeq S (λ_ => #[v,v]) >>= _) _ _ _
 refine BN ?_
 refine FW bg1 rfl ?_
 rw[nm]
 refine BS ⟨EW DH _,loop W C nS (n-1) 0 _ v _ (by omega) (W.frame _ _ _ st1 λb fb o eb =>?_) pv (C6 _ bg1 rfl) λv2 h2 tk2 p2 k2=>hR v2 h2 tk2 p2 λb o nb ns eb=>k2 b o nb ns ?_⟩
 ·exact (CV _ _ (λz:S=b=>nS (z ▸ fb))).trans eb
 ·exact (CV _ _ (DE ns)).trans (kp b o nb eb)
def Goes (prog:B7)(w:CJ)(A:CK)(Q:BP->BR->Prop)(it:BP)(s:BR):Prop:=∃I fp wr n P St bt,it = .ref I/\Walks prog w A.in1 I fp wr n P St/\St 0 s.heap/\(∀b∈fp,b<s.heap.objs.size)/\0<n/\Cmp prog w A.in1 P St bt ∧
 ∀v h' tk,P (argBest bt (n-1)) v->(∀b o,b∉wr->s.heap.get? b=some o->h'.get? b=some o)->Q v { s with heap:=h',toks:=tk }
theorem call2 {s:BR}{a b:BP}{Q:BP->BR->Prop}(h:Cb (Cn prog w) A.in1 (pyIter (.ref s.heap.objs.size)) (Goes prog w A Q) E { s with heap:=s.heap.push { cls :=.type "tuple",data :=.seq #[a,b] } }):Cb (Cn prog w) A (call (.builtin "min") [a,b]) Q E s:=by
 have nm:(toString "min" ++ toString ".loop" : String) = "min.loop" := by decide
 refine call_function_tree PySem.F.kind_min PySem.F.plain_min PySem.F.entry_min (PySem.F.args_min2 _ _) ?_
 show Cb _ _ (Builtin.Builtins.bindParams "min" ["key", "default"] 0 ⟨[],[]⟩ >>= _) _ _ s
 refine BN (Ew (a:=[none,none]) rfl ?_)
 show Cb _ _ (newTuple [a,b] >>= _) _ _ s
 refine BN (CM ?_)
 refine BN (C5 h (λit s2 g =>?_) λ_ _ e=>e)
 obtain ⟨I,fp,wr,n,P,St,bt,rfl,W,st,hf,hn,C,hq⟩:=g
 refine BN (CM ?_)
 rw[nm]
 refine BS ⟨EW DH _,first W C (S:=s2.heap.objs.size) (λhm=>Dc _ (hf _ hm)) hn (W.frame _ _ _ st λb _ o e=>BO _ e) (BX _ rfl) λv h' tk pv kp =>?_⟩
 exact hq v h' tk pv λb o nb e=>kp b o nb (Cp (BW e)) (BO _ e)
def TI (h:Heap)(t:Addr×List Int):Prop:=∃its:Array BP,IsTup h t.1 its/\D5 its.toList t.2
theorem TI.at {h h':Heap}{t:Addr×List Int}(x:TI h t)(e:∀o,h.get? t.1=some o->h'.get? t.1=some o):TI h' t:=let ⟨its,⟨o,ho,r⟩,y⟩:=x;⟨its,⟨o,e o ho,r⟩,y⟩
theorem more (W:Walks prog w A I fp wr n P St)(ts:List (Addr×List Int))(nw:∀t∈ts,t.1∉wr):Walks prog w A I (fp++ts.map (·.1)) wr n P (λi h=>St i h/\∀t∈ts,TI h t) where
 sub:=λb hb=>B5.mpr (.inl (W.sub b hb))
 frame:=λi h h' x hk=>⟨W.frame i h h' x.1 λb hb o e=>hk b (B5.mpr (.inl hb)) o e,λt ht=>(x.2 t ht).at (hk t.1 (B5.mpr (.inr (FA (f:=(·.1)) ht))))⟩
 item:=λi s Q E hi x hQ=>W.item i s Q E hi x.1 λv h' tk pv st' kp=>hQ v h' tk pv ⟨st',λt ht=>(x.2 t ht).at λo=>kp t.1 o (nw t ht)⟩ kp
 done:=λs Q E x hQ=>W.done s Q E x.1 hQ
 self:=λi s Q E x hQ=>W.self i s Q E x.1 hQ
theorem cmp (ts:List (Addr×List Int))(hu:A.units<cLine)(hP:∀i v,P i v->∃t,ts[i]? = some t/\v = .ref t.1):Cmp prog w A P (λi h=>St i h/\∀t∈ts,TI h t) (λi j=>HT.lexLt (ts.getD i (0,[])).2 (ts.getD j (0,[])).2):=by
 intro k i j x y s Q E st hx hy h
 obtain ⟨t,et,rfl⟩:=hP i x hx
 obtain ⟨u,eu,rfl⟩:=hP j y hy
 obtain ⟨i1,p1,a1⟩:=st.2 t (Cy et)
 obtain ⟨i2,p2,a2⟩:=st.2 u (Cy eu)
 dsimp only at h
 rw[CN,CN,et,eu] at h
 exact HT.kG p1 p2 a1 a2 hu h
theorem best (g:Nat->List Int):∀k,(argBest (λi j=>HT.lexLt (g i) (g j)) k<=k)/\∀j,j<=k->HT.lexLt (g j) (g (argBest (λi j=>HT.lexLt (g i) (g j)) k))=false
 | 0=>⟨BV _,λj hj=>by rw[Nat.le_zero.mp hj];exact Srt.lex_irrefl _⟩
 | k+1=>by
  obtain ⟨l,ih⟩:=best g k
  by_cases hb:HT.lexLt (g (k+1)) (g (argBest (λi j=>HT.lexLt (g i) (g j)) k))=true
  ·have ea:argBest (λi j=>HT.lexLt (g i) (g j)) (k+1)=k+1:=by simp only[argBest,hb,if_true]
   rw[ea]
   refine ⟨BV _,λj hj =>?_⟩
   by_cases e:j=k+1
   ·rw[e];exact Srt.lex_irrefl _
   ·refine D3.mpr λz =>?_
    have:=ih j (by omega)
    rw[Srt.lex_trans _ _ _ z hb] at this
    cases this
  ·have ea:argBest (λi j=>HT.lexLt (g i) (g j)) (k+1)=argBest (λi j=>HT.lexLt (g i) (g j)) k:=by simp only[argBest,hb];rfl
   rw[ea]
   refine ⟨by omega,λj hj =>?_⟩
   by_cases e:j=k+1
   ·rw[e];exact D3.mpr hb
   ·exact ih j (by omega)
end
end L2.MnT
namespace L2
open PySem PySem.Spec PyProof.Rows
section
variable  {X:Cx}
theorem kT (hc:X.calm=true)(hu:X.A.units+8<cLine):cM X (.builtin "min") (λxs H Q=>∃(a b:Addr) (ns ms:List Int),xs=[.ref a,.ref b]/\SqT X.K H a (ns.map V.int)/\SqT X.K H b (ms.map V.int)/\(HT.lexLt ms ns=true->Q (.ref b) H)/\(HT.lexLt ms ns=false->Q (.ref a) H)):=by
 intro pins s σ H xs us Q I r h
 obtain ⟨a,b,ns,ms,rfl,ha,hb,q1,q2⟩:=h
 obtain ⟨u,v,rfl,ru,rv⟩:=vals2 r
 cases (show u=Cc a from ru)
 cases (show v=Cc b from rv)
 have TIs:∀t∈[(a,ns),(b,ms)],MnT.TI s.heap t:=λt ht=>by
  rcases Cw.mp ht with rfl | ht
  ·obtain ⟨i2,r2,p2,_⟩:=I.tuple ha
   exact ⟨_,p2,intsAre_of r2⟩
  ·rw[Ck.mp ht]
   obtain ⟨i2,r2,p2,_⟩:=I.tuple hb
   exact ⟨_,p2,intsAre_of r2⟩
 have hlt:∀t∈[(a,ns),(b,ms)],t.1<s.heap.objs.size:=λt ht=>by
  obtain ⟨_,⟨o,ho,_⟩,_⟩:=TIs t ht
  exact BW ho
 have hT:(s.heap.push { cls :=.type "tuple",data :=.seq #[.ref a,.ref b] }).IsTuple s.heap.objs.size #[.ref a,.ref b]:=⟨_,BX _ rfl,rfl,0,rfl⟩
 have hz:(s.heap.push { cls :=.type "tuple",data :=.seq #[.ref a,.ref b] }).objs.size=s.heap.objs.size+1:=EF ..
 have at_:∀(i:Nat) (v:BP),(#[.ref a,.ref b]:Array BP)[i]? = some v->∃t:Addr×List Int,[(a,ns),(b,ms)][i]? = some t/\v=Cc t.1:=λi v hv=>by
  match i,hv with
  | 0,hv=>exact ⟨_,rfl,(Cv hv).symm⟩
  | 1,hv=>exact ⟨_,rfl,(Cv hv).symm⟩
  | i+2,hv=>simp at hv
 refine MnT.call2 (Hd hT ?_)
 refine ⟨_,_,_,_,_,_,_,rfl,MnT.more (Walks.tuple (A:=X.A.in1) (I.ok.hd hc) _ s.heap.objs.size (by rw[hz];exact Cp (Gi _)) #[.ref a,.ref b]) [(a,ns),(b,ms)] (λt ht hm =>?_),⟨⟨⟨_,BX _ rfl,rfl,rfl⟩,hT.push _⟩,λt ht=>(TIs t ht).at λo e=>BO _ (BO _ e)⟩,λc hc' =>?_,Nat.zero_lt_two,MnT.cmp [(a,ns),(b,ms)] ?_ at_,λv h' tk pv kp =>?_⟩
 ·have:=hlt t ht
  rw[Ck.mp hm,hz] at this
  exact Dc _ (Fl this)
 ·show c<((s.heap.push _).push _).objs.size
  rw[EF,hz]
  rcases B5.mp hc' with hc' | hc'
  ·rcases Cw.mp hc' with rfl | hc'
   ·rw[hz];exact Gi _
   ·rw[Ck.mp hc'];exact Em (Gi _)
  ·obtain ⟨t,ht,rfl⟩:=Ce.mp hc'
   exact Em (Em (hlt t ht))
 ·show X.A.units+_<cLine
  omega
 ·have kept:∀b o,s.heap.get? b=some o->h'.get? b=some o:=λb o e=>kp b o (λhm=>by
   have:=BW e
   rw[Ck.mp hm,hz] at this
   exact Dc _ (Fl this)) (BO _ (BO _ e))
  by_cases z:HT.lexLt ms ns=true
  ·have e:argBest (λi j=>HT.lexLt ([(a,ns),(b,ms)].getD i (0,[])).2 ([(a,ns),(b,ms)].getD j (0,[])).2) 1=1:=by
    show (if HT.lexLt ms ns=true then 1 else 0)=1
    rw[if_pos z]
   rw[show (#[Cc a,Cc b]:Array BP).size-1=1 from rfl,e] at pv
   have pv:=(Cv pv).symm
   exact ⟨.ref b,H,I.kept kept,pv,q1 z⟩
  ·have e:argBest (λi j=>HT.lexLt ([(a,ns),(b,ms)].getD i (0,[])).2 ([(a,ns),(b,ms)].getD j (0,[])).2) 1=0:=by
    show (if HT.lexLt ms ns=true then 1 else 0)=0
    rw[if_neg z]
   rw[show (#[Cc a,Cc b]:Array BP).size-1=1 from rfl,e] at pv
   have pv:=(Cv pv).symm
   exact ⟨.ref a,H,I.kept kept,pv,q2 (D3.mpr z)⟩
end
open PySem PySem.Spec PySem.W PyProof.Rows
theorem bo.ex {P:B7}{w:CJ}{H:Hp}{h:Heap}{a:Addr}{o:HO}(x:bo P w H h a o):∃u,h.get? a=some u:=by
 cases o with
 | lst xs=>obtain ⟨_,_,_,_,e⟩:=x;exact ⟨_,e⟩
 | tup xs=>obtain ⟨_,_,_,_,e,_⟩:=x;exact ⟨_,e⟩
 | dK kvs=>obtain ⟨_,_,_,_,o,_,_,e,_⟩:=x;exact ⟨_,e⟩
 | dT kvs=>obtain ⟨_,_,_,_,o,_,_,e,_⟩:=x;exact ⟨_,e⟩
 | set S n=>obtain ⟨o,_,_,_,e,_⟩:=x;exact ⟨_,e⟩
 | ins C dx fs=>obtain ⟨_,_,_,e,_⟩:=x;exact ⟨_,e⟩
 | own y=>obtain ⟨_,e⟩:=x;exact ⟨_,e⟩
 | xd fs=>obtain ⟨_,⟨_,_,_,e,_⟩,_⟩:=x;exact ⟨_,e⟩
 | rng lo hi=>obtain ⟨_,_,_,e⟩:=x;exact ⟨_,e⟩
 | frz ob u=>obtain ⟨e,_⟩:=x;exact ⟨_,e⟩
 | tbl ps=>obtain ⟨_,e,_⟩:=x;exact ⟨_,e⟩
 | met f y=>exact ⟨_,show h.get? a=some _ from x⟩
 | ext φ=>obtain ⟨_,⟨_,e⟩,_⟩:=x;exact ⟨_,e⟩
theorem HOk.noth {P:B7}{w:CJ}{H:Hp}{h:Heap}{a:Addr}(x:HOk P w H h)(e:h.get? a=none):H a=none:=by
 cases q:H a with
 | none=>rfl
 | some o =>
  obtain ⟨u,z⟩:=(x a o q).ex
  rw[e] at z;cases z
theorem HOk.hide {P:B7}{w:CJ}{H:Hp}{h:Heap}{l:List Addr}(x:HOk P w H h)(n:∀b∈l,H b=none):HOk P w H (hideAll h l):=λa o e =>
 (x a o e).fV (λb u hb q=>HP _ q λm=>by
  have z:=n b m
  rcases hb with rfl | hb
  ·rw[e] at z;cases z
  ·rw[hb] at z;cases z) (λ_ q=>q) λ_ _ q=>q
structure Fly (P:B7)(w:CJ)(outer:List Env)(H H':Hp)(h:Heap)(B:Heap)(ea:Addr)(cls a0:BP)(h':Heap):Prop where
 fl:Heap.FlyingW B outer ea cls a0 h'
 un:Un (frs outer) [] H H' h h'
 ok:HOk P w H' B
 cov:∀b o,h.get? b=some o->H b=none->b∉frs outer->B.get? b=some o
 all:∀b o,h.get? b=some o->b∉frs outer->∃u,B.get? b=some u
section
variable  {P:B7}{w:CJ}{outer:List Env}{H H':Hp}{h B h' h2:Heap}{ea:Addr}{cls a0:BP}
theorem Fly.no (F:Fly P w outer H H' h B ea cls a0 h'):H' ea=none:=F.ok.noth F.fl.2.1
theorem Fly.hok (F:Fly P w outer H H' h B ea cls a0 h'):HOk P w H' h':=F.ok.kept F.fl.1
theorem Fly.new (F:Fly P w outer H H' h B ea cls a0 h'):h.get? ea=none:=by
 cases q:h.get? ea with
 | none=>rfl
 | some o =>
  by_cases m:ea∈frs outer
  ·obtain ⟨_,o',ho',hd⟩:=F.fl.2.2.1.mem m
   obtain ⟨oe,vs,he,_,hde,_⟩:=F.fl.first
   rw[he] at ho';cases ho'
   exact absurd hde (hd vs)
  ·obtain ⟨u,z⟩:=F.all ea o q m
   rw[F.fl.2.1] at z;cases z
theorem Fly.step {l:List Env}(F:Fly P w outer H H' h B ea cls a0 h')(f2:Heap.FlyingW B l ea cls a0 h2)(hs:∀b∈frs outer,∀o,h'.get? b=some o->∃sl,h2.get? b=some { o with slots:=sl }):Un (frs outer) [] H H' h h2 where
 keep:=λb o q n m _=>f2.1 _ _ (F.cov b o q n m)
 slot:=λb o q n m x=>by
  obtain ⟨sl,e⟩:=F.un.slot b o q n m x
  obtain ⟨sl',e'⟩:=hs b m _ e
  exact ⟨sl',e'⟩
 free:=F.un.free
 there:=λb o q x=>by
  by_cases m:b∈frs outer
  ·obtain ⟨o',e⟩:=F.un.there b o q x
   obtain ⟨sl',e'⟩:=hs b m _ e
   exact ⟨_,e'⟩
  ·obtain ⟨u,e⟩:=F.all b o q m
   exact ⟨u,f2.1 _ _ e⟩
 tups:=F.un.tups
 frzs:=F.un.frzs
 tbls:=F.un.tbls
theorem Fly.slots (F:Fly P w outer H H' h B ea cls a0 h')(k:h'.UpToSlots h2):∀b∈frs outer,∀o,h'.get? b=some o->∃sl,h2.get? b=some { o with slots:=sl }:=λb m o e=>by
 obtain ⟨_,o',ho',hd⟩:=F.fl.2.2.1.mem m
 rw[e] at ho';cases ho'
 exact k b o e hd
theorem Fly.on (F:Fly P w outer H H' h B ea cls a0 h')(f2:Heap.FlyingW B outer ea cls a0 h2)(k:h'.UpToSlots h2):Fly P w outer H H' h B ea cls a0 h2 :=
 ⟨f2,F.step f2 (F.slots k),F.ok,F.cov,F.all⟩
end
section
variable  {X:Cx}{pins:List (Addr×Obj)}{σ:St}{H H':Hp}{s:BR}{B h':Heap}{ea:Addr}{cls a0:BP}
theorem Inv.land {s':BR}(I:Inv X pins σ H s)(os:s'.os=s.os)(g:AllBare s'.gens)(F:Fly X.prog X.w X.stack H H' s.heap B ea cls a0 s'.heap):Inv X pins σ H' s' :=
 I.vm os F.un F.hok g (λb z=>absurd z (by simp))
theorem Fly.out (I:Inv X pins σ H s)(hst:X.stack=X.env :: X.outer)(hfr:X.env.frame=some X.env.locals)(hex:X.ex=[])(F:Fly X.prog X.w X.stack H H' s.heap B ea cls a0 h')(f2:Heap.FlyingW B X.outer ea cls a0 h2)(k:h'.UpToSlots h2) :
  Fly X.prog X.w X.outer X.H₀ H' X.s₀.heap B ea cls a0 h2:=by
 have nL:∀b o,X.s₀.heap.get? b=some o->b≠X.env.locals:=λb o q z=>absurd (B8 (BW q) (z ▸ I.ok.above)) (Dc _)
 have nst:∀b,b∉X.fs->b≠X.env.locals->b∉frs X.stack:=λb n1 n2 m=>by
  rw[hst] at m
  unfold frs at m
  rw[Dw,hfr] at m
  rcases Cw.mp m with z | z
  ·exact n2 z
  ·exact n1 z
 have ust:=F.step f2 (F.slots k)
 have sub:∀b∈X.fs,b∈frs X.stack:=λb m=>by
  rw[hst];unfold frs;rw[Dw,hfr];exact B9 _ m
 have nx:∀b,b∉X.ex:=λb m=>by rw[hex] at m;cases m
 refine ⟨f2,⟨λb o q n m _ =>?_,λb o q n m _ =>?_,λb o q n _ =>?_,λb o q _ =>?_,λb xs q=>F.un.tups b xs (I.base.tups b xs q),λb o u q=>F.un.frzs b o u (I.base.frzs b o u q),λb ps q =>?_⟩,F.ok,λb o q n m =>?_,λb o q m =>?_⟩
 ·exact ust.keep b o (I.base.keep b o q n m (nx b)) (I.base.free b o q n (nx b)) (nst b m (nL b o q)) (by simp)
 ·obtain ⟨sl,e⟩:=I.base.slot b o q n m (nx b)
  obtain ⟨sl',e'⟩:=ust.slot b _ e (I.base.free b o q n (nx b)) (sub b m) (by simp)
  exact ⟨sl',e'⟩
 ·obtain ⟨o',e⟩:=I.base.there b o q (nx b)
  exact F.un.free b o' e (I.base.free b o q n (nx b)) (by simp)
 ·obtain ⟨o',e⟩:=I.base.there b o q (nx b)
  exact ust.there b o' e (by simp)
 ·obtain ⟨m1,e1⟩:=I.base.tbls b ps q
  obtain ⟨m2,e2⟩:=F.un.tbls b _ e1
  exact ⟨m1++m2,by rw[e2,Hb]⟩
 ·exact F.cov b o (I.base.keep b o q n m (nx b)) (I.base.free b o q n (nx b)) (nst b m (nL b o q))
 ·obtain ⟨o',e⟩:=I.base.there b o q (nx b)
  exact F.all b o' e (nst b m (nL b o q))
theorem Fly.pass {M:Model}{E:BP->BR->Prop}{Q:Unit->BR->Prop}{s':BR}(I:Inv X pins σ H s)(hst:X.stack=X.env :: X.outer)(hfr:X.env.frame=some X.env.locals)(hex:X.ex=[])
  (F:Fly X.prog X.w X.stack H H' s.heap B ea cls a0 s'.heap) (hQ:∀h2,Fly X.prog X.w X.outer X.H₀ H' X.s₀.heap B ea cls a0 h2->Q () { s' with heap:=h2 }):Cb M X.A (leaving X.env (.ref ea)) Q E s':=by
 have fl:=F.fl
 rw[hst] at fl
 exact wpAny_leaves_onW (by rw[I.ok.frames,hst]) hfr fl λh2 f2 k=>hQ h2 (Fly.out I hst hfr hex F f2 k)
end
open PySem PySem.Spec PySem.W PyProof.Rows
section
variable  {P:B7}{w:CJ}{K:BM}{mg:Str->Option BP}{base:Heap}{N:List Str}{qual:Str}{sc:Scope}{f:Addr}{cdv:BP}{A:CK}{outer:List Env}{s₀:BR}{H₀:Hp}{E:XK}
end
abbrev mV:List BP:=[.type "ValueError",.type "Exception",.type "BaseException",.type "object"]
open PySem PySem.Spec PySem.W PyProof.Rows
abbrev Cx.mark (X:Cx)(ea:Addr):Cx:={ X with A:=X.A.mark (some (.ref ea)),calm:=false,xe:=λ_ _=>False }
section
variable  {X:Cx}{pins:List (Addr×Obj)}{σ:St}{H H':Hp}{s s':BR}{B h':Heap}{ea:Addr}{cls a0:BP}
theorem Inv.mark (I:Inv X pins σ H s)(ea:Addr):Inv (X.mark ea) pins σ H s :=
 ⟨⟨I.ok.mod,I.ok.kind,I.ok.glob,I.ok.blt,I.ok.above,I.ok.inj,I.ok.has,I.ok.cab,(λz=>Bool.noConfusion z),I.ok.frames,I.ok.stk,I.ok.exf,I.ok.bs,I.ok.bsz,I.ok.noex,I.ok.exfs,I.ok.funs,I.ok.frf⟩,I.os,I.bare,I.base,I.loc,I.cell,I.free,I.freeC,I.pin,I.hok,I.len⟩
theorem Inv.unmark (ok:X.Ok)(I:Inv (X.mark ea) pins σ H s):Inv X pins σ H s:=⟨ok,I.os,I.bare,I.base,I.loc,I.cell,I.free,I.freeC,I.pin,I.hok,I.len⟩
theorem Inv.gone {i:Nat}{x:Str}{m:Str->Option BP}{v:Option BP}{tk:Nat}(I:Inv X pins σ H s)(hN:X.N.Nodup)(hi:X.N[i]? = some x)(hn:s.heap.Ns X.env.locals m)(hl:∀(j:Nat) (y:Str) (v:V),X.N[j]? = some y->σ[j]? = some (some v)->Vis X.env.scope y->∃u,RelV v u/\Look X.env s.heap m y u)
  (hn':h'.Ns X.env.locals (λy=>if y=x then v else m y)) (hs:Heap.SameBut X.env.locals s.heap h'):Inv X pins (σ.set i none) H { s with heap:=h',toks:=tk }:=by
 obtain ⟨oL,_,_,hoL,_⟩:=id hn
 have cne:=I.cne
 have lt:∀b o,X.s₀.heap.get? b=some o->b≠X.env.locals:=λb o e=>Cp (B8 (BW e) I.ok.above)
 refine ⟨I.ok,I.os,I.bare,⟨λb o e n hb hx =>?_,λb o e n hb hx =>?_,I.base.free,λb o e hx =>?_,I.base.tups,I.base.frzs,I.base.tbls⟩,⟨_,hn',λj y v' e1 e2 e3 =>?_⟩,λy c e =>?_,I.free,I.freeC,λp hp =>?_,λb ob e =>?_,by simpa using I.len⟩
 ·exact (hs.2 b (lt b o e)).trans (I.base.keep b o e n hb hx)
 ·obtain ⟨sl,e1⟩:=I.base.slot b o e n hb hx
  exact ⟨sl,(hs.2 b (lt b o e)).trans e1⟩
 ·obtain ⟨o',e1⟩:=I.base.there b o e hx
  exact ⟨o',(hs.2 b (lt b o e)).trans e1⟩
 ·by_cases hj:j=i
  ·subst hj
   have:j<σ.length:=by rw[I.len];exact (Cg.mp hi).1
   rw[Ex this] at e2
   cases e2
  ·rw[Fq (DE hj)] at e2
   obtain ⟨u',r',q⟩:=hl j y v' e1 e2 e3
   refine ⟨u',r',?_⟩
   rcases q with ⟨k,e⟩ | ⟨k,c,e,z⟩
   ·have:y≠x:=λe=>hj (kj hN e1 (e ▸ hi))
    exact .inl ⟨k,by simp[this,e]⟩
   ·exact .inr ⟨k,c,e,z.sameBut hs (cne y c e)⟩
 ·obtain ⟨w',z⟩:=I.cell y c e
  exact ⟨w',z.sameBut hs (cne y c e)⟩
 ·obtain ⟨e,n,ne,nf,d⟩:=I.pin p hp
  exact ⟨(hs.2 p.1 ne).trans e,n,ne,nf,d⟩
 ·have fr:=I.free
  refine (I.hok b ob e).fV (λc w' hc q=>(hs.2 c ?_).trans q) (λ_ q=>q) λ_ _ q=>q
  rintro rfl
  rcases hc with rfl | hc
  ·rw[fr] at e;cases e
  ·rw[fr] at hc;cases hc
end
abbrev EXt:=BP->St->Hp->Prop
def XP (X:Cx)(pins:List (Addr×Obj))(EX:EXt)(e:BP)(s':BR):Prop :=
 ∃σ H s ea cls a0 B H',Inv X pins σ H s/\e = .ref ea/\s'.os=s.os/\AllBare s'.gens/\Fly X.prog X.w X.stack H H' s.heap B ea cls a0 s'.heap/\EX cls σ H'
section
variable  {X:Cx}{pos:Pos}
end
open PySem PySem.Spec PySem.W PyProof.Rows
structure ExI (K:BM)(C:Addr):Prop where
 ga:findIn K (.ref C) "__getattribute__" = some (some (.builtin "BaseException.__getattribute__"))
 gt:findIn K (.ref C) "__getattr__" = some none
 cl:findIn K (.ref C) "__class__" = some (some (.builtin "object.__class__"))
 mo:subIn K (.ref C) (.type "object")=some true
 sb:subIn K (.ref C) (.type "BaseException")=some true
 it:(clsIn K C).isSome=true
section
variable  {K:BM}{prog:B7}{w:CJ}{A:CK}{E:BP->BR->Prop}{h:Heap}{g:Array GenState}{d:Drawn}{t:Nat}{os:OsState}{a C:Addr}{o:Obj}
theorem Am {R:Result->BR->Prop}(X:K.In h)(Z:ExI K C)(hx:h.get? a=some o)(hc:o.cls = .ref C)(hq:R (.ok (.ret (.ref C))) ⟨h,g,d,t,os⟩) :
  Hv (Cn prog w) A (.call (.builtin "getset_descriptor.__get__") ⟨[.builtin "object.__class__",.ref a,.ref C],[]⟩) R ⟨h,g,d,t,os⟩:=by
 have hT5:(⟨h,g,d,t,os⟩:BR).TypeIs (.builtin "object.__class__") "getset_descriptor" := Gh
 have L1:Looks (Cn prog w) h (isSubtype (.ref C) (.type (".".intercalate ("object.__class__".cutAt '.').dropLast))) true:=by rw[F.owner_object_class];exact IS X Z.mo
 refine EI Ja.plain F.entry_gs_get (Ja.check _ _ _ _ _ _ _ _ hT5 (F.args_gs_get _ _ _) ?_)
 repeat (any_goals (first | assumption | (with_reducible refine CW hx ?_;rw[hc]) | with_reducible refine L1.at ?_ | wp_step))
 refine ⟨FO _ (by decide +kernel),DY F.entry_object_class ?_⟩
 unfold Builtin.«object.__class__»
 repeat (any_goals (first | assumption | (with_reducible refine CW hx ?_;rw[hc]) | wp_step))
theorem wt {tk:Tok}{Q:Fin->BR->Prop}(X:K.In h)(Z:ExI K C)(hx:h.get? a=some o)(hc:o.cls = .ref C)(hq:Q (.done (.ret (.ref C))) ⟨h,g,d,t,os⟩) :
  Cb (Cn prog w) A (Builtin.«object.__getattribute__» ⟨[.ref a,.str "__class__" tk],[]⟩) Q E ⟨h,g,d,t,os⟩:=by
 have hT5:(⟨h,g,d,t,os⟩:BR).TypeIs (.builtin "object.__class__") "getset_descriptor" := Gh
 have f5:=Gh
 have f6:=Ja.lookup
 have f7:=F.slot_gs_set.lookup
 have L1:=ER (M:=Cn prog w) X Z.cl
 repeat (any_goals (first | assumption | (with_reducible refine CW hx ?_;rw[hc]) | with_reducible refine L1.at ?_ | wp_step))
 refine Am X Z hx hc ?_
 repeat (any_goals (first | assumption | wp_step))
theorem pN {M:Model}{nv:BP}{Q:Unit->BR->Prop}(X:K.In h)(Z:ExI K C)(hx:h.get? a=some o)(hc:o.cls = .ref C)(hq:Q () ⟨h,g,d,t,os⟩):Cb M A (checkBuiltinCall "BaseException.__getattribute__" ⟨[.ref a,nv],[]⟩) Q E ⟨h,g,d,t,os⟩:=by
 have k1:builtinKind "BaseException.__getattribute__" = some .slot:=by decide +kernel
 have k2:splitId "BaseException.__getattribute__" = some ("BaseException", "__getattribute__"):=by decide +kernel
 have L1:=IS (M:=M) X Z.sb
 have k3:=F.args_bexc_ga (.ref a) nv
 simp only[checkBuiltinCall,k1,k2]
 refine BN ?_
 unfold isInstance
 repeat (first | (with_reducible refine CW hx ?_;rw[hc]) | with_reducible refine L1.at ?_ | wp_step)
 exact hq
theorem yl {Q:Option BP->BR->Prop}(X:K.In h)(Z:ExI K C)(hx:h.get? a=some o)(hc:o.cls = .ref C)(hq:Q (some (.ref C)) ⟨h,g,d,t+1,os⟩) :
  Cb (Cn prog w) A (getAttr? (.ref a) "__class__") Q E ⟨h,g,d,t,os⟩:=by
 have f3:=(Fc).ga.bind (.ref a)
 have y2:(Value.builtin "BaseException.__getattribute__" == Value.builtin "object.__getattribute__")=false:=by decide +kernel
 have y1:(onTheHeap (Cc C) && Value.builtin "BaseException.__getattribute__" == Value.builtin "object.__getattribute__")=false:=by rw[y2];rfl
 have L1:=ER (M:=Cn prog w) X Z.ga
 have L2:=ER (M:=Cn prog w) X Z.gt
 unfold getAttr? getAttrBy?
 repeat (any_goals (first | assumption | (with_reducible refine CW hx ?_;rw[hc]) | with_reducible refine L1.at ?_ | with_reducible refine L2.at ?_ | wp_step))
 refine EI (Fc).ga.plain JO (pN X Z hx hc (wt X Z hx hc ?_))
 repeat (any_goals (first | assumption | wp_step))
end
open PySem PySem.Spec PySem.W PyProof.Rows
theorem pO {K:BM}{a C:Addr}(Z:ExI K C):KitX K (.ref a) (.ref C) (λh=>∃o,h.get? a=some o/\o.cls = .ref C) where
 ty:=λM h _ p=>by
  obtain ⟨o,h1,h2⟩:=p
  exact h2 ▸ (Looks.ld h1).andThen .now
 it:=λ_ _ X _=>by
  have z:=Z.it
  unfold clsIn at z
  split at z
  ·rename_i c' d' cd' sl' ho
   intro A' Q' E' s' k q
   unfold isType loadHead
   exact BN (wpAny_loadPart (k _ _ (X _ _ ho)) (BS q))
  ·cases z
 ne:=λh tp dd its n sl X htp=>by
  have z:=Z.it
  refine D3.mpr λq =>?_
  have e:C=tp:=Value.ref.inj (beq_iff_eq.mp q)
  subst e
  unfold clsIn at z
  split at z
  ·rename_i c' d' cd' sl' ho
   have y:=(X _ _ ho).symm.trans htp
   cases y
  ·cases z
 ca:=λ{_ _ _ _ _ s} X p k=>by
  obtain ⟨h,g,d,t,os⟩:=s
  obtain ⟨o,h1,h2⟩:=p
  exact yl X Z h1 h2 k
def ym:V->BP
 | .ref a =>.ref a
 | .ty n =>.type n
 | _ =>.none
def pP:V->Bool
 | .ref _=>true
 | .ty _=>true
 | _=>false
theorem tj {x:V}{u:BP}(h:pP x=true)(r:RelV x u):u=ym x:=by
 cases x <;> first | exact r | cases h
section
variable  {X:Cx}
theorem pQ:∀{cs:List V} {us:List BP},(∀c∈cs,pP c=true)->Vals cs us->us=cs.map ym
 | _,_,_,.nil=>rfl
 | _,_,h,.cons r t=>by rw[Ci, <- tj (h _ B1) r, <- pQ (λc hc=>h c (B9 _ hc)) t]
end
open PySem PySem.Spec PySem.W PyProof.Rows
def Keeps {α:Type}:Sem α -> Prop
 | .pure _=>True
 | .raise _=>True
 | .unsupported _=>True
 | .finish _=>True
 | .rule _ k=>Keeps (k ())
 | .at _ k=>Keeps (k ())
 | .load _ _ k=>∀o,Keeps (k o)
 | .update _ _ f k=>(∀o:Obj,(f o).cls=o.cls/\(f o).dict=o.dict/\(f o).isFreed=o.isFreed)/\Keeps (k ())
 | .alloc _ k=>∀a,Keeps (k a)
 | .loadIfAlive _ k=>∀o,Keeps (k o)
 | .point _ k=>Keeps (k ())
 | .register _ _=>True
 | .fresh k=>∀t,Keeps (k t)
 | .ask k=>∀t,Keeps (k t)
 | .choose _ _ k=>∀t,Keeps (k t)
 | .os _ _ k=>∀t,Keeps (k t)
 | .call _ _ _ _ _=>False
 | .handled _ k=>∀t,Keeps (k t)
 | .newGen _ k=>∀t,Keeps (k t)
 | .genState _ k=>∀t,Keeps (k t)
 | .resume _ _ _ _=>False
 | .yield _ _ _ _=>True
 | .stack k=>∀t,Keeps (k t)
 | .fork _ _=>True
 | .thread k=>∀t,Keeps (k t)
 | .await _ _ _ _ _=>True
def Kd (h h':Heap):Prop:=∀b o,h.get? b=some o->∃o',h'.get? b=some o'/\o'.cls=o.cls/\o'.dict=o.dict
theorem Kd.refl (h:Heap):Kd h h:=λb o e=>⟨o,e,rfl,rfl⟩
theorem Kd.trans {h h1 h2:Heap}(a:Kd h h1)(b:Kd h1 h2):Kd h h2:=λc o e=>by
 obtain ⟨o1,e1,c1,d1⟩:=a c o e
 obtain ⟨o2,e2,c2,d2⟩:=b c o1 e1
 exact ⟨o2,e2,c2.trans c1,d2.trans d1⟩
theorem iC {h:Heap}{a:Addr}{o:Obj}(e:h.get? a=some o):o.isFreed=false:=by
 unfold Heap.get? at e
 split at e
 ·cases e
 ·rename_i n
  obtain ⟨c,d,x,s⟩:=o
  cases x <;> first | rfl | exact absurd e (n _ _ _)
theorem Kd.update {h:Heap}{a:Addr}{f:Obj->Obj}(hf:∀o:Obj,(f o).cls=o.cls/\(f o).dict=o.dict/\(f o).isFreed=o.isFreed):Kd h (h.update a f):=λb o e=>by
 by_cases c:a=b
 ·subst c
  exact ⟨f o,C6 f e ((hf o).2.2.trans (iC e)),(hf o).1,(hf o).2.1⟩
 ·exact ⟨o,by rw[CV _ _ c];exact e,rfl,rfl⟩
theorem Kd.push (h:Heap)(u:Obj):Kd h (h.push u):=λb o e=>⟨o,BO _ e,rfl,rfl⟩
theorem wu {α:Type}{M:Model}{Γ:PySem.Ctx}{t:Sem α}{Q:α -> Pos->BR->Prop}{E:BP->Pos->BR->Prop}(K:Keeps t)(p:Pos)(s:BR)(h:Sem.wp M Γ t Q E p s) :
  Sem.wp M Γ t (λa p' s'=>Q a p' s'/\Kd s.heap s'.heap) (λe p' s'=>E e p' s'/\Kd s.heap s'.heap) p s:=by
 induction t generalizing p s with
 | pure x=>exact ⟨h,Kd.refl _⟩
 | raise v=>exact ⟨h,Kd.refl _⟩
 | unsupported _ | finish _ | yield _ _ _ _ | fork _ _ | await _ _ _ _ _ | register _ _=>exact h
 | rule _ k ih=>exact ih () K _ _ h
 | «at» _ k ih=>exact ih () K _ _ h
 | point _ k ih=>exact ih () K _ _ h
 | alloc u k ih =>
  refine Sem.wp_mono M Γ _ (λa p' s' x=>⟨x.1,(Kd.push _ u).trans x.2⟩) (λa p' s' x=>⟨x.1,(Kd.push _ u).trans x.2⟩) _ _ (ih _ (K _) _ _ h)
 | loadIfAlive _ k ih=>exact ih _ (K _) _ _ h
 | fresh k ih=>exact ih _ (K _) _ _ h
 | ask k ih=>exact ih _ (K _) _ _ h
 | os _ _ k ih=>exact ih _ (K _) _ _ h
 | handled _ k ih=>exact ih _ (K _) _ _ h
 | newGen _ k ih=>exact ih _ (K _) _ _ h
 | stack k ih=>exact ih _ (K _) _ _ h
 | thread k ih=>exact ih _ (K _) _ _ h
 | load a _ k ih =>
  obtain ⟨o,ho,h'⟩:=h
  exact ⟨o,ho,ih _ (K _) _ _ h'⟩
 | genState a k ih =>
  obtain ⟨o,ho,h'⟩:=h
  exact ⟨o,ho,ih _ (K _) _ _ h'⟩
 | update a _ f k ih =>
  obtain ⟨ho,h'⟩:=h
  exact ⟨ho,Sem.wp_mono M Γ _ (λa p' s' x=>⟨x.1,(Kd.update K.1).trans x.2⟩) (λa p' s' x=>⟨x.1,(Kd.update K.1).trans x.2⟩) _ _ (ih _ K.2 _ _ h')⟩
 | choose _ _ k ih =>
  obtain ⟨ho,h'⟩:=h
  exact ⟨ho,ih _ (K _) _ _ h'⟩
 | call c h' g l k ih=>exact K.elim
 | resume g r l k ih=>exact K.elim
theorem dg {α:Type}{M:Model}{A:CK}{t:Sem α}{Q:α -> BR->Prop}{E:BP->BR->Prop}{s:BR}(K:Keeps t)(h:Cb M A t Q E s) :
  Cb M A t (λa s'=>Q a s'/\Kd s.heap s'.heap) (λe s'=>E e s'/\Kd s.heap s'.heap) s:=λΓ p hΓ=>wu K p s (h Γ p hΓ)
theorem Keeps.bind {α β:Type}{m:Sem α}{f:α -> Sem β}(hm:Keeps m)(hf:∀a,Keeps (f a)):Keeps (m >>= f):=by
 show Keeps (Sem.bind m f)
 induction m with
 | pure x=>exact hf x
 | raise v=>exact hm
 | unsupported _ | finish _ | yield _ _ _ _ | fork _ _ | await _ _ _ _ _ | register _ _=>exact True.intro
 | rule _ k ih=>exact ih () hm
 | «at» _ k ih=>exact ih () hm
 | point _ k ih=>exact ih () hm
 | alloc u k ih=>exact λa=>ih a (hm a)
 | loadIfAlive _ k ih=>exact λa=>ih a (hm a)
 | fresh k ih=>exact λa=>ih a (hm a)
 | ask k ih=>exact λa=>ih a (hm a)
 | os _ _ k ih=>exact λa=>ih a (hm a)
 | handled _ k ih=>exact λa=>ih a (hm a)
 | newGen _ k ih=>exact λa=>ih a (hm a)
 | stack k ih=>exact λa=>ih a (hm a)
 | thread k ih=>exact λa=>ih a (hm a)
 | load a _ k ih=>exact λa=>ih a (hm a)
 | genState a k ih=>exact λa=>ih a (hm a)
 | update a _ f' k ih=>exact ⟨hm.1,ih () hm.2⟩
 | choose _ _ k ih=>exact λa=>ih a (hm a)
 | call c h' g l k ih=>exact hm.elim
 | resume g r l k ih=>exact hm.elim
theorem gg (f:Array BP->Array BP)(o:Obj):(Obj.mapFields f o).cls=o.cls/\(Obj.mapFields f o).dict=o.dict/\(Obj.mapFields f o).isFreed=o.isFreed:=by
 obtain ⟨c,d,x,s⟩:=o
 cases x <;> exact ⟨rfl,rfl,rfl⟩
theorem kU (v:BP):Keeps (fieldsOf v):=by
 unfold fieldsOf
 cases v with
 | ref a =>
  refine Keeps.bind (m:=load a) (λ_=>True.intro) λo =>?_
  cases o.data <;> exact True.intro
 | _=>exact True.intro
theorem dQ (v:BP)(i:Nat):Keeps (field v i):=by
 unfold field
 refine Keeps.bind (kU v) λvs =>?_
 split <;> exact True.intro
theorem iD (a:Addr)(i:Nat)(x:BP):Keeps (updateField a i x):=by
 unfold updateField
 refine Keeps.bind (m:=load a) (λ_=>True.intro) λo =>?_
 cases o.data with
 | fields vs =>
  show Keeps (if i<vs.size then update a (Obj.mapFields (·.setIfInBounds i x)) else unsupported "internal:no-such-field")
  split
  ·exact ⟨gg _,True.intro⟩
  ·exact True.intro
 | _=>exact True.intro
theorem dI (v:BP)(i:Nat)(x:BP):Keeps (setField v i x):=by
 unfold setField
 cases v with
 | ref a=>exact iD a i x
 | _=>exact True.intro
theorem du (e:BP)(fr:Option Addr):Keeps (setFlight e fr):=by
 unfold setFlight
 refine Keeps.bind (dQ e 1) λtb =>?_
 split
 ·exact dI _ _ _
 ·exact True.intro
open PySem PySem.Spec PySem.W PyProof.Rows
theorem gh:Keeps stack:=λ_=>True.intro
theorem oj:Keeps underTheClaimsCaller:=by
 unfold underTheClaimsCaller
 exact Keeps.bind gh λ_=>True.intro
theorem kW (env:Env)(outer:List Env):Keeps (behindIsImport env outer):=by
  unfold behindIsImport
  split
  · exact True.intro
  · show Keeps (if env.code == .none then pure true else do return (← field env.code 12) == .none)
    split
    · exact True.intro
    · exact Keeps.bind (dQ _ _) λ_=>True.intro
theorem q9 (env:Env)(i:Bool)(l:List Env):Keeps (keptBack env i l):=by
 unfold keptBack
 cases l with
 | nil =>
  show Keeps (if _ then _ else _)
  split
  ·exact True.intro
  ·exact Keeps.bind oj λ_=>True.intro
 | cons c l=>exact True.intro
theorem jE:∀l:List Env,Keeps (readyFrames l)
 | []=>True.intro
 | env :: outer=>by
  unfold readyFrames
  cases env.frame with
  | none=>exact True.intro
  | some f =>
   refine Keeps.bind (m:=load f) (λ_=>True.intro) λo =>?_
   split
   ·exact True.intro
   ·refine Keeps.bind (kW env outer) λi=>Keeps.bind (q9 env i outer) λb =>?_
    exact ⟨λo=>⟨rfl,rfl,by obtain ⟨c,d,x,s⟩:=o;cases x <;> rfl⟩,jE outer⟩
theorem iE (l:List Env):Keeps (frameObject l):=by
 unfold frameObject
 cases l with
 | nil=>exact True.intro
 | cons env outer=>exact Keeps.bind (jE _) λ_=>True.intro
theorem lR (env:Env):Keeps (PySem.frameOf env):=by
 unfold PySem.frameOf frameEnvs
 refine Keeps.bind (Keeps.bind gh λ_=>True.intro) λes=>Keeps.bind (iE _) λr =>?_
 cases r <;> exact True.intro
theorem pR (f:Addr)(b:Bool):Keeps (entryPlaceOf f b):=by
 unfold entryPlaceOf
 refine Keeps.bind gh λacts =>?_
 split <;> exact True.intro
theorem jR (ty:String)(vs:List BP):Keeps (newFields ty vs):=by
 unfold newFields newObj newObjAsIs
 show Keeps (if _ then _ else _)
 split
 ·exact True.intro
 ·exact λa=>True.intro
theorem pT (n f l fl la:BP)(p:List BP):Keeps (EntryCells.newEntry n f l fl la p):=by
 unfold EntryCells.newEntry
 exact jR _ _
theorem fM (e:BP)(env:Env):Keeps (noteFrame e env):=by
  unfold noteFrame
  cases env.frame with
  | none=>exact True.intro
  | some f =>
    refine Keeps.bind (dQ e 1) λhead =>?_
    have rest:Keeps (do setField e 1 (← EntryCells.newEntry head (← PySem.frameOf env) .none (Ea f) .none (← entryPlaceOf f (head != .none)))) :=
      Keeps.bind (lR env) λa=>Keeps.bind (pR f _) λpl=>Keeps.bind (pT _ _ _ _ _ _) λb=>dI _ _ _
    show Keeps (if _ then _ else _)
    split
    · refine Keeps.bind (dQ head 3) λx =>?_
      split
      · exact True.intro
      · exact Keeps.bind (dI _ _ _) λ_=>rest
    · exact rest
theorem gP (env:Env)(e:BP):Keeps (leaving env e):=by
 unfold leaving
 exact Keeps.bind (fM e env) λ_=>du e none
open PySem PySem.Spec PySem.W PyProof.Rows
def XD (h:Heap)(ea:Addr)(d:Option Addr):Prop:=∀dx,d=some dx->∃o,h.get? ea=some o/\o.dict=some dx
theorem XD.kd {h h':Heap}{ea:Addr}{d:Option Addr}(k:Kd h h')(x:XD h ea d):XD h' ea d:=λdx e=>by
 obtain ⟨o,a,b⟩:=x dx e
 obtain ⟨o',a',_,b'⟩:=k ea o a
 exact ⟨o',a',b'.trans b⟩
def CX2 (P:B7)(w:CJ):CXT:=λouter H s E e s'=>∃ea cls a0 B H' d,e = .ref ea/\s'.os=s.os/\AllBare s'.gens/\Fly P w outer H H' s.heap B ea cls a0 s'.heap/\XD s'.heap ea d/\E cls d H'
section
variable  {X:Cx}{pins:List (Addr×Obj)}{σ:St}{H H':Hp}{s:BR}{B h':Heap}{ea:Addr}{cls a0:BP}
theorem Fly.Bp {M:Model}{E:BP->BR->Prop}{Q:Unit->BR->Prop}{s':BR}(I:Inv X pins σ H s)(hst:X.stack=X.env :: X.outer)(hfr:X.env.frame=some X.env.locals)(hex:X.ex=[])
  (F:Fly X.prog X.w X.stack H H' s.heap B ea cls a0 s'.heap) (hQ:∀h2,Fly X.prog X.w X.outer X.H₀ H' X.s₀.heap B ea cls a0 h2->Kd s'.heap h2->Q () { s' with heap:=h2 }):Cb M X.A (leaving X.env (.ref ea)) Q E s':=by
 have z:=dg (gP X.env (.ref ea)) (Fly.pass (M:=M) (E:=E) (Q:=λ_ s2=>∃h2,s2={ s' with heap:=h2 }/\Fly X.prog X.w X.outer X.H₀ H' X.s₀.heap B ea cls a0 h2) I hst hfr hex F λh2 F2=>⟨h2,rfl,F2⟩)
 refine C5 z (λ_ s2 y =>?_) λ_ _ y=>y.1
 obtain ⟨⟨h2,rfl,F2⟩,k⟩:=y
 exact hQ h2 F2 k
end
theorem Fun.okX2 {P:B7}{w:CJ}{K:BM}{mg:Str->Option BP}{base:Heap}{x qual:Str}{st:Stmt}{f:Addr}{fd:CT}{N ps:List Str}{k:Nat}{sp:Sp}(F:Fun K x qual st f fd)(S:aV N ps (aA st))(len:∀vs H Q E,sp vs H Q E->vs.length=ps.length)
  (hb:∀(cdv:BP) (A:CK) (outer:List Env) (s:BR) (H:Hp) (vs:List V) (Q:VK) (E:XK),bX k (A.deeper (envOfC qual (aA st) s.heap.objs.size f cdv))->sp vs H Q E →
   ∃t,PSs (gW (CX2 P w) P w K mg base N qual (aA st) f cdv A outer s H E) (bH st) t/\t { nx:=λ_ H'=>Q .non H',rt:=Q } (start N vs) H):bS P w K mg base (CX2 P w) (k+1) f fd ps sp:=by
 obtain ⟨oc,od,kV,doc,pm,an,cdv,ct,osl,rfl,lk,hcd⟩:=F.ex
 exact vB lk hcd S len λA outer s H vs Q E hr hsp=>hb cdv A outer s H vs Q E hr hsp
theorem bS.cx2 {P:B7}{w:CJ}{K:BM}{mg:Str->Option BP}{base:Heap}{k:Nat}{f:Addr}{fd:CT}{ps:List Str}{sp:Sp}(F:bS P w K mg base CX0 k f fd ps sp):bS P w K mg base (CX2 P w) k f fd ps sp :=
 ⟨F.len,λA outer s H args us vs Q E hr he hb hv hs=>Ff (F.run A outer s H args us vs Q E hr he hb hv hs) λr s' h=>by
  cases r with
  | error e=>exact False.elim h
  | ok fl=>cases fl <;> exact h⟩
structure mW (P:B7)(w:CJ)(K:BM)(mg:Str->Option BP)(base:Heap)(k:Nat)(x:Str)(ps:List Str)(sp:Sp):Prop where
 ex:∃f fd,bS P w K mg base (CX2 P w) k f fd ps sp/\mg x=some (.ref f)/\PySem.W.keepIn K (.ref f)=true/\Binds K fd ps []
theorem mW.calm {P:B7}{w:CJ}{K:BM}{mg:Str->Option BP}{base:Heap}{k:Nat}{x:Str}{ps:List Str}{sp sp':Sp}(c:mW P w K mg base k x ps sp)(h:∀vs H Q E,sp' vs H Q E->sp vs H Q E0):Cal P w K mg base k x ps sp':=by
 obtain ⟨f,fd,F,m,kp,b⟩:=c.ex
 refine ⟨f,fd,⟨λvs H Q E q=>F.len vs H Q E0 (h _ _ _ _ q),λA outer s H args us vs Q E hr he hb hv hs=>Ff (F.run A outer s H args us vs Q E0 hr he hb hv (h _ _ _ _ hs)) λr s' z =>?_⟩,m,kp,b⟩
 cases r with
 | error e =>
  obtain ⟨_,_,_,_,_,_,_,_,_,_,_,z⟩:=z
  exact z.elim
 | ok fl=>cases fl <;> exact z
section
variable  {P:B7}{w:CJ}{K:BM}{mg:Str->Option BP}{base:Heap}{N:List Str}{qual:Str}{sc:Scope}{f:Addr}{cdv:BP}{A:CK}{outer:List Env}{s₀:BR}{H₀:Hp}{E:XK}
theorem Bq:Passes (CX2 P w) (gW (CX2 P w) P w K mg base N qual sc f cdv A outer s₀ H₀ E) E:=λpins σ H s e s' I h=>by
 obtain ⟨ea,cls,a0,B,H2,d,rfl,os,g,F,D,q⟩:=h
 exact Fly.Bp I rfl rfl rfl F λh2 F2 k=>⟨ea,cls,a0,B,H2,d,rfl,os.trans I.os,g,F2,D.kd k,q⟩
end
section
variable  {X:Cx}{pins:List (Addr×Obj)}{σ:St}{H H':Hp}{s s':BR}{B h':Heap}{ea:Addr}{cls a0:BP}{d:Option Addr}
def gQ (ea:Addr)(cls:BP)(d:Option Addr):HO :=.ext λh=>∃o vs,h.get? ea=some o/\o.cls=cls/\o.data = .fields vs/\∀dx,d=some dx->o.dict=some dx
theorem HOk.An {P:B7}{w:CJ}{h:Heap}(x:HOk P w H h)(hn:H ea=none)(hc:∃o vs,h.get? ea=some o/\o.cls=cls/\o.data = .fields vs/\∀dx,d=some dx->o.dict=some dx):HOk P w (upd H ea (gQ ea cls d)) h:=λb u e=>by
 by_cases z:b=ea
 ·subst z
  rw[af] at e
  cases e
  refine ⟨hc,?_,λh1 h2 p k =>?_⟩
  ·obtain ⟨o,_,q,_⟩:=hc;exact ⟨o,q⟩
  ·obtain ⟨o,vs,q,c⟩:=p;exact ⟨o,vs,k o q,c⟩
 ·rw[ax z] at e
  exact (x b u e).fV (λ_ _ _ q=>q) (λc q=>by rw[ax (aF q hn)];exact q) λc xs q=>by rw[ax (aF q hn)];exact q
theorem Inv.An (I0:Inv X pins σ H s)(I:Inv X pins σ H' s')(F:Fly X.prog X.w X.stack H H' s.heap B ea cls a0 s'.heap)(D:XD s'.heap ea d):Inv X pins σ (upd H' ea (gQ ea cls d)) s':=by
 have nn:=F.new
 have hn:=F.no
 have ne:∀b o,s.heap.get? b=some o->b≠ea:=λb o q z=>by rw[z,nn] at q;cases q
 have nh:∀b u,H' b=some u->b≠ea:=λb u q=>aF q hn
 have hc:∃o vs,s'.heap.get? ea=some o/\o.cls=cls/\o.data = .fields vs/\∀dx,d=some dx->o.dict=some dx:=by
  obtain ⟨o,vs,a,b,dd,_⟩:=F.fl.first
  refine ⟨o,vs,a,b,dd,λdx e =>?_⟩
  obtain ⟨o',a',b'⟩:=D dx e
  rw[a] at a';cases a'
  exact b'
 refine ⟨I.ok,I.os,I.bare,⟨I.base.keep,I.base.slot,λb o q n m =>?_,I.base.there,λb xs q =>?_,λb o u q =>?_,λb ps q =>?_⟩,I.loc,I.cell,?_,λx c e =>?_,λp hp =>?_,I.hok.An hn hc,I.len⟩
 ·obtain ⟨o',e⟩:=I0.base.there b o q m
  rw[ax (ne b o' e)];exact I.base.free b o q n m
 ·have:=I.base.tups b xs q
  rw[ax (nh b _ this)];exact this
 ·have:=I.base.frzs b o u q
  rw[ax (nh b _ this)];exact this
 ·obtain ⟨mo,this⟩:=I.base.tbls b ps q
  exact ⟨mo,by rw[ax (nh b _ this)];exact this⟩
 ·obtain ⟨m,⟨o,_,_,ho,_⟩,_⟩:=I0.loc
  rw[ax (ne _ o ho)];exact I.free
 ·obtain ⟨v,o,ho,_⟩:=I0.cell x c e
  rw[ax (ne _ o ho)];exact I.freeC x c e
 ·obtain ⟨e,n,n1,n2,d⟩:=I.pin p hp
  obtain ⟨e0,_⟩:=I0.pin p hp
  exact ⟨e,by rw[ax (ne _ _ e0)];exact n,n1,n2,d⟩
end
section
variable  {M:Model}{A:CK}{E:BP->BR->Prop}{s:BR}
theorem yn {base:Heap}{env:Env}{outer:List Env}{L e:Addr}{cls a0:BP}{Q:Unit->BR->Prop}
  (hfr:A.frames=some (env :: outer)) (hf:env.frame=some L) (hfl:Heap.FlyingW base (env :: outer) e cls a0 s.heap)
  (hQ:∀h',Heap.HeldW base (env :: outer) e cls a0 L h'->s.heap.UpToSlots h'->Kd s.heap h'->Q () { s with heap:=h' }):Cb M A (noteFrame (.ref e) env) Q E s:=by
 refine C5 (dg (fM (.ref e) env) (wpAny_looks_onW (M:=M) (E:=E) (Q:=λ_ s2=>∃h',s2={ s with heap:=h' }/\Heap.HeldW base (env :: outer) e cls a0 L h'/\s.heap.UpToSlots h') hfr hf hfl λh' a b=>⟨h',rfl,a,b⟩)) (λ_ s2 y =>?_) λ_ _ y=>y.1
 obtain ⟨⟨h2,rfl,a,b⟩,k⟩:=y
 exact hQ h2 a b k
theorem yo {base:Heap}{l:List Env}{e L:Addr}{cls a0:BP}{Q:Unit->BR->Prop}(hh:Heap.HeldW base l e cls a0 L s.heap)
  (hQ:∀h',Heap.FlyingW base l e cls a0 h'->s.heap.UpToSlots h'->Kd s.heap h'->Q () { s with heap:=h' }):Cb M A (setFlight (.ref e) none) Q E s:=by
 refine C5 (dg (du (.ref e) none) (wpAny_landsW (M:=M) (E:=E) (Q:=λ_ s2=>∃h',s2={ s with heap:=h' }/\Heap.FlyingW base l e cls a0 h'/\s.heap.UpToSlots h') hh λh' a b=>⟨h',rfl,a,b⟩)) (λ_ s2 y =>?_) λ_ _ y=>y.1
 obtain ⟨⟨h2,rfl,a,b⟩,k⟩:=y
 exact hQ h2 a b k
theorem yp {base:Heap}{l:List Env}{e:Addr}{cls a0:BP}{Q:Unit->BR->Prop}(hh:Heap.FlyingW base l e cls a0 s.heap)
  (hQ:∀h',Heap.FlyingW base l e cls a0 h'->s.heap.UpToSlots h'->Kd s.heap h'->Q () { s with heap:=h' }):Cb M A (setFlight (.ref e) none) Q E s:=by
 refine C5 (dg (du (.ref e) none) (lands_againW (M:=M) (E:=E) (Q:=λ_ s2=>∃h',s2={ s with heap:=h' }/\Heap.FlyingW base l e cls a0 h'/\s.heap.UpToSlots h') hh λh' a b=>⟨h',rfl,a,b⟩)) (λ_ s2 y =>?_) λ_ _ y=>y.1
 obtain ⟨⟨h2,rfl,a,b⟩,k⟩:=y
 exact hQ h2 a b k
end
abbrev lV:=BP->Option Addr->St->Hp->Prop
def XP2 (X:Cx)(pins:List (Addr×Obj))(EX:lV)(e:BP)(s':BR):Prop :=
 ∃σ H s ea cls a0 B H' d,Inv X pins σ H s/\e = .ref ea/\s'.os=s.os/\AllBare s'.gens/\Fly X.prog X.w X.stack H H' s.heap B ea cls a0 s'.heap/\XD s'.heap ea d/\EX cls d σ H'
def Br (X:Cx)(sts:List Stmt)(t:lV->TS):Prop :=
 ∀(pins:List (Addr×Obj)) (s:BR) (σ:St) (H:Hp) (D:Ends) (EX:lV),Inv X pins σ H s->t EX D σ H->Cb (Cn X.prog X.w) X.A (execs sts X.env) (SP X pins D) (XP2 X pins EX) s
def Bs (X:Cx)(st:Stmt)(t:lV->TS):Prop :=
 ∀(pins:List (Addr×Obj)) (s:BR) (σ:St) (H:Hp) (D:Ends) (EX:lV),Inv X pins σ H s->t EX D σ H->Cb (Cn X.prog X.w) X.A (exec st X.env) (SP X pins D) (XP2 X pins EX) s
section
variable  {X:Cx}{pos:Pos}
theorem yq {st:Stmt}{t:lV->TS}(h1:Bs X st t):Br X [st] t:=by
 intro pins s σ H D EX I h
 refine HV (thn (h1 pins s σ H D EX I h) λf s1 q =>?_)
 cases f with
 | next=>exact FQ q
 | ret v=>exact q
 | brk=>exact q
 | cont=>exact q
theorem Bt {k:Nat}{f:Addr}{fd:CT}{ps:List Str}{sp:Sp}{pins:List (Addr×Obj)}{σ:St}{H:Hp}{s:BR}{Q:VK}{EX:lV}{us:List BP}{vs:List V}(F:bS X.prog X.w X.K X.mg X.base (CX2 X.prog X.w) k f fd ps sp)(hr:bX k X.A)(hb:Binds X.K fd ps [])
  (I:Inv X pins σ H s) (r:Vals vs us) (h:sp vs H Q λcls d H'=>EX cls d σ H'):Cb (Cn X.prog X.w) X.A (call (.ref f) us) (EP X pins σ Q) (XP2 X pins EX) s:=by
 have hl:us.length=ps.length:=by rw[<- r.length];exact F.len _ _ _ _ h
 have hb':=hb s us I.kIn (by rw[CF];exact hl)
 rw[CF] at hb'
 refine GG (Ff (F.run X.A X.stack s H ⟨us,[]⟩ us vs Q _ hr I.xK hb' r h) λr s' hq =>?_)
 cases r with
 | error e =>
  obtain ⟨ea,cls,a0,B,H2,d,rfl,os,g,F2,D,q⟩:=hq
  exact ⟨σ,H,s,ea,cls,a0,B,H2,d,I,rfl,os,g,F2,D,q⟩
 | ok fl =>
  cases fl with
  | ret u=>exact I.after hq
  | next=>exact False.elim hq
  | brk=>exact False.elim hq
  | cont=>exact False.elim hq
theorem ev_y {j k:Nat}{x:Str}{ps:List Str}{sp:Sp}{e:Expr}{es:List Expr}{t:TA}{p:Pos}{pins:List (Addr×Obj)}{σ:St}{H:Hp}{s:BR}{Q:VK}{EX:lV}(C:mW X.prog X.w X.K X.mg X.base k x ps sp)(hr:bX j X.A)(hj:k<=j)(hg:Gl X x)(ha:PA X.nox (e :: es) t)
  (hdb:(x == ("__debug__" : Str))=false) (he:CO (e :: es) X.env=(false,eval e X.env) :: CO es X.env) (hpl:(Fi pos (CO es X.env)).any (·.1)=false)
  (I:Inv X pins σ H s) (h:t σ H λvs H1=>sp vs H1 Q λcls d H2=>EX cls d σ H2):Cb (Cn X.prog X.w) X.A (eval (.Call (.Name x p) (e :: es) [] pos) X.env) (EP X pins σ Q) (XP2 X pins EX) s:=by
 obtain ⟨f,fd,F,m,kp,b⟩:=C.ex
 refine DG (fc I hg m ?_ hdb)
 refine FJ (h₀:=X.base) I.ok.mod.kin kp (C5 (ha pos pins s σ H _ (I.kB _) h) (λus s1 ⟨vs,H1,I1,r,q⟩=>⟨I1.eh.kIn,?_⟩) λ_ _ z=>False.elim z) he hpl
 exact Bt F (hr.mono hj) b I1.eh r q
theorem wx {j k:Nat}{x:Str}{ps:List Str}{sp:Sp}{e:Expr}{es:List Expr}{t:TA}{p pos':Pos}(C:mW X.prog X.w X.K X.mg X.base k x ps sp)(hr:bX j X.A)(hj:k<=j)(hg:Gl X x)(ha:PA X.nox (e :: es) t)
  (hdb:(x == ("__debug__" : Str))=false:=by decide) (he:CO (e :: es) X.env=(false,eval e X.env) :: CO es X.env:=by rfl) (hpl:(Fi pos (CO es X.env)).any (·.1)=false:=by rfl) (hs:swapsWith (.Call (.Name x p) (e :: es) [] pos) none pos'.line X.env=pure false:=by rfl) :
  Bs X (.Expr (.Call (.Name x p) (e :: es) [] pos) pos') (λEX D σ H=>t σ H λvs H1=>sp vs H1 (λ_ H2=>D.nx σ H2) λcls d H2=>EX cls d σ H2):=by
 intro pins s σ H D EX I h
 exact wpAny_Expr_any (thn (ev_y C hr hj hg ha hdb he hpl I h) λv s1 ⟨x,H1,I1,r1,q1⟩=>⟨σ,H1,I1,q1⟩) I.quiet hs
def Bv (K:BM)(i:Nat)(C:BP)(tb:lV->TS)(th:TS):TS:=λD σ H =>
 tb (λcls d σ1 H1=>exmOne K cls C=some true/\∀ea,H1 ea=none->th { nx:=λσ2 H2=>D.nx (σ2.set i none) H2,rt:=D.rt,bk:=λσ2 H2=>D.bk (σ2.set i none) H2,ct:=λσ2 H2=>D.ct (σ2.set i none) H2 } (σ1.set i (some (.ref ea))) (upd H1 ea (gQ ea cls d))) D σ H
theorem yr {i:Nat}{n x:Str}{C:BP}{body:List Stmt}{b₀:Stmt}{suite:List Stmt}{tb:lV->TS}{th:TS}{np hp:Pos}(hst:X.stack=X.env :: X.outer)(hfr:X.env.frame=some X.env.locals)
    (hN:X.N.Nodup) (hi:X.N[i]? = some n) (hx:X.env.scope.names.lookup n=some .local) (hg:Gl X x) (hm:X.mg x=some C) (hb:Br X body tb) (hs:∀ea,PSs (X.mark ea) (b₀ :: suite) th) (hdb:(x == ("__debug__" : Str))=false:=by decide) :
    PS X (.Try body [.ExceptHandler (some (.Name x np)) (some n) (b₀ :: suite) hp] [] [] pos) (Bv X.K i C tb th):=by
  intro pins s σ H D I h
  refine wpAny_Try_except (C5 (hb pins s σ H D _ I h) (λf s1 q =>?_) λe s1 hx1 =>?_)
  · cases f with
    | next=>exact FQ q
    | ret v=>exact q
    | brk=>exact q
    | cont=>exact q
  obtain ⟨σ1,H1,s0,ea,cls,a0,B,H2,d,I1,rfl,os,g,F,D,hm2,q⟩:=hx1
  have fl:=F.fl
  have hfr':X.A.frames=some (X.env :: X.outer):=by rw[I1.ok.frames,hst]
  rw[hst] at fl
  refine yn hfr' hfr fl λh4 held4 k4 e4 =>?_
  refine yo held4 λh5 f5 k5 e5 =>?_
  rw[<- hst] at f5
  have F5:=F.on f5 (k4.trans k5)
  have I5:Inv X pins σ1 H2 { s1 with heap:=h5 }:=I1.land os g F5
  refine wpAny_handleBy_cons (codeAny_handlers_test ?_) (by intro z;cases z)
  refine fc (X:=X.mark ea) (I5.mark ea) hg hm ?_ hdb
  have LT:Looks (Cn X.prog X.w) h5 (typeOf (.ref ea)) cls:=by
    obtain ⟨ob,hob,hc⟩:=f5.there
    subst hc
    exact (Looks.ld hob).andThen .now
  refine (exm_one (M:=Cn X.prog X.w) I5.kIn LT hm2).here ?_
  refine codeAny_handlers_suite_as ?_
  refine yp f5 λh6 f6 k6 e6 =>?_
  have F6:=F5.on f6 k6
  have I6:Inv X pins σ1 H2 { s1 with heap:=h6 }:=I1.land os g F6
  have I7:=I1.An I6 F6 (d:=d) (((D.kd e4).kd e5).kd e6)
  refine kq (v :=.ref ea) I7 hN hi (.inl hx) rfl (λs7 I8 =>?_) (.inr hx)
  have cls0:(X.env.scope.kind == .class || (X.env.scope.kind == .module && X.env.locals != X.env.globals))=false:=by rw[I.ok.kind];rfl
  have go:∀{σ2:St} {H3:Hp} {s8:BR} {Q:Unit->BR->Prop} {E:BP->BR->Prop},Inv (X.mark ea) pins σ2 H3 s8->(∀s9,Inv X pins (σ2.set i none) H3 s9->Q () s9)->Cb (Cn X.prog X.w) X.A (do bindName X.env n .none;unbindBehindTheSuite X.env n hp) Q E s8:=λ{σ2 H3 s8 Q E} J hQ=>by
    have J':Inv X pins σ2 H3 s8:=J.unmark I.ok
    obtain ⟨m,hn,hl⟩:=J'.loc
    exact wpAny_nameGoes_keeps hx hn cls0 λh9 v hn9 hs9=>hQ _ (J'.gone hN hi hn hl hn9 hs9)
  refine C5 (hs ea pins s7 _ _ _ (I8.mark ea) (q ea F.no)) (λf s8 r =>?_) λ_ _ z=>False.elim z
  cases f with
  | next =>
    obtain ⟨σ2,H3,J,r⟩:=r
    exact go J λs9 J9=>⟨_,H3,J9,r⟩
  | brk =>
    obtain ⟨σ2,H3,J,r⟩:=r
    exact go J λs9 J9=>⟨_,H3,J9,r⟩
  | cont =>
    obtain ⟨σ2,H3,J,r⟩:=r
    exact go J λs9 J9=>⟨_,H3,J9,r⟩
  | ret u =>
    obtain ⟨v,σ2,H3,J,rv,r⟩:=r
    exact go J λs9 J9=>⟨v,_,H3,J9,rv,r⟩
end
open PySem PySem.Spec PySem.W PyProof.Rows
theorem pU {h:Heap}{bmB tl:List BP}(T:OwnTail h bmB tl)(self:BP)(what:Str):refuseLoop self what tl=refuseLoop self what bmB:=by
 induction T with
 | base=>rfl
 | own _ _ _ _ ih=>rw[refuseLoop_ref];exact ih
structure ExS (K:BM)(C:Addr)(f:Str):Prop where
 sa:findIn K (.ref C) "__setattr__" = some (some (.builtin "object.__setattr__"))
 na:findIn K (.ref C) f=some none
 mo:subIn K (.ref C) (.type "object")=some true
section
variable  {K:BM}{prog:B7}{w:CJ}{A:CK}{E:BP->BR->Prop}{h:Heap}{g:Array GenState}{d:Drawn}{t:Nat}{os:OsState}{x C:Addr}{o:Obj}
variable  {nm q:Str}{N:Addr}{bs bm:List BP}{sn:List Str}{sub:List BP}{ab:Bool}{col:Option Bool}{dd:Option Addr}{k0 k1 k2 k3 k5:Option BP}{newId:String}{name:Str}{v:BP}
theorem wy {M:Model}{nv:BP}{Q:Unit->BR->Prop}(X:K.In h)(Z:ExS K C name)(hx:h.get? x=some o)(hc:o.cls = .ref C)(k:Q () ⟨h,g,d,t,os⟩):Cb M A (checkBuiltinCall "object.__setattr__" ⟨[.ref x,nv,v],[]⟩) Q E ⟨h,g,d,t,os⟩:=by
 have k1:=Ed.kind
 have k2:=Ed.split
 have L1:=IS (M:=M) X Z.mo
 have ha:=Ed.args (.ref x) nv v
 simp only[checkBuiltinCall,k1,k2]
 refine BN ?_
 unfold isInstance
 repeat (first | (with_reducible refine CW hx ?_;rw[hc]) | with_reducible refine L1.at ?_ | wp_step)
 exact k
theorem wz {tk:Tok}{Q:Fin->BR->Prop}(X:K.In h)(Z:ExS K C name)(hC:h.get? C=some (excClassObj nm q C N bs bm true sn sub ab col dd k0 k1 k2 k3 k5 newId))(T:OwnTail h mV bm)(hx:h.get? x=some o)(hc:o.cls = .ref C)(hd:o.dict=none)(hnc:∀c,o.data ≠ .cls c)
  (hq:∀h' tk',h'.get? x=some { o with dict:=some h.objs.size }->h'.Ns1 h.objs.size (λy=>if y=name then some v else none)->(∀b u,b≠x->h.get? b=some u->h'.get? b=some u)->Q (.done (.ret .none)) ⟨h',g,d,tk',os⟩) :
  Cb (Cn prog w) A (Builtin.«object.__setattr__» ⟨[.ref x,.str name tk,v],[]⟩) Q E ⟨h,g,d,t,os⟩:=by
 have pass:refuseLoop (.ref x) "__setattr__" bm=pure ():=(pU T _ _).trans (Ed.passes (.ref x))
 have L1:=ER (M:=Cn prog w) X Z.na
 unfold Builtin.«object.__setattr__»
 repeat (first | rw[refuse_eq] | (rw[refuseLoop_ref,pass]) | (with_reducible refine CW hx ?_;rw[hc]) | with_reducible refine wpAny_mroOf_exc hC ?_ | with_reducible refine L1.at ?_ | wp_step)
 rw[hd,if_neg (by simp[typeHasDict])]
 let D:Obj:={ cls :=.type "dict",data :=.dict #[] }
 have p1:(h.push D).get? x=some o:=BO _ hx
 have p2:x≠h.objs.size:=λz=>absurd (BW hx) (z ▸ Dc _)
 have live:o.isFreed=false:=iC hx
 have u1:((h.push D).update x λo=>{ o with dict:=some h.objs.size }).get? x=some { o with dict:=some h.objs.size } :=
  C6 _ p1 (by obtain ⟨a,b,c,e⟩:=o;cases c <;> first | rfl | exact live)
 have u2:((h.push D).update x λo=>{ o with dict:=some h.objs.size }).get? h.objs.size=some D:=(Dp _ _ _ _ (DE p2)).trans (HB rfl rfl)
 have u3:∀b u,b≠x->h.get? b=some u->((h.push D).update x λo=>{ o with dict:=some h.objs.size }).get? b=some u:=λb u n e=>(Dp _ _ _ _ n).trans (BO _ e)
 have emp:((h.push D).update x λo=>{ o with dict:=some h.objs.size }).Ns1 h.objs.size λ_=>none:=Heap.Ns1.of_empty ⟨D, #[],_,u2,rfl,λe m=>absurd m (by simp),λ_=>rfl⟩
 have fin:Cb (Cn prog w) A (Builtin.ObjectAttr.storeInDict h.objs.size (.str name tk) name v) Q E ⟨(h.push D).update x λo=>{ o with dict:=some h.objs.size },g,d,t,os⟩:=by
  unfold Builtin.ObjectAttr.storeInDict Builtin.ObjectAttr.newKeyGuard
  refine BN (BS (BN (wpAny_nsSet1 emp λh2 n2 s2 =>?_)))
  obtain ⟨ob,es,ep,e1,e2,e3⟩:=n2.count (Within.cons name v Within.nil)
  refine BN (wpAny_lookBehind e1 (by rw[e2];exact pastItsLine_dict (Cq e3 (by show 1<=_;decide))) ?_)
  wp_walk
  refine hq h2 _ ((s2.2 x p2).trans u1) n2 λb u n e=>(s2.2 b ?_).trans (u3 b u n e)
  exact λz=>absurd (BW e) (z ▸ Dc _)
 split
 ·rename_i q
  cases q
 split
 ·rename_i c q
  exact absurd q (hnc c)
 ·refine BN (wpAny_alloc' (o:=D) ?_)
  refine BN (wpAny_update' p1 ?_)
  exact BS fin
theorem yt {Q:Unit->BR->Prop}(X:K.In h)(Z:ExS K C name)(hC:h.get? C=some (excClassObj nm q C N bs bm true sn sub ab col dd k0 k1 k2 k3 k5 newId))(T:OwnTail h mV bm)(hx:h.get? x=some o)(hc:o.cls = .ref C)(hd:o.dict=none)(hnc:∀c,o.data ≠ .cls c)
  (hq:∀h' tk',h'.get? x=some { o with dict:=some h.objs.size }->h'.Ns1 h.objs.size (λy=>if y=name then some v else none)->(∀b u,b≠x->h.get? b=some u->h'.get? b=some u)->Q () ⟨h',g,d,tk',os⟩) :
  Cb (Cn prog w) A (setAttr (.ref x) name v) Q E ⟨h,g,d,t,os⟩:=by
 have f3:=Ed.slot.bind (.ref x)
 have LS:=ER (M:=Cn prog w) X Z.sa
 unfold setAttr callSpecial? specialOf
 repeat (any_goals (first | assumption | (with_reducible refine CW hx ?_;rw[hc]) | with_reducible refine LS.at ?_ | wp_step))
 refine EI Ed.slot.plain Ed.entry (wy X Z hx hc (wz X Z hC T hx hc hd hnc λh2 tk2 a b c =>?_))
 repeat (any_goals (first | assumption | wp_step))
 exact hq h2 tk2 a b c
end
def cX (ea C:Addr)(d:Option Addr):HO :=.ext λh=>∃o vs t,h.get? ea=some o/\o.cls = .ref C/\o.data = .fields vs/\vs.size=6/\vs[0]? = some (.ref t)/\vs[1]? = some .none/\o.dict=d
theorem om {P:B7}{w:CJ}{H:Hp}{h:Heap}{ea C:Addr}{d:Option Addr}(x:∃o vs t,h.get? ea=some o/\o.cls = .ref C/\o.data = .fields vs/\vs.size=6/\vs[0]? = some (.ref t)/\vs[1]? = some .none/\o.dict=d):bo P w H h ea (cX ea C d) :=
 ⟨x,by obtain ⟨o,_,_,e,_⟩:=x;exact ⟨o,e⟩,λh1 h2 p k=>by obtain ⟨o,vs,t,e,r⟩:=p;exact ⟨o,vs,t,k o e,r⟩⟩
structure ExN (K:BM)(C:Addr):Prop where
 ob:∃nm q N bs bm sn sub ab col dd k0 k1 k2 k3 k5,K.lookup C=some (excClassObj nm q C N bs bm true sn sub ab col dd k0 k1 k2 k3 k5 "ValueError.__new__")/\tailIn K mV bm=true
section
variable  {X:Cx}{pins:List (Addr×Obj)}{σ:St}{H:Hp}{s:BR}{ea C:Addr}{f:Str}{v:V}{u:BP}
theorem Inv.Ao {h':Heap}{tk:Nat}(I:Inv X pins σ H s)(he:H ea=some (cX ea C none))(o:Obj)(ho:s.heap.get? ea=some o)(r:RelV v u)(a:h'.get? ea=some { o with dict:=some s.heap.objs.size })
  (b:h'.Ns1 s.heap.objs.size (λy=>if y=f then some u else none)) (c:∀b u,b≠ea->s.heap.get? b=some u->h'.get? b=some u) :
  Inv X pins σ (upd (upd H s.heap.objs.size (.xd [(f,v)])) ea (cX ea C (some s.heap.objs.size))) { s with heap:=h',toks:=tk }:=by
 have hn:=I.fresh
 have ne:ea≠s.heap.objs.size:=Cp (BW ho)
 have nsD:=b
 obtain ⟨oD,es,ep,eD,rD⟩:=id b
 have k1:∀b u,s.heap.get? b=some u->(s.heap.push oD).get? b=some u:=λb u e=>BO _ e
 have mu:Mut (upd H s.heap.objs.size (.xd [(f,v)]) ea):=by rw[ax ne,he];exact True.intro
 have live:oD.isFreed=false:=iC eD
 have own:∀(c:Addr) (y:Addr),H c=some (.own y)->c≠ea:=λc y q z=>by rw[z,he] at q;cases q
 have tup:∀(c:Addr) xs,H c=some (.tup xs)->c≠ea:=λc xs q z=>by rw[z,he] at q;cases q
 refine I.un ((Un.laid k1 (BV _) hn).trans (Un.write (x:=ea) (e:=ea) mu (.inl rfl) (λb u n e =>?_) ⟨_,a⟩)) λb w e =>?_
 ·by_cases z:b=s.heap.objs.size
  ·rw[z,HB rfl live] at e
   cases e
   rw[z];exact eD
  ·refine c b u n ?_
   rwa [Heap.get?_push_ne _ _ _ z] at e
 ·by_cases z:b=ea
  ·subst z
   rw[af] at e
   cases e
   obtain ⟨⟨o',vs,t,e1,e2,e3,e4,e5,e6,e7⟩,_⟩:=I.hok _ _ he
   rw[ho] at e1;cases e1
   exact om ⟨_,vs,t,a,e2,e3,e4,e5,e6,rfl⟩
  ·rw[ax z] at e
   by_cases y:b=s.heap.objs.size
   ·subst y
    rw[af] at e
    cases e
    refine ⟨_,nsD,λg =>?_⟩
    show gT (List.lookup g [(f,v)]) (if g=f then some u else none)
    by_cases q:g=f
    ·have hb:(g == f)=true:=beq_iff_eq.mpr q
     rw[if_pos q];simp only[List.lookup,hb];exact r
    ·have hb:(g == f)=false:=beq_eq_false_iff_ne.mpr q
     rw[if_neg q];simp only[List.lookup,hb];exact True.intro
   ·rw[ax y] at e
    refine (I.hok b w e).fV (λc' w' hc q=>c c' w' ?_ q) (λc' q =>?_) λc' xs q =>?_
    ·rcases hc with rfl | hc
     ·exact z
     ·exact own _ _ hc
    ·rw[ax (own _ _ q),ax (aF q hn)];exact q
    ·rw[ax (tup _ _ q),ax (aF q hn)];exact q
theorem wA {tk:Nat}{Q:Unit->BR->Prop}{E:BP->BR->Prop}(I:Inv X pins σ H s)(he:H ea=some (cX ea C none))(N:ExN X.K C)(Z:ExS X.K C f)(r:RelV v u)
  (h:∀s' dx,H dx=none->dx≠ea->Inv X pins σ (upd (upd H dx (.xd [(f,v)])) ea (cX ea C (some dx))) s'->Q () s'):Cb (Cn X.prog X.w) X.A (setAttr (.ref ea) f u) Q E s:=by
 obtain ⟨nm,q,N0,bs,bm,sn,sub,ab,col,dd,k0,k1,k2,k3,k5,lk,tl⟩:=N.ob
 have KI:=I.kIn
 obtain ⟨⟨o,vs,t,e1,e2,e3,e4,e5,e6,e7⟩,_⟩:=I.hok _ _ he
 obtain ⟨hh,g,d,tk,os⟩:=s
 refine yt KI Z (KI _ _ lk) (Kj KI tl) e1 e2 e7 (λc z=>by rw[e3] at z;cases z) λh' tk' a b c=>h _ hh.objs.size I.fresh (E6 (BW e1)) ?_
 exact Inv.Ao (tk:=tk') I he o e1 r a b c
def sExF (K:BM)(ta tv:TE)(f:Str):TS:=λD σ H=>tv σ H λy H1=>ta σ H1 λx H2=>∃a C,x = .ref a/\H2 a=some (cX a C none)/\ExN K C/\ExS K C f/\∀dx,H2 dx=none->dx≠a →
 D.nx σ (upd (upd H2 dx (.xd [(f,y)])) a (cX a C (some dx)))
theorem Ap {o value:Expr}{pos pos':Pos}{ta tv:TE}(ha:PE X o ta)(hv:PE X value tv)(hs:swapsWith value (some (.Attribute o f pos')) pos.line X.env=pure false):PS X (.Assign [.Attribute o f pos'] value pos) (sExF X.K ta tv f):=by
 intro pins s σ H D I h
 refine plainObj_wpAny_Assign_Attribute (thn (hv pins s σ H _ I h) λu s1 ⟨y,H1,I1,ry,q⟩=>thn (ha pins s1 σ H1 _ I1 q) λov s2 ⟨x,H2,I2,rx,a,C,ex,e0,c,n,q2⟩ =>?_) hs
 subst ex
 obtain rfl:ov=Cc a:=rx
 exact wA (tk:=0) I2 e0 c n ry λs3 dx n1 n2 I3=>⟨σ,_,I3,q2 dx n1 n2⟩
end
open PySem PySem.Spec PySem.W PyProof.Rows
section
variable  {X:Cx}{pins:List (Addr×Obj)}{σ:St}{H:Hp}{s:BR}{ea C:Addr}{d:Option Addr}
theorem Inv.Aq {its:List BP}(I:Inv X pins σ H s)(he:H ea=some (cX ea C d)) :
  Inv X pins σ H { s with heap:=(s.heap.push { cls :=.type "tuple",data :=.seq its.toArray }).update ea (Obj.mapFields (·.setIfInBounds 0 (.ref s.heap.objs.size))) }:=by
 obtain ⟨⟨o,vs,t,e1,e2,e3,e4,e5,e6,e7⟩,_⟩:=I.hok _ _ he
 have p1:(s.heap.push { cls :=.type "tuple",data :=.seq its.toArray }).get? ea=some o:=BO _ e1
 have k:∀b u,b≠ea->s.heap.get? b=some u->((s.heap.push { cls :=.type "tuple",data :=.seq its.toArray }).update ea (Obj.mapFields (·.setIfInBounds 0 (.ref s.heap.objs.size)))).get? b=some u:=λb u n e =>
  (Dp _ _ _ _ n).trans (BO _ e)
 have m:=gg (·.setIfInBounds 0 (.ref s.heap.objs.size)) o
 have a:=C6 (Obj.mapFields (·.setIfInBounds 0 (.ref s.heap.objs.size))) p1 (m.2.2.trans (iC e1))
 have z:=I.write (x:=ea) (e:=ea) (o:=cX ea C d) (t':=s.toks) (by rw[he];exact True.intro) (.inl rfl) k ⟨_,a⟩
  (om ⟨_,vs.setIfInBounds 0 (.ref s.heap.objs.size),s.heap.objs.size,a,m.1.trans e2,Eb e3 _,by simpa using e4,by rw[Array.getElem?_setIfInBounds_self_of_lt (by omega)],by rw[Array.getElem?_setIfInBounds_ne (by decide)];exact e6,m.2.1.trans e7⟩)
 have same:upd H ea (cX ea C d)=H:=by
  funext b
  by_cases q:b=ea
  ·rw[q,af,he]
  ·rw[ax q]
 rw[same] at z
 exact z
theorem yu {us:List BP}{Q:BP->BR->Prop}{E:BP->BR->Prop}(I:Inv X pins σ H s)(he:H ea=some (cX ea C d))(N:ExN X.K C)(hz:us.length<=Ca)(h:∀s',Inv X pins σ H s'->Q .none s') :
  Cb (Cn X.prog X.w) X.A (call (.builtin "ValueError.__init__") (.ref ea :: us)) Q E s:=by
 obtain ⟨nm,q,N0,bs,bm,sn,sub,ab,col,dd,k0,k1,k2,k3,k5,lk,tl⟩:=N.ob
 have KI:=I.kIn
 have J:=Inv.Aq (its:=us) I he
 obtain ⟨⟨o,vs,t,e1,e2,e3,e4,e5,e6,e7⟩,_⟩:=I.hok _ _ he
 obtain ⟨hh,g,dr,tk,os⟩:=s
 refine GG (EI Ek.init.plain Ek.initEntry (wpAny_check_init_subT Ek (Kj KI tl) (KI _ _ lk) e1 e2 ?_))
 wp_walk
 rw[e3]
 refine BS ?_
 show Cb _ _ (match vs[0]? with | some x=>pure x | none=>unsupported "internal:no-such-field") _ _ _
 rw[e5]
 refine BS (BN (Fu (BO _ e1) e3 (by omega) ?_))
 wp_walk
 exact h _ J
end
structure ExW (K:BM)(mg:Str->Option BP)(x:Str)(W:Addr):Prop where
 mg:mg x=some (.ref W)
 ga:specialIn K (.ref W) "__getattribute__" = some (some (.builtin "type.__getattribute__"))
 rd:readsIn K W (.type "type")=true
 fd:findCls K (.ref W) (.type "type") "__init__" = some (.val (.builtin "ValueError.__init__"))
def tExI (K:BM)(t:TA):TE:=λσ H Q=>t σ H λvs H1=>∃a C d r,vs = .ref a :: r/\H1 a=some (cX a C d)/\ExN K C/\r.length<=Ca/\Q .non H1
section
variable  {X:Cx}{x:Str}{W:Addr}{e:Expr}{es:List Expr}{t:TA}{np apos pos:Pos}
theorem uP {pl:Sem Bool}(w:ExW X.K X.mg x W)(hg:Gl X x)(ha:PA X (e :: es) t)(hdb:(x == ("__debug__" : Str))=false:=by decide)
    (he:CO (e :: es) X.env=(false,eval e X.env) :: CO es X.env:=by rfl) (hpl:(Fi pos (CO es X.env)).any (·.1)=false:=by rfl)
    (ht:eval (.Call (.Attribute (.Name x np) "__init__" apos) (e :: es) [] pos) X.env=(do
      let ov ← eval (.Name x np) X.env
      standAt apos.atName
      let (f,first) ← JT [ov] (getMethod ov "__init__" pl)
      callWith pos f first (Fi pos (CO (e :: es) X.env)) (backToKw pos (keywordEach [] X.env))):=by rfl) :
    PE X (.Call (.Attribute (.Name x np) "__init__" apos) (e :: es) [] pos) (tExI X.K t):=by
  intro pins s σ H Q I h
  refine methodCall_KW (pl:=pl) (fc I hg w.mg ?_ hdb) ht
  refine method_cls I.kIn w.ga (cls_value I.kIn w.rd w.fd (by decide +kernel) ?_)
  have hA:=ha pos pins { s with toks:=s.toks+1 } σ H _ (I.tok _) h
  rw[he] at hA ⊢
  refine FY (by show (false || (Fi pos (CO es X.env)).any (·.1))=false;rw[hpl];rfl) (Gu ?_)
  refine thn hA λus s2 ⟨vs,H2,I2,r2,a,C,d,r,ev,ea,N,z,q⟩ =>?_
  subst ev
  cases r2 with | cons r3 r4 =>
  have r3:_=Cc a:=r3
  subst r3
  exact yu I2 ea N (by rw[<- r4.length];exact z) λs3 I3=>⟨.non,H2,I3,rfl,q⟩
end
open PySem PySem.Spec PySem.W PyProof.Rows
section
variable  {K:BM}{prog:B7}{w:CJ}{A:CK}{E:BP->BR->Prop}{h:Heap}{g:Array GenState}{d:Drawn}{t:Nat}{os:OsState}{C fI:Addr}{us:List BP}
variable  {nm q:Str}{N:Addr}{bs bm:List BP}{hdct:Bool}{sn:List Str}{sub:List BP}{ab:Bool}{col:Option Bool}{dd:Option Addr}{k0 k1 k2 k3 k5:Option BP}
theorem yv {Q:PySem.Fin->BR->Prop}(X:K.In h)(T:OwnTail h mV bm)(hC:h.get? C=some (excClassObj nm q C N bs bm hdct sn sub ab col dd k0 k1 k2 k3 k5 "ValueError.__new__"))
  (hi:findIn K (.ref C) "__init__" = some (some (.ref fI))) (hf:typeIn K (.ref fI)=some (.type "function")) (hz:us.length<=Ca)
  (hq:∀h',Heap.MadeExcOf h h' (h.objs.size+1) (.ref C) us->Cb (Cn prog w) A (call (.ref fI) (.ref (h.objs.size+1) :: us)) (λr s'=>r = .none/\Q (.done (.ret (.ref (h.objs.size+1)))) s') E ⟨h',g,d,t,os⟩) :
  Cb (Cn prog w) A (Builtin.«type.__call__» ⟨.ref C :: us,[]⟩) Q E ⟨h,g,d,t,os⟩:=by
 repeat (first | with_reducible refine CW hC ?_ | with_reducible refine wpAny_madeBy_exc hC ?_ | wp_step)
 refine codeAny_call_builtin_code (FO _ Ek.quiet) (wpAny_check_new_subT Ek T hC (codeAny_exc_new_subT Ek T hC ?_ hz))
 show Cb _ _ _ _ _ _
 have made:Heap.MadeExcOf h ((h.push { cls :=.type "tuple",data :=.seq us.toArray }).push { cls :=.ref C,data :=.fields #[.ref h.objs.size,.none,.none,.none,.bool false,.none] }) (h.objs.size+1) (.ref C) us :=
  ⟨λb o e=>BO _ (BO _ e),Fp (F3 _),h.objs.size,by heap_get,Fp (BV _),BO _ (HB rfl rfl)⟩
 obtain ⟨p,tup,e1,e2,e3⟩:=id made
 have X':K.In ((h.push { cls :=.type "tuple",data :=.seq us.toArray }).push { cls :=.ref C,data :=.fields #[.ref h.objs.size,.none,.none,.none,.bool false,.none] }):=X.keeps p
 have hC':=p _ _ hC
 have own:(Cc C :: bm).contains (.ref C)=true:=by simp
 have L1:=ER (M:=Cn prog w) X' hi
 have L2:=looks_typeIn (M:=Cn prog w) X' hf
 unfold isInstance
 repeat (first | with_reducible refine CW e1 ?_ | (with_reducible refine wpAny_isSubtype_exc hC' ?_;rw[own]) | wp_step)
 show Cb _ _ (typeLookup (.ref C) _) _ _ _
 refine L1.here ?_
 refine Dv (BN ?_)
 refine (bind_fn X' (.ref (h.objs.size+1)) hf).here ?_
 refine BN (C5 (hq _ made) (λr s' z =>?_) λ_ _ z=>z)
 obtain ⟨rfl,z⟩:=z
 wp_walk
 exact z
theorem yw {Q:BP->BR->Prop}(X:K.In h)(T:OwnTail h mV bm)(hC:h.get? C=some (excClassObj nm q C N bs bm hdct sn sub ab col dd k0 k1 k2 k3 k5 "ValueError.__new__"))
  (hi:findIn K (.ref C) "__init__" = some (some (.ref fI))) (hf:typeIn K (.ref fI)=some (.type "function")) (hz:us.length<=Ca)
  (hq:∀h',Heap.MadeExcOf h h' (h.objs.size+1) (.ref C) us->Cb (Cn prog w) (A.under (.builtin "type.__call__" ⟨.ref C :: us,[]⟩)) (call (.ref fI) (.ref (h.objs.size+1) :: us)) (λr s'=>r = .none/\Q (.ref (h.objs.size+1)) s') E ⟨h',g,d,t,os⟩) :
  Cb (Cn prog w) A (call (.ref C) us) Q E ⟨h,g,d,t,os⟩:=by
 have l1:=tc_lookup
 have l2:=tc_bind (.ref C)
 have ty:(⟨h,g,d,t,os⟩:BR).TypeIs (.ref C) "type" :=⟨_,hC,rfl⟩
 refine GG (codeAny_of_tree ?_)
 show Cb _ _ (callAny (.ref C) _) _ _ _
 repeat (any_goals (first | assumption | with_reducible refine CW hC ?_ | wp_step))
 refine ⟨rfl,codeAny_call_builtin_at (FO _ (by decide +kernel)) entry_typeCall (wpAny_check_type_call_sub hC (yv X T hC hi hf hz λh' made =>?_))⟩
 exact hq h' made
end
structure ExK (K:BM)(C f:Addr):Prop where
 n:ExN K C
 init:findIn K (.ref C) "__init__" = some (some (.ref f))
 fn:isFn K (.ref f)=true
 kp:keepIn K (.ref C)=true
section
variable  {X:Cx}{CX:CXT}{k:Nat}{f C:Addr}{fd:CT}{ps:List Str}{sp:Sp}{E:XK}{x:Str}{p pos:Pos}{e:Expr}{es:List Expr}{t:TA}
theorem uQ {R:BP->BR->Prop}{pins:List (Addr×Obj)}{σ:St}{H:Hp}{s:BR}{Q:VK}{us:List BP}{vs:List V}(M:ExK X.K C f)(F:bS X.prog X.w X.K X.mg X.base CX k f fd ps sp)(hr:bX (k+1) X.A)(hb:Binds X.K fd ps [])
  (hx:Passes CX X E) (I:Inv X pins σ H s) (r:Vals vs us) (hz:vs.length<=Ca) (h:∀ea,H ea=none->sp (.ref ea :: vs) (upd H ea (cX ea C none)) (λv H2=>v = .non/\Q (.ref ea) H2) E)
  (hR:∀ea s' H',X.s₀.heap.get? ea=none->Inv X pins σ H' s'->Q (.ref ea) H'->R (.ref ea) s'):Cb (Cn X.prog X.w) X.A (call (.ref C) us) R X.xe s:=by
 have hq:=h (s.heap.objs.size+1) (I.hok.fresh (F3 _))
 obtain ⟨nm,q,N0,bs,bm,sn,sub,ab,col,dd,k0,k1,k2,k3,k5,lk,tl⟩:=M.n.ob
 have KI:=I.kIn
 have new:X.s₀.heap.get? (s.heap.objs.size+1)=none:=Fp (Fj I.sz)
 obtain ⟨hh,g,d,tk,os⟩:=s
 refine yw KI (Kj KI tl) (KI _ _ lk) M.init (beq_iff_eq.mp M.fn) (by rw[<- r.length];exact hz) λh' made =>?_
 obtain ⟨kp,_,tp,m1,m2,m3⟩:=id made
 have I2:Inv X pins σ (upd H (hh.objs.size+1) (cX (hh.objs.size+1) C none)) ⟨h',g,d,tk,os⟩ :=
  I.laid (s:=⟨hh,g,d,tk,os⟩) (t':=tk) kp (F3 _) (om ⟨_,_,tp,m1,rfl,rfl,rfl,rfl,rfl,rfl⟩)
 have r2:Vals (V.ref (hh.objs.size+1) :: vs) (Cc (hh.objs.size+1) :: us) :=.cons rfl r
 have hl:(Cc (hh.objs.size+1) :: us).length=ps.length:=by rw[<- r2.length];exact F.len _ _ _ _ hq
 have hb':=hb ⟨h',g,d,tk,os⟩ (Cc (hh.objs.size+1) :: us) I2.kIn (by rw[CF];exact hl)
 rw[CF] at hb'
 refine GG (Ff (F.run _ X.stack _ _ ⟨Cc (hh.objs.size+1) :: us,[]⟩ (Cc (hh.objs.size+1) :: us) _ _ E (hr.make C us []) (I2.xK.make C us []) hb' r2 hq) λr s' hq' =>?_)
 cases r with
 | error e=>exact hx pins σ _ _ e s' I2 hq'
 | ok fl =>
  cases fl with
  | ret u =>
   obtain ⟨v,H',I3,rv,ev,q3⟩:=I2.after hq'
   subst ev
   exact ⟨rv,hR _ _ _ new I3 q3⟩
  | next=>exact False.elim hq'
  | brk=>exact False.elim hq'
  | cont=>exact False.elim hq'
end
open PySem PySem.Spec PySem.W PyProof.Rows
section
variable  {K:BM}{M:Model}{A:CK}{E:BP->BR->Prop}{s:BR}{env:Env}{C:Addr}
theorem yx {x:Sem BP}{Q:Flow->BR->Prop}(hh:A.handled=none)(sb:subIn K (.ref C) (.type "BaseException")=some true)(ty:typeIn K (.ref C)=some (.type "type"))
  (h:Cb M A x (λv s₁=>∃e o vs,v = .ref e/\K.In s₁.heap/\s₁.heap.get? e=some o/\o.cls = .ref C/\o.data = .fields vs/\vs[1]? = some .none/\E (.ref e) s₁) E s):Cb M A (raiseStmt env (some x) none) Q E s:=by
 unfold raiseStmt
 refine BN (C5 h (λv s₁ z =>?_) λ_ _ z=>z)
 obtain ⟨e,o,vs,rfl,X,he,hc,hd,h1,hE⟩:=z
 obtain ⟨hp,g,d,tk,os⟩:=s₁
 have L1:=IS (M:=M) X sb
 have L2:=looks_typeIn (M:=M) X ty
 repeat (first | (with_reducible refine CW he ?_;first | rw[hc] | rw[hd]) | with_reducible refine L1.at ?_ | with_reducible refine L2.at ?_ | wp_step)
 rw[hd]
 refine BS ?_
 show Cb _ _ (match vs[1]? with | some x=>pure x | none=>unsupported "internal:no-such-field") _ _ _
 rw[h1]
 refine BS ?_
 repeat (first | (with_reducible refine CW he ?_;first | rw[hc] | rw[hd]) | with_reducible refine L1.at ?_ | with_reducible refine L2.at ?_ | wp_step)
 exact IT hh hE
end
def rm (H:Hp)(a:Addr):Hp:=λb=>if b=a then none else H b
theorem gR {H:Hp}{a b:Addr}(n:b≠a):rm H a b=H b:=if_neg n
theorem oo {H:Hp}{a:Addr}:rm H a a=none:=if_pos rfl
theorem HOk.rm {P:B7}{w:CJ}{H:Hp}{h:Heap}{a:Addr}{φ:Heap->Prop}(x:HOk P w H h)(e:H a=some (.ext φ)):HOk P w (rm H a) h:=λb u q=>by
 have n:b≠a:=λz=>by rw[z,oo] at q;cases q
 rw[gR n] at q
 exact (x b u q).fV (λ_ _ _ y=>y) (λc y=>by rw[gR (λz=>by rw[z,e] at y;cases y)];exact y) λc xs y=>by rw[gR (λz=>by rw[z,e] at y;cases y)];exact y
section
variable  {X:Cx}{pins:List (Addr×Obj)}{σ:St}{H:Hp}{s:BR}{ea C:Addr}{d:Option Addr}
theorem Fly.Bw {M:Model}{E:BP->BR->Prop}{Q:Unit->BR->Prop}(I:Inv X pins σ H s)(hst:X.stack=X.env :: X.outer)(hfr:X.env.frame=some X.env.locals)(hex:X.ex=[])
  (he:H ea=some (cX ea C d)) (hn:X.s₀.heap.get? ea=none) (hQ:∀h2 B a0,Fly X.prog X.w X.outer X.H₀ (rm H ea) X.s₀.heap B ea (.ref C) a0 h2->XD h2 ea d->Q () { s with heap:=h2 }):Cb M X.A (leaving X.env (.ref ea)) Q E s:=by
 obtain ⟨⟨o,vs,t,e1,e2,e3,e4,e5,e6,e7⟩,_⟩:=I.hok _ _ he
 have ff:=I.stack
 have ff':=funFrames_hide (as:=ea :: frs X.stack) ff λenv hm b hb=>B9 _ (E5.mpr ⟨env,hm,hb⟩)
 have fh:∀b∈frs X.stack,H b=none:=I.jW
 have nL:∀b o,X.s₀.heap.get? b=some o->b≠X.env.locals:=λb o q z=>absurd (B8 (BW q) (z ▸ I.ok.above)) (Dc _)
 have ne:∀b o,X.s₀.heap.get? b=some o->b≠ea:=λb o q z=>by rw[z,hn] at q;cases q
 have nst:∀b,b∉X.fs->b≠X.env.locals->b≠ea->b∉ea :: frs X.stack:=λb n1 n2 n3 m=>by
  rcases Cw.mp m with m | m
  ·exact n3 m
  rw[hst] at m
  unfold frs at m
  rw[Dw,hfr] at m
  rcases Cw.mp m with z | z
  ·exact n2 z
  ·exact n1 z
 have sub:∀b∈X.fs,b∈frs X.stack:=λb m=>by
  rw[hst];unfold frs;rw[Dw,hfr];exact B9 _ m
 have nx:∀b,b∉X.ex:=λb m=>by rw[hex] at m;cases m
 have nh:∀b u,(∀φ,u≠HO.ext φ)->H b=some u->b≠ea:=λb u nu q z=>by rw[z,he] at q;cases q;exact nu _ rfl
 have none_ea:(hideAll s.heap (ea :: frs X.stack)).get? ea=none:=hideAll_none _ (.head _)
 have z:=dg (gP X.env (.ref ea)) (wpAny_leaving_firstW (M:=M) (A:=X.A) (E:=E) (s:=s) (base:=hideAll s.heap (ea :: frs X.stack)) (outer:=X.outer) (a0 :=.ref t) (Q:=λ_ s2=>∃h2,s2={ s with heap:=h2 }/\Heap.LeftW (hideAll s.heap (ea :: frs X.stack)) (X.env :: X.outer) ea o.cls (.ref t) s.heap h2)
  (by rw[I.ok.frames,hst]) (by rw[<- hst];exact ff') hfr e1 (λb u q=>of_hideAll _ q) none_ea e3 e6 e5 λh2 y=>⟨h2,rfl,y⟩)
 refine C5 z (λ_ s2 y =>?_) λ_ _ y=>y.1
 obtain ⟨⟨h2,rfl,L⟩,kd⟩:=y
 obtain ⟨k1,⟨_,_,k2⟩,k3,k4⟩:=L
 rw[e2] at k3
 have f2:Heap.FlyingW (hideAll s.heap (ea :: frs X.stack)) X.outer ea (.ref C) (.ref t) h2:=⟨k1,none_ea,k2,k3⟩
 have sl:∀b∈frs X.stack,∀o,s.heap.get? b=some o->∃sl,h2.get? b=some { o with slots:=sl }:=λb m o e=>by
  obtain ⟨_,o',ho',hd⟩:=ff.mem m
  rw[e] at ho';cases ho'
  exact k4 b o e hd
 refine hQ h2 _ _ ⟨f2,⟨λb o q n m _ =>?_,λb o q n m _ =>?_,λb o q n _ =>?_,λb o q _ =>?_,λb xs q =>?_,λb o u q =>?_,λb ps q =>?_⟩,(I.hok.rm he).hide λb m =>?_,λb o q n m =>?_,λb o q m =>?_⟩ ?_
 ·exact k1 _ _ (HP _ (I.base.keep b o q n m (nx b)) (nst b m (nL b o q) (ne b o q)))
 ·obtain ⟨s1,e⟩:=I.base.slot b o q n m (nx b)
  obtain ⟨s2,e'⟩:=sl b (sub b m) _ e
  exact ⟨s2,e'⟩
 ·rw[gR (ne b o q)];exact I.base.free b o q n (nx b)
 ·obtain ⟨o',e⟩:=I.base.there b o q (nx b)
  by_cases m:b∈frs X.stack
  ·obtain ⟨s2,e'⟩:=sl b m _ e
   exact ⟨_,e'⟩
  ·exact ⟨o',k1 _ _ (HP _ e λmm=>(Cw.mp mm).elim (ne b o q) m)⟩
 ·have y:=I.base.tups b xs q
  rw[gR (nh b _ (λ_ z=>by cases z) y)];exact y
 ·have y:=I.base.frzs b o u q
  rw[gR (nh b _ (λ_ z=>by cases z) y)];exact y
 ·obtain ⟨mo,y⟩:=I.base.tbls b ps q
  exact ⟨mo,by rw[gR (nh b _ (λ_ z=>by cases z) y)];exact y⟩
 ·rcases Cw.mp m with m | m
  ·rw[m,oo]
  ·by_cases q:b=ea
   ·rw[q,oo]
   ·rw[gR q];exact fh b m
 ·exact HP _ (I.base.keep b o q n m (nx b)) (nst b m (nL b o q) (ne b o q))
 ·obtain ⟨o',e⟩:=I.base.there b o q (nx b)
  exact ⟨o',HP _ e (nst b m (nL b o q) (ne b o q))⟩
 ·exact λdx ed=>XD.kd kd (λdx' e'=>⟨o,e1,e7.trans e'⟩) dx ed
end
def zt (X:Cx)(E:XK):Prop:=∀(pins:List (Addr×Obj)) (σ:St) (H:Hp) (s:BR) (ea C:Addr) (d:Option Addr),Inv X pins σ H s->H ea=some (cX ea C d)->X.s₀.heap.get? ea=none->E (.ref C) d (rm H ea)->X.xe (.ref ea) s
theorem Bx {P:B7}{w:CJ}{K:BM}{mg:Str->Option BP}{base:Heap}{N:List Str}{qual:Str}{sc:Scope}{f:Addr}{cdv:BP}{A:CK}{outer:List Env}{s₀:BR}{H₀:Hp}{E:XK} :
  zt (gW (CX2 P w) P w K mg base N qual sc f cdv A outer s₀ H₀ E) E:=λpins σ H s ea C d I he hn q=>by
 exact Fly.Bw I rfl rfl rfl he hn λh2 B a0 F2 D=>⟨ea,.ref C,a0,B,rm H ea,d,rfl,I.os,I.bare,F2,D,q⟩
def yy (C:Addr)(sp:Sp)(E:XK)(t:TA):TS:=λ_ σ H=>t σ H λvs H1=>vs.length<=Ca/\∀ea,H1 ea=none →
 sp (.ref ea :: vs) (upd H1 ea (cX ea C none)) (λv H2=>v = .non/\∃a d,V.ref ea = .ref a/\H2 a=some (cX a C d)/\E (.ref C) d (rm H2 a)) E
theorem uS {X:Cx}{CX:CXT}{k:Nat}{f C:Addr}{fd:CT}{ps:List Str}{sp:Sp}{E:XK}{x:Str}{np cpos pos:Pos}{e:Expr}{es:List Expr}{t:TA}(O:zt X E)(M:ExK X.K C f)(sb:subIn X.K (.ref C) (.type "BaseException")=some true)(ty:typeIn X.K (.ref C)=some (.type "type"))
  (F:bS X.prog X.w X.K X.mg X.base CX k f fd ps sp) (hr:bX (k+1) X.A) (hg:Gl X x) (hm:X.mg x=some (.ref C)) (hb:Binds X.K fd ps []) (hx:Passes CX X E)
  (ha:PA X (e :: es) t) (hdb:(x == ("__debug__" : Str))=false:=by decide) (he:CO (e :: es) X.env=(false,eval e X.env) :: CO es X.env:=by rfl) (hpl:(Fi cpos (CO es X.env)).any (·.1)=false:=by rfl) :
  PS X (.Raise (some (.Call (.Name x np) (e :: es) [] cpos)) none pos) (yy C sp E t):=by
 intro pins s σ H D I h
 rw[arm_exec_Raise]
 have go:Cb (Cn X.prog X.w) X.A (eval (.Call (.Name x np) (e :: es) [] cpos) X.env) (λv s₁=>∃e o vs,v = .ref e/\X.K.In s₁.heap/\s₁.heap.get? e=some o/\o.cls = .ref C/\o.data = .fields vs/\vs[1]? = some .none/\X.xe (.ref e) s₁) X.xe s:=by
  refine DG (fc I hg hm ?_ hdb)
  refine FJ (h₀:=X.base) I.ok.mod.kin M.kp (thn (ha cpos pins s σ H _ I h) λus s1 ⟨vs,H1,I1,r,z,q⟩=>⟨I1.kIn,?_⟩) he hpl
  refine uQ (Q:=λv H2=>∃a d,v = .ref a/\H2 a=some (cX a C d)/\E (.ref C) d (rm H2 a)) M F hr hb hx I1 r z q λea s2 H2 n I2 ⟨a,d,ev,e2,q2⟩ =>?_
  cases ev
  obtain ⟨⟨o,ws,t,e1,c1,c2,c3,c4,c5,c6⟩,_⟩:=I2.hok _ _ e2
  exact ⟨ea,o,ws,rfl,I2.kIn,e1,c1,c2,c5,O pins σ H2 s2 ea C d I2 e2 n q2⟩
 refine BN (FR (yx hr.hd sb ty ?_))
 refine BN (C5 go (λv s₃ h₃=>BN (FR (BS h₃))) λ_ _ x=>x)
open PySem PySem.Spec PySem.W PyProof.Rows
section
variable  {K:BM}{prog:B7}{w:CJ}{A:CK}{E:BP->BR->Prop}{h:Heap}{g:Array GenState}{d:Drawn}{t:Nat}{os:OsState}{a C dx:Addr}{o:Obj}{name:Str}{v:BP}{mA:Str->Option BP}
variable  {nm q:Str}{N:Addr}{bs bm:List BP}{sn:List Str}{sub:List BP}{ab:Bool}{col:Option Bool}{dd:Option Addr}{k0 k1 k2 k3 k5:Option BP}{newId:String}
theorem wB {tk:Tok}{Q:PySem.Fin->BR->Prop}(X:K.In h)(na:findIn K (.ref C) name=some none)(hC:h.get? C=some (excClassObj nm q C N bs bm true sn sub ab col dd k0 k1 k2 k3 k5 newId))(hx:h.get? a=some o)(hc:o.cls = .ref C)(hnc:∀c,o.data ≠ .cls c)(hd:o.dict=some dx)(hn:h.Ns dx mA)(hv:mA name=some v)
  (hq:Q (.done (.ret v)) ⟨h,g,d,t,os⟩):Cb (Cn prog w) A (Builtin.«object.__getattribute__» ⟨[.ref a,.str name tk],[]⟩) Q E ⟨h,g,d,t,os⟩:=by
 have L1:=ER (M:=Cn prog w) X na
 repeat (first | (with_reducible refine CW hx ?_;rw[hc]) | with_reducible refine L1.at ?_ | wp_step)
 split
 ·rename_i c z
  exact absurd z (hnc c)
 unfold instanceDict
 repeat (first | (with_reducible refine CW hx ?_;rw[hc]) | with_reducible refine CW hC ?_ | wp_step)
 rw[hd]
 repeat (first | (with_reducible refine wpAny_nsGet hn ?_;rw[hv]) | wp_step)
 exact hq
theorem yz {expr:Bool}{Q:BP->BR->Prop}(X:K.In h)(Z:ExI K C)(na:findIn K (.ref C) name=some none)(hC:h.get? C=some (excClassObj nm q C N bs bm true sn sub ab col dd k0 k1 k2 k3 k5 newId))(hx:h.get? a=some o)(hc:o.cls = .ref C)(hnc:∀c,o.data ≠ .cls c)(hd:o.dict=some dx)(hn:h.Ns dx mA)(hv:mA name=some v)(hh:handedOut v=pure v)
  (hq:Q v ⟨h,g,d,t+1,os⟩):Cb (Cn prog w) A (getAttr (.ref a) name expr) Q E ⟨h,g,d,t,os⟩:=by
 have f3:=(Fc).ga.bind (.ref a)
 have y2:(Value.builtin "BaseException.__getattribute__" == Value.builtin "object.__getattribute__")=false:=by decide +kernel
 have y1:(onTheHeap (Cc C) && Value.builtin "BaseException.__getattribute__" == Value.builtin "object.__getattribute__")=false:=by rw[y2];rfl
 have L1:=ER (M:=Cn prog w) X Z.ga
 have L2:=ER (M:=Cn prog w) X Z.gt
 unfold getAttr getAttrBy
 repeat (any_goals (first | assumption | (with_reducible refine CW hx ?_;rw[hc]) | with_reducible refine L1.at ?_ | with_reducible refine L2.at ?_ | wp_step))
 rw[show (expr && onTheHeap (Value.builtin "BaseException.__getattribute__"))=false from Ho _,if_neg (by decide)]
 unfold boundAndCalled
 repeat (any_goals (first | assumption | wp_step))
 refine EI (Fc).ga.plain JO (pN X Z hx hc (wB X na hC hx hc hnc hd hn hv ?_))
 show Cb _ _ (handedOut v) _ _ _
 rw[hh]
 exact BS hq
end
def By (K:BM)(ta:TE)(f:Str):TE:=λσ H Q=>ta σ H λx H1=>∃a C dx fs v,x = .ref a/\H1 a=some (gQ a (.ref C) (some dx))/\H1 dx=some (.xd fs)/\ExN K C/\ExI K C/\findIn K (.ref C) f=some none/\fs.lookup f=some v/\Q v H1
theorem Ar {X:Cx}{e:Expr}{f:Str}{pos:Pos}{ta:TE}(he:PE X e ta)(hb:attributeBase e f X.env (eval e X.env)=eval e X.env):PE X (.Attribute e f pos) (By X.K ta f):=by
 intro pins s σ H Q I h
 refine xJ hb (thn (he pins s σ H _ I h) λu s1 ⟨x,H1,I1,rx,a,C,dx,fs,v,ex,ea,ed,N,Z,na,l,q⟩ =>?_)
 subst ex
 obtain rfl:u=Cc a:=rx
 obtain ⟨nm,qq,N0,bs,bm,sn,sub,ab,col,dd,k0,k1,k2,k3,k5,lk,tl⟩:=N.ob
 obtain ⟨⟨o,vs,e1,e2,e3,e4⟩,_⟩:=I1.hok _ _ ea
 obtain ⟨mA,ns,r⟩:=I1.hok _ _ ed
 obtain ⟨u,hu,ru⟩:=gT.some_of (v:=v) (o:=mA f) (by rw[<- l];exact r f)
 have KI:=I1.kIn
 have J:=I1.tok (s1.toks+1)
 obtain ⟨hh,g,d,tk,os⟩:=s1
 exact yz KI Z na (KI _ _ lk) e1 e2 (λc z=>by rw[e3] at z;cases z) (e4 dx rfl) ns.ns hu (handedOut_of (t9 ru)) ⟨v,H1,J,ru,q⟩
open PySem PySem.Spec PySem.W PyProof.Rows
section
variable  {X:Cx}
theorem mX {K:BM}(hK:X.K=K:=by rfl):cM X (.builtin "isinstance") (λxs H Q=>∃(ea C:Addr) (d:Option Addr) (c:V) (b:Bool),xs=[.ref ea,c]/\H ea=some (gQ ea (.ref C) d)/\ExI K C/\pP c=true/\kitOne K (.ref C) (ym c)=some b/\Q (.bl b) H):=by
 subst hK
 intro pins s σ H xs us Q I r h
 obtain ⟨ea,C,d,c,b,rfl,he,Z,hc,hk,q⟩:=h
 cases r with | cons r1 r2 =>
 cases r2 with | cons r2 r3 =>
 cases r3
 obtain rfl:=tj hc r2
 have r1:_=Cc ea:=r1
 subst r1
 obtain ⟨⟨o,_,e1,e2,_⟩,_⟩:=I.hok ea _ he
 have p:∃o,s.heap.get? ea=some o/\o.cls = .ref C:=⟨o,e1,e2⟩
 exact kia_one (pO Z) I.kIn p hk (by intro z;cases z) λtk=>⟨.bl b,H,I.tok tk,rfl,q⟩
theorem rf {K:BM}(hK:X.K=K:=by rfl):cM X (.builtin "isinstance") (λxs H Q=>∃(ea C tp:Addr) (d:Option Addr) (cs:List V) (b:Bool),xs=[.ref ea,.ref tp]/\H ea=some (gQ ea (.ref C) d)/\ExI K C/\H tp=some (.tup cs)/\(∀c∈cs,pP c=true)/\kitAny K (.ref C) (cs.map ym)=some b/\Q (.bl b) H):=by
 subst hK
 intro pins s σ H xs us Q I r h
 obtain ⟨ea,C,tp,d,cs,b,rfl,he,Z,ht,hc,hk,q⟩:=h
 cases r with | cons r1 r2 =>
 cases r2 with | cons r2 r3 =>
 cases r3
 have r2:_=Cc tp:=r2
 subst r2
 have r1:_=Cc ea:=r1
 subst r1
 obtain ⟨⟨o,_,e1,e2,_⟩,_⟩:=I.hok ea _ he
 have p:∃o,s.heap.get? ea=some o/\o.cls = .ref C:=⟨o,e1,e2⟩
 obtain ⟨_,its,rt,o,ho,⟨hcl,hd⟩,n,hn⟩:=I.hok tp _ ht
 have e:=pQ hc rt
 subst e
 obtain ⟨oc,od,odt,osl⟩:=o
 simp only at hcl hd hn
 subst hcl hd hn
 exact kia_tup (pO Z) I.kIn p ho hk (by intro z;cases z) λtk=>⟨.bl b,H,I.tok tk,rfl,q⟩
end
open PySem PySem.Spec PyProof.Rows
def cJ (K:BM)(x:Str)(st:Stmt):Prop:=∃(f:Addr) (od an:Option Addr) (sl:Array (Option BP)) (oc kV dc pm cd ct:BP),CY K Ct x=some (some (.ref f))/\K.lookup f=some ⟨oc,od,.func (PySem.W.fnOf x x (bW st) (bH st) (aA st) .none kV dc pm an cd ct),sl⟩/\PySem.W.codeIn K cd x=true/\PySem.W.keepIn K (.ref f)=true
theorem cJ.mk {K:BM}{x:Str}{st:Stmt}{f:Addr}{od an:Option Addr}{sl:Array (Option BP)}{oc kV dc pm cd ct:BP}(a:CY K Ct x=some (some (.ref f)))(l:K.lookup f=some ⟨oc,od,.func (PySem.W.fnOf x x (bW st) (bH st) (aA st) .none kV dc pm an cd ct),sl⟩)(c:PySem.W.codeIn K cd x=true)(k:PySem.W.keepIn K (.ref f)=true):cJ K x st:=⟨_,_,_,_,_,_,_,_,_,_,a,l,c,k⟩
theorem cJ.cal {K:BM}{x:Str}{st:Stmt}(hf:cJ K x st)(P:B7)(w:CJ)(base:Heap){h:Heap}{mg:Str->Option BP}(X:K.In h)(G:h.Ns Ct mg){lv:Nat}{ps:List Str}{sp:Sp}(ok:∀{f:Addr} {fd:CT},Fun K x x st f fd->bS P w K mg base CX0 lv f fd ps sp)
  (hb:∀(kV doc pm:BP) (an:Option Addr) (cdv ct:BP) (us:List BP),us.length=ps.length->bindArgs (PySem.W.fnOf x x (bW st) (bH st) (aA st) .none kV doc pm an cdv ct) ⟨us,[]⟩=pure (ps.zip us)):Cal P w K mg base lv x ps sp:=by
 obtain ⟨f,od,an,sl,oc,kV,dc,pm,cd,ct,a,l,c,k⟩:=hf
 have F:=gX l c k
 exact ⟨_,_,ok F,DV X G a,k,F.binds hb⟩
open PySem PySem.Spec PySem.W PyProof.Rows
section
variable  {X:Cx}{pins:List (Addr×Obj)}{σ:St}{H:Hp}{s:BR}{h':Heap}
end
section
variable  {X:Cx}
end
def uT (K:BM)(C:Addr)(nm qual:Str)(st:Stmt):Prop:=∃(f:Addr) (od an:Option Addr) (sl:Array (Option BP)) (oc kV dc pm cd ct:BP),findIn K (.ref C) nm=some (some (.ref f))/\isFn K (.ref f)=true/\K.lookup f=some ⟨oc,od,.func (PySem.W.fnOf nm qual (bW st) (bH st) (aA st) .none kV dc pm an cd ct),sl⟩/\PySem.W.codeIn K cd qual=true/\PySem.W.keepIn K (.ref f)=true
theorem uT.mk {K:BM}{C:Addr}{nm qual:Str}{st:Stmt}{f:Addr}{od an:Option Addr}{sl:Array (Option BP)}{oc kV dc pm cd ct:BP}(i:findIn K (.ref C) nm=some (some (.ref f)))(n:isFn K (.ref f)=true)(l:K.lookup f=some ⟨oc,od,.func (PySem.W.fnOf nm qual (bW st) (bH st) (aA st) .none kV dc pm an cd ct),sl⟩)(c:PySem.W.codeIn K cd qual=true)(k:PySem.W.keepIn K (.ref f)=true):uT K C nm qual st:=⟨_,_,_,_,_,_,_,_,_,_,i,n,l,c,k⟩
structure Bz (P:B7)(w:CJ)(K:BM)(mg:Str->Option BP)(base:Heap)(k:Nat)(C:Addr)(ps:List Str)(sp:Sp):Prop where
 ex:∃f fd,ExK K C f/\bS P w K mg base (CX2 P w) k f fd ps sp/\Binds K fd ps []
theorem uT.ini {K:BM}{C:Addr}{qual:Str}{st:Stmt}(hf:uT K C "__init__" qual st)(N:ExN K C)(kp:keepIn K (.ref C)=true)(P:B7)(w:CJ)(base:Heap){mg:Str->Option BP}{lv:Nat}{ps:List Str}{sp:Sp}(ok:∀{f:Addr} {fd:CT},Fun K "__init__" qual st f fd->bS P w K mg base CX0 lv f fd ps sp)
  (hb:∀(kV doc pm:BP) (an:Option Addr) (cdv ct:BP) (us:List BP),us.length=ps.length->bindArgs (PySem.W.fnOf "__init__" qual (bW st) (bH st) (aA st) .none kV doc pm an cdv ct) ⟨us,[]⟩=pure (ps.zip us)):Bz P w K mg base lv C ps sp:=by
 obtain ⟨f,od,an,sl,oc,kV,dc,pm,cd,ct,i,n,l,c,k⟩:=hf
 have F:=gX l c k
 exact ⟨_,_,⟨N,i,n,kp⟩,(ok F).cx2,F.binds hb⟩
def yA (K:BM)(C:Addr):Bool:=findIn K (.ref C) "__getattribute__" == some (some (.builtin "BaseException.__getattribute__")) && findIn K (.ref C) "__getattr__" == some none && findIn K (.ref C) "__class__" == some (some (.builtin "object.__class__")) &&
 subIn K (.ref C) (.type "object") == some true && subIn K (.ref C) (.type "BaseException") == some true && (clsIn K C).isSome && keepIn K (.ref C) && typeIn K (.ref C) == some (.type "type")
theorem oq {K:BM}{C:Addr}(h:yA K C=true):ExI K C/\keepIn K (.ref C)=true/\typeIn K (.ref C)=some (.type "type"):=by
 unfold yA at h
 simp only[CQ,beq_iff_eq] at h
 obtain ⟨⟨⟨⟨⟨⟨⟨h1,h2⟩,h3⟩,h4⟩,h5⟩,h6⟩,h7⟩,h8⟩:=h
 exact ⟨⟨h1,h2,h3,h4,h5,h6⟩,h7,h8⟩
def yB (K:BM)(C:Addr)(f:Str):Bool :=
 (match K.lookup C with
 | some ⟨.type "type",_,.cls cd,sl⟩=>(match cd.mro,sl.toList with
  | .ref C' :: bm,[_,_,_,_,some (.builtin n),_]=>C' == C && n == "ValueError.__new__" && !cd.hasDel && cd.hasDict && tailIn K mV bm
  | _,_=>false)
 | _=>false) && findIn K (.ref C) "__setattr__" == some (some (.builtin "object.__setattr__")) && findIn K (.ref C) f == some none && subIn K (.ref C) (.type "object") == some true
theorem rg {K:BM}{C:Addr}{f:Str}(h:yB K C f=true):ExN K C/\ExS K C f:=by
 unfold yB at h
 simp only[CQ,beq_iff_eq] at h
 obtain ⟨⟨⟨h1,h2⟩,h3⟩,h4⟩:=h
 refine ⟨⟨?_⟩,h2,h3,h4⟩
 split at h1
 ·rename_i d1 c1 sl1 l1
  split at h1
  ·rename_i C1 b1 j0 j1 j2 j3 n1 j5 m1 s1
   simp only[CQ,beq_iff_eq,D4] at h1
   obtain ⟨⟨⟨⟨rfl,rfl⟩,q1⟩,q3⟩,q2⟩:=h1
   obtain ⟨a1,a2,a3,a4,a5,a6,a7,a8,a9,a10,a11⟩:=c1
   dsimp only at m1 q1 q3
   subst m1 q1 q3
   obtain ⟨ll⟩:=sl1
   simp only at s1
   subst s1
   exact ⟨a1,a5,a4,a2,b1,a7,a8,a9,a10,d1,j0,j1,j2,j3,j5,l1,q2⟩
  ·cases h1
 ·cases h1
theorem cJ.BA {K:BM}{x:Str}{st:Stmt}(hf:cJ K x st)(P:B7)(w:CJ)(base:Heap){h:Heap}{mg:Str->Option BP}(X:K.In h)(G:h.Ns Ct mg){lv:Nat}{ps:List Str}{sp:Sp}(ok:∀{f:Addr} {fd:CT},Fun K x x st f fd->bS P w K mg base (CX2 P w) lv f fd ps sp)
  (hb:∀(kV doc pm:BP) (an:Option Addr) (cdv ct:BP) (us:List BP),us.length=ps.length->bindArgs (PySem.W.fnOf x x (bW st) (bH st) (aA st) .none kV doc pm an cdv ct) ⟨us,[]⟩=pure (ps.zip us)):mW P w K mg base lv x ps sp:=by
 obtain ⟨f,od,an,sl,oc,kV,dc,pm,cd,ct,a,l,c,k⟩:=hf
 have F:=gX l c k
 exact ⟨_,_,ok F,DV X G a,k,F.binds hb⟩
open PySem PySem.Spec PyProof.Rows
def wC (tb:Addr->Option (Array BP))(H:Hp):Prop:=∀b,H b=none\/(∃o xs,H b=some (.frz o (.lst xs)))\/∃ps,tb b=some ps/\H b=some (.tbl ps)
theorem uU {P:B7}{w:CJ}{K:BM}{mg mb:Str->Option BP}{CX:CXT}{k:Nat}{fa a:Addr}{fd:CT}{x:Str}{sp:Sp}{s₁:BR}{vs:List BP}{ns:List Int}{tb:Addr->Option (Array BP)}
  (hT:∀P' ps,tb P'=some ps->(∃c,PySem.W.codeHdIn K c P'=true)/\K.lookup P'=none/\s₁.heap.get? P'=some (PySem.W.tabObj #[])/\∀pos c,¬ cAt ps pos c)
  (KX:K.In s₁.heap) (hns:s₁.heap.Ns Ct mg) (hb:s₁.heap.Ns builtinsNs mb) (hbb:∀x:Str,x ≠ "__name__" -> mb x=C2 x) (hlim:s₁.heap.NoLimit) (hbm:∃bm ob,mg "__builtins__" = some (.ref bm)/\bm≠builtinsNs/\s₁.heap.get? bm=some ob/\ob.cls = .type "module" /\ ob.dict=some builtinsNs/\ob.data = .plain) (hg:s₁.gens = #[])
  (ha:s₁.heap.get? a=some { cls :=.type "list",data :=.seq vs.toArray }) (hi:D5 vs ns) (hl:ns.length<=Ca) (hr:bX k callerA)
  (F:∀base:Heap,K.In base->base.Ns Ct mg->bS P w K mg base CX k fa fd [x] sp) (hbind:∀(s:BR) (u:BP),BindsTo s fd ⟨[u],[]⟩ [(x,u)])
  (hsp:∀H:Hp,wC tb H->(∀P' ps,tb P'=some ps->H P'=some (.tbl ps))->SqL K H a (ns.map V.int)->sp [.ref a] H (λv _=>v = .bl true) λ_ _ _=>False)
  (hCX:∀H e s',CX [] H s₁ (λ_ _ _=>False) e s'->False) :
  Hv (Cn P w) callerA (.call (.ref fa) ⟨[.ref a],[]⟩) (λr s'=>r = .ok (.ret (.bool true))/\OldK s₁.heap s'.heap/\s'.os=s₁.os/\AllBare s'.gens) s₁:=by
 have rv:=iV hi
 have lenV:=hi.length
 have core:∀H:Hp,wC tb H->(∀P' ps,tb P'=some ps->H P'=some (.tbl ps))->SqL K H a (ns.map V.int)->HOk P w H s₁.heap->(∀b,H b≠none->b=a\/∃ps,tb b=some ps)->(H a≠none->K.lookup a=none) →
   Hv (Cn P w) callerA (.call (.ref fa) ⟨[.ref a],[]⟩) (λr s'=>r = .ok (.ret (.bool true))/\OldK s₁.heap s'.heap/\s'.os=s₁.os/\AllBare s'.gens) s₁:=by
  intro H hO hTb hS hok hA hK
  have base_of:∀{b:Addr} {o:Obj},s₁.heap.get? b=some o->H b=none->(nH s₁.heap H).get? b=some o:=λe n=>vk e n
  have noA:∀{b:Addr} {o:Obj} {es:Array DictEntry} {ep:Nat},s₁.heap.get? b=some o->o.data = .dict es ep->H b=none:=λ{b o es ep} e d=>by
   cases q:H b with
   | none=>rfl
   | some u =>
    rcases hA b (by rw[q];simp) with e' | ⟨ps,e'⟩
    ·subst e'
     rw[ha] at e;cases e
     have d':Data.seq vs.toArray _=Data.dict es ep:=d
     cases d'
    ·rw[(hT b ps e').2.2.1] at e;cases e
     have d':Data.fields #[]=Data.dict es ep:=d
     cases d'
  have noP:∀{b:Addr} {o:Obj},s₁.heap.get? b=some o->o.data = .plain->H b=none:=λ{b o} e d=>by
   cases q:H b with
   | none=>rfl
   | some u =>
    rcases hA b (by rw[q];simp) with e' | ⟨ps,e'⟩
    ·subst e'
     rw[ha] at e;cases e
     have d':Data.seq vs.toArray _=Data.plain:=d
     cases d'
    ·rw[(hT b ps e').2.2.1] at e;cases e
     have d':Data.fields #[]=Data.plain:=d
     cases d'
  have nsK:∀{b:Addr} {m:Str->Option BP},s₁.heap.Ns b m->(nH s₁.heap H).Ns b m:=λ{b m} ⟨o,es,ep,e,d,r⟩=>⟨o,es,ep,base_of e (noA e d),d,r⟩
  have hKb:K.In (nH s₁.heap H):=λb o e=>base_of (KX b o e) (by
   cases q:H b with
   | none=>rfl
   | some u =>
    rcases hA b (by rw[q];simp) with e' | ⟨ps,e'⟩
    ·subst e'
     rw[hK (by rw[q];simp)] at e;cases e
    ·rw[(hT b ps e').2.1] at e;cases e)
  have hM:Mod K mg (nH s₁.heap H):=⟨hKb,nsK hns,⟨mb,nsK hb,hbb⟩,let ⟨mc,h1,h2⟩:=hlim;⟨mc,nsK h1,h2⟩,let ⟨bm,ob,b1,b2,b3,b4,b5,b6⟩:=hbm;⟨bm,ob,b1,b2,base_of b3 (noP b3 b6),b4,b5,b6⟩⟩
  have e0:nO P w K mg (nH s₁.heap H) callerA [] s₁ H:=⟨rfl,hM,λb o e=>xD e,Nat.le_of_eq (tX _ _),trivial,λb hb=>absurd (show b∈([]:List Addr) from hb) (by simp),hok,.of_eq hg⟩
  refine Ff ((F _ hKb (nsK hns)).run callerA [] s₁ H ⟨[.ref a],[]⟩ [.ref a] [.ref a] _ _ hr e0 (hbind s₁ (.ref a)) (.cons rfl .nil) (hsp H hO hTb hS)) λr s' h =>?_
  cases r with
  | error e=>exact (hCX H e s' h).elim
  | ok fl =>
   cases fl with
   | next=>exact False.elim h
   | brk=>exact False.elim h
   | cont=>exact False.elim h
   | ret u =>
    obtain ⟨v,H',os,bare,un,hok',r',q⟩:=h
    have q':v = .bl true:=q
    subst q'
    obtain rfl:u=Value.bool true:=r'
    have step:∀b o,s₁.heap.get? b=some o->asItWas s₁.heap s'.heap b o/\∃o',s'.heap.get? b=some o':=λb o e=>by
     cases q:H b with
     | none =>
      have:=un.keep b o e q (by intro z;exact absurd (show b∈([]:List Addr) from z) (by simp)) (by simp)
      exact ⟨.inl this,_,this⟩
     | some u =>
      rcases hO b with z | ⟨ob,xs,z⟩ | ⟨ps,z1,z⟩
      ·rw[q] at z;cases z
      ·have z2:=un.frzs b ob _ z
       obtain ⟨e1,_⟩:=hok b _ z
       obtain ⟨e2,_⟩:=hok' b _ z2
       rw[e] at e1;cases e1
       exact ⟨.inl e2,_,e2⟩
      ·obtain ⟨more,z2⟩:=un.tbls b ps z
       obtain ⟨rows,e2,_⟩:=hok' b _ z2
       obtain ⟨⟨c,hc⟩,_,e1,_⟩:=hT b ps z1
       obtain ⟨oc,vc,_,_,_,_,_,_,_,c1,c2,c3,c4,_⟩:=IJ KX hc
       rw[e] at e1;cases e1
       refine ⟨.inr (.inl ⟨⟨c,oc,vc,c1,c2,c3,c4⟩,rfl, #[],rows,rfl,?_⟩),_,e2⟩
       rw[e2]
       simp[PySem.W.tabObj]
    exact ⟨rfl,⟨λb o e=>(step b o e).1,λb o e=>(step b o e).2⟩,os,bare⟩
 have okT:∀{H:Hp} {b:Addr} {ps:Array BP},tb b=some ps->bo P w H s₁.heap b (.tbl ps):=λ{H b ps} e=>⟨#[],(hT b ps e).2.2.1,trivial,(λpos v hv=>by cases hv),λpos c z=>absurd z ((hT b ps e).2.2.2 pos c)⟩
 cases hk:K.lookup a with
 | some o =>
  have e:=KX a o hk
  rw[ha] at e
  cases e
  refine core (λb=>(tb b).map HO.tbl) (λb =>?_) (λP' ps e=>by show (tb P').map HO.tbl=_;rw[e];rfl) (.inr ⟨_,vs.toArray,_,hk,rfl,rfl,rfl,by rw[BZ,lenV];exact hl,by simpa using rv⟩) (λb u z =>?_) (λb z =>?_) λz=>hk ▸ absurd ?_ z
  ·cases e:tb b with
   | none=>exact .inl (by show (tb b).map HO.tbl=none;rw[e];rfl)
   | some ps=>exact .inr (.inr ⟨ps,rfl,by show (tb b).map HO.tbl=_;rw[e];rfl⟩)
  ·have z':(tb b).map HO.tbl=some u:=z
   cases e:tb b with
   | none=>rw[e] at z';cases z'
   | some ps=>rw[e] at z';cases z';exact okT e
  ·cases e:tb b with
   | none=>exact absurd (by show (tb b).map HO.tbl=none;rw[e];rfl) z
   | some ps=>exact .inr ⟨ps,rfl⟩
  ·show (tb a).map HO.tbl=none
   cases e:tb a with
   | none=>rfl
   | some ps =>
    have:=(hT a ps e).2.2.1
    rw[ha] at this;cases this
 | none =>
  have na:tb a=none:=by
   cases e:tb a with
   | none=>rfl
   | some ps =>
    have:=(hT a ps e).2.2.1
    rw[ha] at this;cases this
  refine core (λb=>if b=a then some (.frz { cls :=.type "list",data :=.seq vs.toArray } (.lst (ns.map V.int))) else (tb b).map HO.tbl) (λb =>?_) (λP' ps e =>?_) (.inl (.inr ⟨{ cls :=.type "list",data :=.seq vs.toArray },if_pos rfl⟩)) (λb u z =>?_) (λb z =>?_) λ_=>hk
  ·by_cases hb:b=a
   ·exact .inr (.inl ⟨_,_,if_pos hb⟩)
   ·cases e:tb b with
    | none=>exact .inl (by show (if b=a then _ else (tb b).map HO.tbl)=none;rw[if_neg hb,e];rfl)
    | some ps=>exact .inr (.inr ⟨ps,rfl,by show (if b=a then _ else (tb b).map HO.tbl)=_;rw[if_neg hb,e];rfl⟩)
  ·have hb:P'≠a:=λz=>by rw[z,na] at e;cases e
   show (if P'=a then _ else (tb P').map HO.tbl)=_
   rw[if_neg hb,e];rfl
  ·by_cases hb:b=a
   ·have z':=(if_pos hb).symm.trans z
    cases z'
    subst hb
    exact ⟨ha,by rw[BQ];exact hl,vs,_,rv,ha⟩
   ·have z':(tb b).map HO.tbl=some u:=(if_neg hb).symm.trans z
    cases e:tb b with
    | none=>rw[e] at z';cases z'
    | some ps=>rw[e] at z';cases z';exact okT e
  ·by_cases hb:b=a
   ·exact .inl hb
   ·cases e:tb b with
    | none=>exact absurd (by show (if b=a then _ else (tb b).map HO.tbl)=none;rw[if_neg hb,e];rfl) z
    | some ps=>exact .inr ⟨ps,rfl⟩
theorem wD {l:PySem.W.OpenLaw}{n k:Nat}{q:B7}{loose:List Str}{XP:(Str->Option BP)->Heap->Prop}{YP:CJ->Heap->Prop}{d:DefRec}{K:Params->BM}{CX:CJ->CXT}{sp:CJ->Sp}{x:Str}(tb:Addr->Option (Array BP))
  (hn:l.most=some n) (hn2:n<=Ca) (hdf:d.params.defaults=[]) (hr:bX k callerA)
  (hY:∀(w:CJ) (h:Heap),YP w h->(K w.params).In h)
  (hT:∀(w:CJ) (h:Heap),YP w h->∀P' ps,tb P'=some ps->(∃c,PySem.W.codeHdIn (K w.params) c P'=true)/\(K w.params).lookup P'=none/\h.get? P'=some (PySem.W.tabObj #[])/\∀pos c,¬ cAt ps pos c)
  (F:∀(w:CJ) (mg:Str->Option BP) (fa:Addr) (h:Heap),(K w.params).In h->h.Ns Ct mg->mg d.name=some (.ref fa) →
   ∃fd:CT,(∀(s:BR) (u:BP),BindsTo s fd ⟨[u],[]⟩ [(x,u)]) ∧
    ∀base:Heap,(K w.params).In base->base.Ns Ct mg->bS l.prog w (K w.params) mg base (CX w) k fa fd [x] (sp w))
  (hsp:∀(w:CJ) (H:Hp) (a:Addr) (ns:List Int),ns.length<=n->wC tb H->(∀P' ps,tb P'=some ps->H P'=some (.tbl ps))->SqL (K w.params) H a (ns.map V.int)->sp w [.ref a] H (λv _=>v = .bl true) λ_ _ _=>False)
  (hCX:∀(w:CJ) (H:Hp) (s:BR) (e:BP) (s':BR),CX w [] H s (λ_ _ _=>False) e s'->False) :
  PySem.W.WalkO q loose XP YP l.row.toRowW d [] (λf vs=>PySem.call f vs):=by
 refine Att.oZ hn hdf λw s₀ s₁ mg mb fa o pm cd doc a vs ns G Y ho hd hcd hmg hobj hints hlen hg =>?_
 have KX:=hY w _ Y
 obtain ⟨fd,hb,hF⟩:=F w mg fa _ KX G.T.g hmg
 exact uU (hT w _ Y) KX G.T.g G.T.b G.T.builtins G.T.nolimit G.T.bmain hg hobj hints (Cq hlen hn2) hr hF hb (λH hO hS hS2=>hsp w H a ns hlen hO hS hS2) λH e s'=>hCX w H s₁ e s'
open PySem PySem.Spec PySem.Calls PyProof.Rows
theorem ow {a b:Int}{i j:Tok}{c:BP}:∀l:List BP,TriplesOk l->TriplesOk (l++[.int a i,.int b j,c]):=by
 intro l h
 fun_induction TriplesOk l with
 | case1=>exact trivial
 | case2 x t y u z rest ih=>exact ih h
 | case3=>exact h.elim
theorem rh {pos:Pos}{a b:Int}{i j:Tok}{c v:BP}:∀l:List BP,TriplesOk l->codeAmong pos (l++[.int a i,.int b j,c])=some v->codeAmong pos l=some v\/(a=pos.line/\b=pos.col/\v=c):=by
 intro l h e
 fun_induction TriplesOk l with
 | case1 =>
  have e':(if (a == pos.line && b == pos.col)=true then some c else codeAmong pos [])=some v:=e
  split at e'
  ·rename_i q
   rw[CQ,beq_iff_eq,beq_iff_eq] at q
   exact .inr ⟨q.1,q.2,(Cv e').symm⟩
  ·cases e'
 | case2 x t y u z rest ih =>
  have e':(if (x == pos.line && y == pos.col)=true then some z else codeAmong pos (rest++[.int a i,.int b j,c]))=some v:=e
  show (if (x == pos.line && y == pos.col)=true then some z else codeAmong pos rest)=some v\/_
  split at e'
  ·rename_i q
   rw[if_pos q];exact .inl e'
  ·rename_i q
   rw[if_neg q];exact ih h e'
 | case3=>exact h.elim
section
variable  {X:Cx}{pins:List (Addr×Obj)}{σ:St}{H:Hp}{s:BR}
theorem Inv.rn (I:Inv X pins σ H s){P:Addr}{o:Obj}(hP:s.heap.get? P=some o)(hd:o.data ≠ .plain):s.heap.BuiltinsAt X.mg P:=by
 obtain ⟨bm,ob,b1,b2,b3,b4,b5,b6⟩:=I.mod.bmod
 have e3:=I.bk _ _ b3
 refine ⟨bm,ob,b1,b2,λz =>?_,λz =>?_,e3,b4,b5,b6⟩
 ·obtain ⟨o',es,ep,e,d,_⟩:=I.mod.glob.keeps I.bk
  rw[z,e] at e3;cases e3;rw[b6] at d;cases d
 ·rw[z,hP] at e3;cases e3;exact hd b6
theorem pV {pos pos':Pos}(h1:pos'.line=pos.line)(h2:pos'.col=pos.col):∀l:List BP,codeAmong pos' l=codeAmong pos l:=by
 intro l
 fun_induction codeAmong pos l with
 | case1 x t y u c rest h =>
  show (if (x == pos'.line && y == pos'.col)=true then some c else codeAmong pos' rest)=some c
  rw[h1,h2,if_pos h]
 | case2 x t y u c rest h ih =>
  show (if (x == pos'.line && y == pos'.col)=true then some c else codeAmong pos' rest)=_
  rw[h1,h2,if_neg h]
  exact ih
 | case3 l h =>
  unfold codeAmong
  split
  ·rename_i x t y u c rest
   exact absurd rfl (h x t y u c rest)
  ·rfl
abbrev dR (ps:Array BP)(pos:Pos)(c:Addr):Array BP:=ps ++ #[Ea pos.line,Ea pos.col,.ref c]
structure Nm (ps:Array BP)(pos:Pos)(q:Str):Prop where
 qa:qAt ps pos q
 un:∀c q',qAt (dR ps pos c) pos q'->q'=q
 ws:∀c pos' q',qAt ps pos' q'->qAt (dR ps pos c) pos' q'
 vs:∀c pos' q',qAt (dR ps pos c) pos' q'->qAt ps pos' q'
 co:∀c pos' c2,cAt (dR ps pos c) pos' c2->c2=c/\pos'.line=pos.line/\pos'.col=pos.col
def SameBut (P:Addr)(H H':Hp):Prop:=∀b o,b≠P->H b=some o->H' b=some o
theorem yC (I:Inv X pins σ H s){P c:Addr}{ps:Array BP}{pos:Pos}{q:Str}(hP:H P=some (.tbl (dR ps pos c)))(hn:Nm ps pos q)(hs:3 ∣ ps.size):s.heap.CodeRec (.ref c) q:=by
 obtain ⟨rows,eP,tr,am,rc⟩:=(show bo X.prog X.w H s.heap P (.tbl _) from I.hok P _ hP)
 obtain ⟨k,hk⟩:=hs
 have e:=rc pos c ⟨k,by rw[Fd (by omega), <- hk,Nat.sub_self];rfl,by rw[Fd (by omega), <- hk,DT];rfl,by rw[Fd (by omega), <- hk,DT];rfl⟩
 obtain ⟨c2,q2,e1,_,cr,hq⟩:=am pos _ e
 cases e1
 rw[hn.un c q2 hq] at cr
 exact cr
theorem wF {P c:Addr}{ps:Array BP}{params:Arguments}{body:Expr}{lsc:Scope}{pos:Pos}{clos:List (Str×Addr)}{Q:BP->BR->Prop}
  (I:Inv X pins σ H s) (hc:X.env.code = .ref c) (hcd:PySem.W.codeHdIn X.K c P=true) (hP:H P=some (.tbl ps)) (hq:Nm ps pos (X.env.qual ++ "<lambda>"))
  (hdef:defaultsOf params X.env=([],[])) (hcl:closureFor lsc X.env=pure clos)
  (h:∀(f c':Addr) (ctv pm:BP) (h':Heap) (tk:Nat) (H':Hp),SameBut P H H'->Inv X pins σ H' { s with heap:=h',toks:=tk }->H' P=some (.tbl (dR ps pos c'))->s.heap.objs.size<=f->H' f=none →
   h'.get? f=some (PySem.W.kla_obj "<lambda>" (X.env.qual ++ "<lambda>") params body lsc clos pm c' ctv)->Q (.ref f) { s with heap:=h',toks:=tk }) :
  Cb (Cn X.prog X.w) X.A (eval (.Lambda params body lsc pos) X.env) Q X.xe s:=by
 refine PySem.W.kla_eval hdef ?_
 obtain ⟨rows,eP,tr,am,rc⟩:=(show bo X.prog X.w H s.heap P (.tbl ps) from I.hok P _ hP)
 have hb:=I.rn eP (by intro z;cases z)
 have hgl:=I.mod.glob.keeps I.bk
 have hgP:Ct≠P:=λz=>by
  obtain ⟨o',es,ep,e,d,_⟩:=hgl
  rw[z,eP] at e;cases e;cases d
 have C:=IJ I.kIn hcd
 have key:∀(H1:Hp) (c':Addr) (h2:Heap) (tk:Nat) (rows2:Array BP),aB H H1->(∀b o,b≠P->s.heap.get? b=some o->h2.get? b=some o)->h2.get? P=some (PySem.W.tabObj rows2)->TriplesOk rows2.toList->codeAmong pos rows2.toList=some (.ref c') →
   (∀pos' v,codeAmong pos' rows2.toList=some v->∃c q,v = .ref c/\H1 c=some (.own P)/\h2.CodeRec (.ref c) q/\qAt ps pos' q)->(∀b o,H1 b=some o->H b=none->s.heap.objs.size<=b/\o = .own P/\∃ob,h2.get? b=some ob) →
   Inv X pins σ (upd H1 P (.tbl (dR ps pos c'))) { s with heap:=h2,toks:=tk }:=by
  intro H1 c' h2 tk rows2 sm k2 tP tr2 ha2 am2 new
  have own2:∀b,H1 b=some (.own P)->(upd H1 P (.tbl (dR ps pos c'))) b=some (.own P):=λb e=>by
   rw[ax (oW e (sm _ _ hP) nofun)];exact e
  have sb:∀b o,b≠P->H b=some o->(upd H1 P (.tbl (dR ps pos c'))) b=some o:=λb o nb e=>by rw[ax nb];exact sm _ _ e
  refine I.un (h':=h2) (t':=tk) ⟨λb o e n _ _ =>?_,λb o e n _ _ =>?_,λb o e n _ =>?_,λb o e _ =>?_,λb xs e =>?_,λb o u e =>?_,λb ps' e =>?_⟩ ?_
  ·exact k2 b o (λz=>by rw[z,hP] at n;cases n) e
  ·exact ⟨o.slots,k2 b o (λz=>by rw[z,hP] at n;cases n) e⟩
  ·have nb:b≠P:=λz=>by rw[z,hP] at n;cases n
   rw[ax nb]
   cases e1:H1 b with
   | none=>rfl
   | some u=>exact absurd (BW e) (Io.mpr (new b u e1 n).1)
  ·by_cases z:b=P
   ·rw[z];exact ⟨_,tP⟩
   ·exact ⟨o,k2 b o z e⟩
  ·exact sb _ _ (λz=>by rw[z,hP] at e;cases e) e
  ·exact sb _ _ (λz=>by rw[z,hP] at e;cases e) e
  ·by_cases z:b=P
   ·subst z
    rw[hP] at e
    cases e
    exact ⟨_,af⟩
   ·exact ⟨#[],by rw[sb _ _ z e];simp⟩
  ·intro b u e
   by_cases hbP:b=P
   ·subst hbP
    rw[af] at e
    cases e
    refine ⟨rows2,tP,tr2,λpos' v hv =>?_,λpos' c2 hc2 =>?_⟩
    ·obtain ⟨c3,q,ev,ho,cr,hqa⟩:=am2 pos' v hv
     exact ⟨c3,q,ev,own2 _ ho,cr,hq.ws c' _ _ hqa⟩
    ·obtain ⟨rfl,l1,l2⟩:=hq.co _ _ _ hc2
     rw[pV l1 l2];exact ha2
   ·rw[ax hbP] at e
    cases e0:H b with
    | none =>
     obtain ⟨_,rfl,ob,eo⟩:=new b u e e0
     exact ⟨ob,eo⟩
    | some u0 =>
     have:=sm _ _ e0
     rw[e] at this
     cases this
     refine (I.hok b u e0).fV (λd v hd r=>k2 d v ?_ r) (λd q=>sb _ _ (λz=>by rw[z,hP] at q;cases q) q) (λd xs q=>sb _ _ (λz=>by rw[z,hP] at q;cases q) q)
     rintro rfl
     rcases hd with z | z
     ·exact hbP z.symm
     ·rw[hP] at z;cases z
 cases ha:codeAmong pos rows.toList with
 | some v =>
  obtain ⟨c',q,rfl,ho,cr,hqa⟩:=am pos v ha
  refine PySem.W.kla_makeFunctionHit (mg:=X.mg) hcl I.ok.glob hgl hc C eP tr ha hb λctv h' tk k sz =>?_
  have k2:∀b o,s.heap.get? b=some o->(h'.push (PySem.W.kla_obj "<lambda>" (X.env.qual ++ "<lambda>") params body lsc clos ((X.mg "__name__").getD .none) c' ctv)).get? b=some o:=λb o e=>BO _ (k b o e)
  have fP:h'.objs.size≠P:=λz=>absurd (BW eP) (by rw[<- z];exact Io.mpr sz)
  refine h _ c' ctv _ _ tk (upd H P (.tbl (dR ps pos c'))) (λb o nb e=>by rw[ax nb];exact e) (key H c' _ tk rows (aB.refl _) (λb o _ e=>k2 b o e) (k2 _ _ eP) tr ha (λpos' v hv =>?_) λb o e n=>by rw[n] at e;cases e) af sz (by rw[ax fP];exact I.hok.fresh sz) (BX _ rfl)
  obtain ⟨c3,q,ev,ho,cr,hqa⟩:=am pos' v hv
  exact ⟨c3,q,ev,ho,cr.keeps k2,hqa⟩
 | none =>
  refine PySem.W.kla_makeFunction (mg:=X.mg) hcl I.ok.glob hgl hc C eP tr ha hgP hb λc' ctv h' tk hx c1 c2 cr tP =>?_
  have hn:H c'=none:=I.hok.fresh c1
  have k2:∀b o,b≠P->s.heap.get? b=some o->(h'.push (PySem.W.kla_obj "<lambda>" (X.env.qual ++ "<lambda>") params body lsc clos ((X.mg "__name__").getD .none) c' ctv)).get? b=some o:=λb o nb e=>BO _ (hx b o nb e)
  have tP2:(h'.push (PySem.W.kla_obj "<lambda>" (X.env.qual ++ "<lambda>") params body lsc clos ((X.mg "__name__").getD .none) c' ctv)).get? P=some (PySem.W.tabObj (rows ++ #[Ea pos.line,Ea pos.col,.ref c'])):=BO _ tP
  have cr2:=cr.push (PySem.W.kla_obj "<lambda>" (X.env.qual ++ "<lambda>") params body lsc clos ((X.mg "__name__").getD .none) c' ctv)
  have sz2:s.heap.objs.size<=h'.objs.size:=FF (CG c1 c2)
  have fP:h'.objs.size≠P:=λz=>absurd (BW eP) (by rw[<- z];exact Io.mpr sz2)
  have fN:(upd (upd H c' (.own P)) P (.tbl (dR ps pos c'))) h'.objs.size=none:=by
   rw[ax fP,ax (E6 c2)]
   exact I.hok.fresh sz2
  have fO:(h'.push (PySem.W.kla_obj "<lambda>" (X.env.qual ++ "<lambda>") params body lsc clos ((X.mg "__name__").getD .none) c' ctv)).get? h'.objs.size=some (PySem.W.kla_obj "<lambda>" (X.env.qual ++ "<lambda>") params body lsc clos ((X.mg "__name__").getD .none) c' ctv):=BX _ rfl
  generalize h'.push (PySem.W.kla_obj "<lambda>" (X.env.qual ++ "<lambda>") params body lsc clos ((X.mg "__name__").getD .none) c' ctv)=h2 at k2 tP2 cr2 fO
  have sm:aB H (upd H c' (.own P)):=λb u e=>by rw[ax (aF e hn)];exact e
  refine h _ c' ctv _ h2 tk _ (λb o nb e=>by rw[ax nb];exact sm _ _ e) (key (upd H c' (.own P)) c' h2 tk _ sm k2 tP2 ?_ ?_ (λpos' v hv =>?_) λb o e n =>?_) af sz2 fN fO
  ·rw[CD]
   exact ow _ tr
  ·rw[CD]
   exact codeAmong_snoc _ tr ha
  ·rw[CD] at hv
   rcases rh _ tr hv with q | ⟨q1,q2,q3⟩
   ·obtain ⟨c3,q,ev,ho,⟨c4,oc,vs,t,e1,e2,e3⟩,hqa⟩:=am pos' v q
    cases e1
    exact ⟨c3,q,ev,sm _ _ ho,⟨c3,oc,vs,t,rfl,k2 _ _ (λz=>by rw[z,hP] at ho;cases ho) e2,e3⟩,hqa⟩
   ·obtain ⟨i,t,a1,a2,a3⟩:=hq.qa
    refine ⟨c',_,q3,af,cr2,i,t,?_,?_,a3⟩
    ·rw[<- q1];exact a1
    ·rw[<- q2];exact a2
  ·by_cases z:b=c'
   ·subst z
    rw[af] at e
    cases e
    obtain ⟨c3,oc,vs,t,e1,e2,e3⟩:=cr2
    cases e1
    exact ⟨c1,rfl,oc,e2⟩
   ·rw[ax z,n] at e;cases e
theorem Inv.BB {pins0:List (Addr×Obj)}{σ0:St}{H0:Hp}{s0:BR}{P c:Addr}{ps:Array BP}{pos:Pos}{q:Str}(I0:Inv X pins0 σ0 H0 s0)(h0:H0 P=some (.tbl ps))(I:Inv X pins σ H s)(hP:H P=some (.tbl (dR ps pos c)))(hq:Nm ps pos q)(hN:∀pos c,¬ cAt ps pos c):Inv X pins σ (upd H P (.tbl ps)) s:=by
 have np:∀b o,H b=some o->(∀r,o ≠ .tbl r)->(upd H P (.tbl ps)) b=some o:=λb o e n=>by
  rw[ax (λz=>by rw[z,hP] at e;cases e;exact n _ rfl)];exact e
 have nn:∀b,H b=none->(upd H P (.tbl ps)) b=none:=λb n=>by
  rw[ax (λz=>by rw[z,hP] at n;cases n)];exact n
 refine ⟨I.ok,I.os,I.bare,⟨I.base.keep,I.base.slot,λb o e n hx=>nn b (I.base.free b o e n hx),I.base.there,λb xs e=>np b _ (I.base.tups b xs e) nofun,λb o u e=>np b _ (I.base.frzs b o u e) nofun,λb ps' e =>?_⟩,I.loc,I.cell,nn _ I.free,λx c e=>nn _ (I.freeC x c e),λp hp =>?_,λb u e =>?_,I.len⟩
 ·by_cases z:b=P
  ·subst z
   obtain ⟨m,e1⟩:=I0.base.tbls b ps' e
   rw[h0] at e1
   cases e1
   exact ⟨m,af⟩
  ·obtain ⟨m,e1⟩:=I.base.tbls b ps' e
   exact ⟨m,by rw[ax z];exact e1⟩
 ·obtain ⟨a,b,r⟩:=I.pin p hp
  exact ⟨a,nn _ b,r⟩
 ·by_cases z:b=P
  ·subst z
   rw[af] at e
   cases e
   obtain ⟨rows,eP,tr,am,rc⟩:=(show bo X.prog X.w H s.heap b (.tbl _) from I.hok b _ hP)
   refine ⟨rows,eP,tr,λpos' v hv =>?_,λpos' c2 h2=>absurd h2 (hN pos' c2)⟩
   obtain ⟨c3,q3,ev,ho,cr,hqa⟩:=am pos' v hv
   exact ⟨c3,q3,ev,np _ _ ho nofun,cr,hq.vs c _ _ hqa⟩
  ·rw[ax z] at e
   exact (I.hok b u e).fV (λd v _ r=>r) (λd r=>np _ _ r nofun) λd xs r=>np _ _ r nofun
end
open PySem PySem.Spec PySem.Calls PyProof.Rows
def tm (X:Cx)(qual:Str)(lsc:Scope)(cl:List (Str×Addr))(f:Addr)(cd:BP)(A':CK)(N':List Str)(s:BR)(H:Hp):Cx :=
 { X with A:=A'.deeper (PySem.W.envX qual lsc s.heap.objs.size f cd cl),N:=N',s₀:=s,H₀:=H,env:=PySem.W.envX qual lsc s.heap.objs.size f cd cl,outer:=X.stack,stack:=PySem.W.envX qual lsc s.heap.objs.size f cd cl :: X.stack,ex:=[],calm:=true,fn:=λ_=>false,pn:=[],xe:=λ_ _=>False }
section
variable  {X:Cx}{pins:List (Addr×Obj)}{σ:St}{H:Hp}{s:BR}
theorem yD {lsc:Scope}{N':List Str}{ix:List (Option Nat)}{qual x:Str}{f:Addr}{cd:BP}{A':CK}{u:BP}{v:V}{h1:Heap}{t:Nat}
  (I:Inv X pins σ H s) (K:fg X.env.scope.names X.N lsc N' ix) (hx:N'[0]? = some x) (hxl:lsc.names.lookup x=some .local) (hi0:ix[0]? = some none)
  (hd:A'.handled=none) (hfr:A'.frames=some X.stack) (r:RelV v u)
  (k:∀b o,s.heap.get? b=some o->h1.get? b=some o) (ns:h1.Ns s.heap.objs.size (λy=>([(x,u)]:List (Str×BP)).reverse.lookup y)) :
  Inv (tm X qual lsc (aQ X.env lsc.names []) f cd A' N' s H) [] ((inner ix σ).set 0 (some v)) H { s with heap:=h1,toks:=t }:=by
 have hcl:∀y∈lsc.names,y.2 = .free->∃c,X.env.cells.lookup y.1=some c:=λy hy e=>I.ok.has y.1 (K.frees y hy e)
 have up:∀y c,(aQ X.env lsc.names []).lookup y=some c->X.env.cells.lookup y=some c:=λy c e=>by
  rcases cS lsc.names [] hcl e with q | q
  ·cases q
  ·exact q
 have noE:∀b:Addr,b∉(tm X qual lsc (aQ X.env lsc.names []) f cd A' N' s H).ex:=λb z=>absurd (show b∈([]:List Addr) from z) (by simp)
 refine ⟨⟨I.ok.mod,K.kind,rfl,rfl,BV _,λy z c h1 h2=>I.ok.inj y z c (up _ _ h1) (up _ _ h2),λy hy =>?_,(λy c h=>nomatch h),λ_=>hd,Ip hfr,.inr ⟨rfl,rfl⟩,λb z=>absurd z (noE b),I.bs,Cq I.ok.bsz I.sz,λb _ _=>noE b,λb z=>absurd z (noE b),I.stack,I.jW⟩,
  rfl,I.bare,Un.kept k,⟨_,ns,λi y w e1 e2 e3 =>?_⟩,λy c e =>?_,I.hok.fresh (BV _),λy c e=>I.freeC y c (up y c e),λp hp=>absurd (show p∈([]:List (Addr×Obj)) from hp) (by simp),I.hok.kept k,?_⟩
 ·have hy:lsc.names.lookup y=some .cell\/lsc.names.lookup y=some .free:=hy
  rcases hy with q | q
  ·exact absurd rfl (K.nocell _ (de q))
  ·exact cT lsc.names [] (.inl (de q))
 ·by_cases hi:i=0
  ·subst hi
   have e1:N'[0]? = some y:=e1
   rw[hx] at e1
   cases e1
   have hl:0<(inner ix σ).length:=by
    unfold inner
    rw[BQ]
    exact (Cg.mp hi0).1
   rw[Ex hl] at e2
   cases e2
   refine ⟨u,r,.inl ⟨hxl,?_⟩⟩
   show List.lookup x [(x,u)]=some u
   rw[EY,beq_self_eq_true]
  ·rw[Fq (DE hi)] at e2
   have e2':(ix.map λo=>match o with | none=>none | some j=>(σ[j]?).join)[i]? = some (some w):=e2
   rw[CA] at e2'
   cases hix:ix[i]? with
   | none=>rw[hix] at e2';cases e2'
   | some o =>
    cases o with
    | none=>rw[hix] at e2';cases e2'
    | some j =>
     rw[hix] at e2'
     have e4:(σ[j]?).join=some w:=Cv e2'
     have e5:σ[j]? = some (some w):=by
      cases hj:σ[j]? with
      | none=>rw[hj] at e4;cases e4
      | some z=>rw[hj] at e4;rw[show z=some w from e4]
     obtain ⟨n1,n2⟩:=K.slot i j y hix e1
     have mem:=de n2
     have kc:X.env.kindOf y=some .cell\/X.env.kindOf y=some .free:=K.frees _ mem rfl
     obtain ⟨m',_,hl⟩:=I.loc
     obtain ⟨u',r',l⟩:=hl j y w n1 e5 (.inr kc)
     refine ⟨u',r',?_⟩
     rcases l with ⟨q,_⟩ | ⟨_,c,q,z⟩
     ·rcases kc with kc | kc <;> (rw[kc] at q;cases q)
     ·obtain ⟨c',hc'⟩:=cT (env:=X.env) (y:=y) lsc.names [] (.inl mem)
      have:=up y c' hc'
      rw[q] at this
      cases this
      exact .inr ⟨.inr n2,c,hc',z.keeps k⟩
 ·obtain ⟨w,z⟩:=I.cell y c (up y c e)
  exact ⟨w,z.keeps k⟩
 ·show ((inner ix σ).set 0 (some v)).length=N'.length
  rw[JH]
  unfold inner
  rw[BQ]
  exact K.len
theorem wG {lsc:Scope}{N':List Str}{ix:List (Option Nat)}{qual x:Str}{f c':Addr}{pm ctv:BP}{A':CK}{k:Nat}{u:BP}{v:V}{params:Arguments}{body:Expr}{te:TE}{Q:VK}{E:BP->BR->Prop}
  (I:Inv X pins σ H s) (K:fg X.env.scope.names X.N lsc N' ix) (hx:N'[0]? = some x) (hxl:lsc.names.lookup x=some .local) (hi0:ix[0]? = some none) (hco:lsc.isCoroutine=false) (hgen:lsc.isGenerator=false)
  (hr:bX (k+1) A') (hfr:A'.frames=some X.stack)
  (ho:s.heap.get? f=some (PySem.W.kla_obj "<lambda>" qual params body lsc (aQ X.env lsc.names []) pm c' ctv)) (hcr:s.heap.CodeRec (.ref c') qual)
  (hbind:bindArgs (PySem.W.kla_fn "<lambda>" qual params body lsc (aQ X.env lsc.names []) pm (.ref c') ctv) ⟨[u],[]⟩=pure [(x,u)])
  (he:bX k (A'.deeper (PySem.W.envX qual lsc s.heap.objs.size f (.ref c') (aQ X.env lsc.names [])))->PE (tm X qual lsc (aQ X.env lsc.names []) f (.ref c') A' N' s H) body te)
  (r:RelV v u) (q:te ((inner ix σ).set 0 (some v)) H Q) :
  Cb (Cn X.prog X.w) A' (call (.ref f) [u]) (EP X pins σ Q) E s:=by
 refine GG (PySem.W.kla_callFunE hr.depth ho rfl hco hgen rfl hcr ?_)
 rw[hbind]
 refine BS (Iy K.nocell (λy hy =>?_) (λh1 ns sb=>⟨?_,?_⟩) K.kind)
 ·rw[Ck.mp hy];exact hxl
 ·exact (I.nolimit).fresh _ sb
 have hk₁:∀b o,s.heap.get? b=some o->h1.get? b=some o:=λb o e=>sb.extBut b o (Cp (BW e)) (BO _ e)
 have J:=yD (qual:=qual) (f:=f) (cd :=.ref c') (t:=s.toks+1) I K hx hxl hi0 hr.hd hfr r hk₁ ns
 refine PySem.W.kla_codeExpr (C5 (he (hr.deeper _) [] _ _ _ _ J q) (λy s' z =>?_) λe s' z=>False.elim z)
 obtain ⟨w,H',J',rw',q'⟩:=z
 exact ⟨w,H',I.vm (ch:=[]) J'.os J'.base J'.hok J'.bare (λb hb=>absurd hb (by simp)),rw',q'⟩
end
end L2
namespace Srt
open PySem PyProof.Rows
def As (rv:Bool)(kz:List Int)(vs out:List BP):Prop:=∃ps:List (Int×BP),ps.Perm (kz.zip vs)/\out=ps.map Prod.snd/\ps.Pairwise (λp q=>if rv=true then q.1<=p.1 else p.1<=q.1)
def ox {α:Type}(rv:Bool)(l:List α):List α:=if rv=true then l.reverse else l
section
variable  {prog:B7}{w:CJ}{A:CK}{E:BP->BR->Prop}{s:BR}
theorem wH {h6:BR}:Cmp prog w A h6 kP (λp:Cf=>intOf p.1) (λp=>∃i t,p.1 = .int i t) oneType':=by
 refine ⟨λE st x y Q hk hx hy q =>?_⟩
 obtain ⟨i,t,e1⟩:=hx
 obtain ⟨j,u,e2⟩:=hy
 rw[lt'_eq]
 refine B6 (Gq ?_)
 rw[hk,keyLt'_oneType,e1,e2]
 refine B6 (GF (DL (JS ⟨rfl,?_⟩)))
 refine Cj ?_
 have q':Q (some (decide (intOf x.1<intOf y.1))) st:=q
 rw[e1,e2] at q'
 exact q'
theorem yE {rv:Bool}{keys vs:List BP}{kz:List Int}(hk:D5 keys kz){xs:List Cf}(hp:xs.Perm (keys.zip vs))(hs:xs.Pairwise λp q=>kP.kle (intOf p.1) (intOf q.1)):As rv kz vs (ox rv (xs.map (·.2))):=by
 have e:(keys.zip vs).map (λp:Cf=>(intOf p.1,p.2))=kz.zip vs:=by
  rw[<- ints_map hk,List.zip_map_left]
  exact GO λ⟨x,y⟩ _=>rfl
 have pm:(xs.map λp:Cf=>(intOf p.1,p.2)).Perm (kz.zip vs):=e ▸ hp.map _
 have em:xs.map (·.2)=(xs.map λp:Cf=>(intOf p.1,p.2)).map Prod.snd:=by rw[Cs];rfl
 have pw:(xs.map λp:Cf=>(intOf p.1,p.2)).Pairwise λp q=>p.1<=q.1:=by
  rw[CI]
  refine hs.imp λ{p q} le =>?_
  have:=of_decide_eq_false (show decide (intOf q.1<intOf p.1)=false from le)
  show intOf p.1<=intOf q.1
  omega
 rw[em]
 generalize (xs.map λp:Cf=>(intOf p.1,p.2))=ps at pm pw
 cases rv with
 | false=>exact ⟨ps,pm,rfl,pw.imp λh=>by rw[if_neg B2];exact h⟩
 | true=>exact ⟨ps.reverse,(List.reverse_perm ps).trans pm,by rw[Ef];rfl,List.pairwise_reverse.mpr (pw.imp λh=>by rw[if_pos rfl];exact h)⟩
end
end Srt
namespace L2
open PySem PySem.Spec PyProof.Rows
section
variable  {X:Cx}
theorem pW {α β γ:Type}(f:α -> β)(g:α -> γ):∀l:List α,(l.map f).zip (l.map g)=l.map λx=>(f x,g x)
 | []=>rfl
 | x :: l=>by rw[Ci,Ci,EC,pW f g l];rfl
end
open PySem PySem.Spec PySem.Calls PyProof.Rows PySem.W
section
variable  {X:Cx}{pins:List (Addr×Obj)}{σ:St}{H:Hp}{s:BR}
theorem Inv.take {p:Addr}{o:HO}(I:Inv X pins σ H s)(hn:H p=none)(hp:X.s₀.heap.objs.size<=p)(hl:p≠X.env.locals)(hc:∀x c,X.env.cells.lookup x=some c->c≠p)(hpin:∀q∈X.pn++pins,q.1≠p)(new:bo X.prog X.w (upd H p o) s.heap p o):Inv X pins σ (upd H p o) s:=by
 have old:∀b u,H b=some u->(upd H p o) b=some u:=λb u e=>by rw[ax (aF e hn)];exact e
 refine ⟨I.ok,I.os,I.bare,⟨I.base.keep,I.base.slot,λb u e n hx =>?_,I.base.there,λb xs e=>old _ _ (I.base.tups b xs e),λb u w e=>old _ _ (I.base.frzs b u w e),λb ps e =>?_⟩,I.loc,I.cell,?_,λx c e =>?_,λq hq =>?_,λb u e =>?_,I.len⟩
 ·rw[ax (Cp (B8 (BW e) hp))];exact I.base.free b u e n hx
 ·obtain ⟨m,e1⟩:=I.base.tbls b ps e
  exact ⟨m,old _ _ e1⟩
 ·rw[ax (DE hl)];exact I.free
 ·rw[ax (hc x c e)];exact I.freeC x c e
 ·obtain ⟨a,b,r⟩:=I.pin q hq
  exact ⟨a,by rw[ax (hpin q hq)];exact b,r⟩
 ·by_cases z:b=p
  ·subst z
   rw[af] at e
   cases e
   exact new
  ·rw[ax z] at e
   exact (I.hok b u e).fV (λd v _ r=>r) (λd r=>old _ _ r) λd xs r=>old _ _ r
structure kX (X:Cx)(pins:List (Addr×Obj))(a:Addr):Prop where
 s0:X.s₀.heap.objs.size<=a
 l:a≠X.env.locals
 fs:a∉X.fs
 c:∀x c,X.env.cells.lookup x=some c->c≠a
 p:∀q∈X.pn++pins,q.1≠a
theorem Inv.Au (I:Inv X pins σ H s){a:Addr}(h:s.heap.objs.size<=a):kX X pins a:=by
 refine ⟨Cq I.sz h,E6 (B8 I.lt h),I.xF h,λx c e z =>?_,λq hq z =>?_⟩
 ·obtain ⟨v,o,ho,_⟩:=I.cell x c e
  exact absurd (BW ho) (by rw[z];exact Io.mpr h)
 ·exact absurd (BW (I.pin q hq).1) (by rw[z];exact Io.mpr h)
theorem kX.add {a b:Addr}{o:Obj}(h:kX X pins a)(n:b≠a):kX X (pins++[(b,o)]) a :=
 ⟨h.s0,h.l,h.fs,h.c,λq hq=>by
  rw[<- CL] at hq
  rcases B5.mp hq with q' | q'
  ·exact h.p q q'
  ·rw[Ck.mp q'];exact n⟩
theorem Inv.yF (I:Inv X pins σ H s){a:Addr}{o:Obj}(O:kX X pins a)(e:s.heap.get? a=some o)(n:H a=none)(hc:∀v,o.data ≠ .cell v):Inv X (pins++[(a,o)]) σ H s:=I.eZ λp hp=>by
 rcases B5.mp hp with q | q
 ·exact I.pin p (Cu _ q)
 ·rw[Ck.mp q];exact ⟨e,n,O.l,O.fs,hc⟩
theorem Inv.pX (I:Inv X pins σ H s){a:Addr}{o:Obj}(h:(a,o)∈pins):s.heap.get? a=some o/\H a=none:=by
 have:=I.pin (a,o) (Cu _ h)
 exact ⟨this.1,this.2.1⟩
theorem Inv.tu {qs:List (Addr×Obj)}(I:Inv X (pins++qs) σ H s):Inv X pins σ H s:=I.eZ λp hp=>I.pin p (by rw[<- CL];exact Gs _ (Cu _ hp))
theorem wI {a f:Addr}{fo:Obj}{A:CK}{vs:List BP}{kz:List Int}{n k:Nat}{R:Hp->Prop}{P:PySem.Fin->BR->Prop}{E:BP->BR->Prop}
  (I:Inv X pins σ H s) (hR:R H) (hr:bX k A) (hA:A.frames=some X.stack) (ho:s.heap.get? a=some (seqObj "list" vs.toArray n)) (hn:H a=none) (Oa:kX X pins a) (Of:kX X pins f) (hfO:s.heap.get? f=some fo) (hfn:H f=none) (hfc:∀v,fo.data ≠ .cell v) (fa:f≠a)
  (hz:vs.length<=Ca) (hlen:kz.length=vs.length)
  (turn:∀(i:Nat) (u:BP) (kk:Int) (s':BR) (H':Hp) (pins':List (Addr×Obj)) (E':BP->BR->Prop),vs[i]? = some u->kz[i]? = some kk->Inv X pins' σ H' s'->R H'->s'.heap.get? f=some fo →
   Cb (Cn X.prog X.w) A (call (.ref f) [u]) (EP X pins' σ λy H''=>y = .int kk/\R H'') E' s')
  (h:∀(s':BR) (H':Hp) (out:List BP) (c:Nat),Inv X pins σ H' s'->R H'->H' a=none->s'.heap.get? a=some (seqObj "list" out.toArray c)->Srt.As false kz vs out->P (.done (.ret .none)) s') :
  Cb (Cn X.prog X.w) A (ksk_tree a (.ref f) false) P E s:=by
 have ha:a<s.heap.objs.size:=BW ho
 unfold ksk_tree
 refine BN (Hg ho rfl (BN (Fm ho rfl ?_ (by rw[BZ];exact hz) (CC _))))
 obtain ⟨e1,ho1⟩:∃e1,(s.heap.update a (C9 λ_=>(#[]:Array BP))).get? a=some (seqObj "list" #[] e1):=⟨_,FU ho λ_ => #[]⟩
 refine BN (IQ ho1 rfl (BN (ID ?_ (by exact hz))))
 refine BN (FV ?_ (CC _))
 refine Dv ?_
 obtain ⟨kS,ekS⟩:∃kS,kS=((s.heap.update a (C9 λ_=>(#[]:Array BP))).push (seqObj "tuple" vs.toArray 0)).objs.size:=⟨_,rfl⟩
 have hkS:kS=s.heap.objs.size+1:=by rw[ekS,Jn,JB]
 have hka:kS≠a:=by rw[hkS];exact E6 (Em ha)
 show Cb _ _ (ksk_rest a (.ref f) false vs.toArray e1 (.ref ((s.heap.update a (C9 λ_=>(#[]:Array BP))).push (seqObj "tuple" vs.toArray 0)).objs.size)) _ _ { s with heap:=((s.heap.update a (C9 λ_=>(#[]:Array BP))).push (seqObj "tuple" vs.toArray 0)).push (seqObj "list" #[] 0) }
 rw[<- ekS]
 have g0:(((s.heap.update a (C9 λ_=>(#[]:Array BP))).push (seqObj "tuple" vs.toArray 0)).push (seqObj "list" #[] 0)).get? kS=some (seqObj "list" #[] 0):=by rw[ekS];exact BX _ rfl
 have a0:(((s.heap.update a (C9 λ_=>(#[]:Array BP))).push (seqObj "tuple" vs.toArray 0)).push (seqObj "list" #[] 0)).get? a=some (seqObj "list" #[] e1):=BO _ (BO _ ho1)
 have k0:∀b o,b≠a->s.heap.get? b=some o->(((s.heap.update a (C9 λ_=>(#[]:Array BP))).push (seqObj "tuple" vs.toArray 0)).push (seqObj "list" #[] 0)).get? b=some o:=λb o nb e=>by
  refine BO _ (BO _ ?_)
  rw[Dp _ _ _ _ nb]
  exact e
 have Ok:kX X pins kS:=I.Au (by rw[hkS];exact F3 _)
 have hkn:H kS=none:=I.hok.fresh (by rw[hkS];exact F3 _)
 have fk:f≠kS:=by rw[hkS];exact Cp (Em (BW hfO))
 generalize ((s.heap.update a (C9 λ_=>(#[]:Array BP))).push (seqObj "tuple" vs.toArray 0)).push (seqObj "list" #[] 0)=h6 at g0 a0 k0
 have nc:∀(T:String) (xs:Array BP) (m:Nat) v,(seqObj T xs m).data ≠ .cell v:=λT xs m v z=>by cases z
 have I6:Inv X pins σ H { s with heap:=h6,toks:=s.toks }:=I.turned (t':=s.toks) k0 hn Oa.l (.inr Oa.s0) Oa.c Oa.p
 have I7:=((I6.yF Of (k0 _ _ fa hfO) hfn hfc).yF (Oa.add fa) a0 hn (nc _ _ _)).yF ((Ok.add fk).add (DE hka)) g0 hkn (nc _ _ _)
 have Of':=Of
 unfold ksk_rest
 refine BN (En ?_)
 rw[<- Array.forIn_toList];simp only[List.toList_toArray]
 refine BN (ksk_fold (λi s'=>∃(H':Hp) (kA:Array BP) (e:Nat),Inv X (pins++[(f,fo)]++[(a,seqObj "list" #[] e1)]++[(kS,seqObj "list" kA e)]) σ H' s'/\R H'/\D5 kA.toList (kz.take i)) vs 0 _
  ⟨H, #[],0,I7,hR,by simpa using IntsAre.nil⟩ ?step ?done)
 case step =>
  rintro j x s' hx ⟨H',kA,e,J,hR',hk⟩
  simp only[FH] at hk ⊢
  have hj:j<vs.length:=(Cg.mp hx).1
  obtain ⟨kk,hkj⟩:∃kk,kz[j]? = some kk:=⟨_,Cr (by omega)⟩
  have hzk:kA.size=j:=by
   have h1:=hk.length
   rw[B0,DK] at h1
   omega
  have gf:=(J.pX (a:=f) (o:=fo) (by simp)).1
  refine BN (DL (C5 (turn j x kk s' H' _ (λ_ _=>False) hx hkj J hR' gf) (λy s2 z =>?_) λe s2 z=>False.elim z))
  obtain ⟨w,H2,J2,rw2,rfl,hR2⟩:=z
  obtain ⟨t,rfl⟩:=rw2
  try dsimp only
  obtain ⟨gk,nk⟩:=J2.pX (a:=kS) (o:=seqObj "list" kA e) (by simp)
  obtain ⟨ga,na⟩:=J2.pX (a:=a) (o:=seqObj "list" #[] e1) (by simp)
  obtain ⟨c2,hc2⟩:∃c2,(s2.heap.update kS (C9 (·.push (.int kk t)))).get? kS=some (seqObj "list" (kA.push (.int kk t)) c2):=⟨_,FU gk (·.push (.int kk t))⟩
  have ek:kz.take (j+1)=kz.take j++[kk]:=by rw[DA,hkj];simp
  have ea:(kA.push (EN kk t)).toList=kA.toList++[EN kk t]:=by simp
  refine BN (Fm gk rfl ?_ (by omega) (Cq (Nat.le_of_eq (EL ..)) (by omega)))
  have J3:Inv X (pins++[(f,fo)]++[(a,seqObj "list" #[] e1)]) σ H2 { s2 with heap:=s2.heap.update kS (C9 (·.push (.int kk t))),toks:=s2.toks }:=J2.tu.turned (t':=s2.toks) (λb o nb eb=>by rw[Dp _ _ _ _ nb];exact eb) nk Ok.l (.inr Ok.s0) Ok.c ((Ok.add fk).add (DE hka)).p
  exact BS ⟨rfl,H2,kA.push (.int kk t),c2,J3.yF ((Ok.add fk).add (DE hka)) hc2 nk (nc _ _ _),hR2,by rw[ea,ek];exact ksk_snoc hk⟩
 case done =>
  rintro s' ⟨H',kA,e,J,hR',hk⟩
  have hk':D5 kA.toList kz:=by
   have e3:kz.take (0+vs.length)=kz:=CP (by omega)
   rw[e3] at hk
   exact hk
  have hsz:kA.size=vs.length:=by
   have h1:=hk'.length
   rw[B0] at h1
   omega
  obtain ⟨gk,nk⟩:=J.pX (a:=kS) (o:=seqObj "list" kA e) (by simp)
  obtain ⟨ga,na⟩:=J.pX (a:=a) (o:=seqObj "list" #[] e1) (by simp)
  try dsimp only
  refine BN (Hg gk rfl ?_)
  have zl:(kA.zip vs.toArray).toList=kA.toList.zip vs:=ksk_zip _ _
  have up:∀p∈(kA.toList.zip vs:List PyProof.Rows.Keyed),∃i t,p.1 = .int i t:=λp hp=>Srt.fZ hk' _ (FK hp).1
  have lz:(kA.toList.zip vs:List PyProof.Rows.Keyed).length=vs.length:=by rw[Ie,B0,hsz,Ig]
  have tl:∀st':CH,(Cm st').toList.Perm (kA.toList.zip vs)->(Cm st').toList.Pairwise (λp q=>Srt.kP.kle (Srt.intOf p.1) (Srt.intOf q.1))->failedOf st'=none->Cb (Cn X.prog X.w) A (ksk_tail a false e1 (.ref kS) st') P E s':=by
   intro st' pm ps hf
   have em:(if false=true then ((Cm st').map (·.2)).reverse else (Cm st').map (·.2))=(Srt.ox false ((Cm st').toList.map (·.2))).toArray:=by
    unfold Srt.ox
    apply HR.mp
    simp
   have sa:(Cm st').size=vs.length:=by rw[<- B0,pm.length_eq,lz]
   have ga1:(s'.heap.update kS (C9 λ_=>(#[]:Array BP))).get? a=some (seqObj "list" #[] e1):=by rw[Dp _ _ _ _ (DE hka)];exact ga
   unfold ksk_tail
   try dsimp only
   refine BN (Fm gk rfl ?_ (by rw[hsz];exact hz) (CC _));refine BN (FE ?_)
   refine BN (IQ ga1 rfl ?_);refine BN (Fm ga1 rfl ?_ (CC _) (by rw[em,BZ];unfold Srt.ox;simp[sa];omega))
   rw[hf];simp only[bne_self_eq_false,Dl,if_false]
   have em':(Cm st').map (·.2)=(Srt.ox false ((Cm st').toList.map (·.2))).toArray:=em
   rw[em']
   obtain ⟨c2,hc2⟩:∃c2,((s'.heap.update kS (C9 λ_=>(#[]:Array BP))).update a (C9 λ_=>(Srt.ox false ((Cm st').toList.map (·.2))).toArray)).get? a=some (seqObj "list" (Srt.ox false ((Cm st').toList.map (·.2))).toArray c2):=⟨_,FU ga1 λ_=>(Srt.ox false ((Cm st').toList.map (·.2))).toArray⟩
   have J1:Inv X (pins++[(f,fo)]++[(a,seqObj "list" #[] e1)]) σ H' { s' with heap:=s'.heap.update kS (C9 λ_=>(#[]:Array BP)),toks:=s'.toks }:=J.tu.turned (t':=s'.toks) (λb o nb eb=>by rw[Dp _ _ _ _ nb];exact eb) nk Ok.l (.inr Ok.s0) Ok.c ((Ok.add fk).add (DE hka)).p
   have J2:=J1.tu.tu.turned (it:=a) (h':=(s'.heap.update kS (C9 λ_=>(#[]:Array BP))).update a (C9 λ_=>(Srt.ox false ((Cm st').toList.map (·.2))).toArray)) (t':=s'.toks) (λb o nb eb=>by
    rw[Dp _ _ _ _ nb];exact eb) na Oa.l (.inr Oa.s0) Oa.c Oa.p
   exact BS (h _ H' _ c2 J2 hR' na hc2 (Srt.yE hk' pm ps))
  have zr:(if false=true then (kA.zip vs.toArray).reverse else kA.zip vs.toArray).toList=(kA.toList.zip vs):=by simp[zl]
  unfold ksk_end
  try dsimp only
  by_cases h2:vs.toArray.size<2
  ·rw[if_neg B2,if_pos h2,if_pos h2]
   refine BN (BS ?_)
   rw[JM]
   refine BN (BS ?_)
   refine tl (SortSt.mk' general' (if false=true then (kA.zip vs.toArray).reverse else kA.zip vs.toArray) #[] 7 none) ?_ ?_ rfl
   ·show (if false=true then (kA.zip vs.toArray).reverse else kA.zip vs.toArray).toList.Perm _
    rw[zr]
   ·show (if false=true then (kA.zip vs.toArray).reverse else kA.zip vs.toArray).toList.Pairwise _
    rw[zr]
    rw[BZ] at h2
    have l2:(kA.toList.zip vs:List PyProof.Rows.Keyed).length<2:=by omega
    generalize (kA.toList.zip vs:List PyProof.Rows.Keyed)=l at l2
    match l,l2 with
    | [],_=>exact List.Pairwise.nil
    | [v],_=>exact DR _ _
    | _ :: _ :: _,hu=>simp only[B3] at hu;omega
  ·rw[if_neg B2,if_neg h2,if_neg h2]
   rw[BZ] at h2
   rw[ksk_kind hk' (by rw[hsz];omega)]
   refine BN (BS ?_)
   refine BN (C5 (Srt.pe (Srt.wH (h6:=s')) (E:=E) (a0:=kA.toList.zip vs) (st:=SortSt.mk' oneType' (if false=true then (kA.zip vs.toArray).reverse else kA.zip vs.toArray) #[] 7 none)
    (Q:=λ_ st'=>(Cm st').toList.Perm (kA.toList.zip vs)/\(Cm st').toList.Pairwise (Srt.Le (O:=Srt.kP) λ(p:PyProof.Rows.Keyed)=>Srt.intOf p.1)/\failedOf st'=none)
    (λp hp=>up p hp) zr rfl rfl rfl (by rw[lz];omega) λst' a1 a2 a3=>⟨a1,a2,a3⟩) ?_ λ_ _ e=>e)
   rintro ⟨⟨⟩,st'⟩ s2 ⟨rfl,hp,hs,hf⟩
   exact tl st' hp hs hf
end
open PySem PySem.Spec PySem.Calls PyProof.Rows PySem.W
section
variable  {X:Cx}{pins:List (Addr×Obj)}{σ:St}{H:Hp}{s:BR}
theorem rB {v:BP}{f:Addr}{fo:Obj}{A:CK}{vs:List BP}{kz:List Int}{k:Nat}{R:Hp->Prop}{Q:BP->BR->Prop}{E:BP->BR->Prop}
  (I:Inv X pins σ H s) (hR:R H) (hr:bX (k+2) A) (hA:A.frames=some X.stack) (hv:Srt.iu X.prog X.w s v vs) (Of:kX X pins f) (hfO:s.heap.get? f=some fo) (hfn:H f=none) (hfc:∀v,fo.data ≠ .cell v)
  (hz:vs.length<=Ca) (hlen:kz.length=vs.length)
  (turn:∀(i:Nat) (u:BP) (kk:Int) (s':BR) (H':Hp) (pins':List (Addr×Obj)) (A':CK) (E':BP->BR->Prop),bX k A'->A'.frames=some X.stack->vs[i]? = some u->kz[i]? = some kk->Inv X pins' σ H' s'->R H'->s'.heap.get? f=some fo →
   Cb (Cn X.prog X.w) A' (call (.ref f) [u]) (EP X pins' σ λy H''=>y = .int kk/\R H'') E' s')
  (h:∀(s':BR) (H':Hp) (p:Addr) (out:List BP) (c:Nat),Inv X pins σ H' s'->R H'->H' p=none->kX X pins p->s'.heap.get? p=some (seqObj "list" out.toArray c)->Srt.As false kz vs out->Q (.ref p) s') :
  Cb (Cn X.prog X.w) A (call (.builtin "sorted") [v] [("key",.ref f)]) Q E s:=by
 refine call_function_entry_kw JR Jt Ju (ksk_s1 _ _) ?_
 unfold Builtin.«sorted»
 refine BN (m:=checkCount "sorted" 1 1 _) (BS ?_)
 refine BN (hv _ _ _ λh1 k1 z1=>BN (FV ?_ hz))
 have hoL:(h1.push (seqObj "list" vs.toArray 0)).get? h1.objs.size=some (seqObj "list" vs.toArray 0):=BX _ rfl
 have kL:∀b o,s.heap.get? b=some o->(h1.push (seqObj "list" vs.toArray 0)).get? b=some o:=λb o e=>BO _ (k1 b o e)
 have Oa:kX X pins h1.objs.size:=I.Au z1
 have na:H h1.objs.size=none:=I.hok.fresh z1
 have fa:f≠h1.objs.size:=Cp (B8 (BW hfO) z1)
 refine BN (Dv (wpAny_call_entry_kw slot_list_sort ⟨_,hoL,rfl⟩ entry_list_sort ?body (ksk_l1 _ _)))
 case body =>
  show Cb (Cn X.prog X.w) _ (Builtin.«list.sort» ⟨[.ref h1.objs.size],[("key",.ref f)]⟩) _ _ _
  have e:Builtin.«list.sort» ⟨[.ref h1.objs.size],[("key",.ref f)]⟩=ksk_tree h1.objs.size (.ref f) false:=ksk_t1 _ _
  rw[e]
  refine wI (s:={ s with heap:=h1.push (seqObj "list" vs.toArray 0),toks:=s.toks }) (k:=k) (I.kept kL) hR hr.in1.in1 hA hoL na Oa Of (kL _ _ hfO) hfn hfc fa hz hlen (λi u kk s' H' pins' E' hu hk J rH g =>?_) λs' H' out c J rH hn ha ko=>⟨_,rfl,?_⟩
  ·exact turn i u kk s' H' pins' _ E' hr.in1.in1 hA hu hk J rH g
  ·exact BS ⟨_,rfl,h s' H' _ out c J rH hn Oa ha ko⟩
end
open PySem PySem.Spec PySem.Calls PyProof.Rows PySem.W
theorem wJ {H H':Hp}{P a:Addr}{ps:Array BP}{o:HO}(hP:H P=some (.tbl ps))(ho:∀r,o ≠ .tbl r)(sb:SameBut P H H')(h:Rd H a o):Rd H' a o:=by
 rcases h with h | ⟨ob,h⟩
 ·exact .inl (sb _ _ (λz=>by rw[z,hP] at h;cases h;exact ho _ rfl) h)
 ·exact .inr ⟨ob,sb _ _ (λz=>by rw[z,hP] at h;cases h) h⟩
theorem yG {K:BM}{H H':Hp}{P a:Addr}{ps:Array BP}{xs:List V}(hP:H P=some (.tbl ps))(sb:SameBut P H H')(h:SqL K H a xs):SqL K H' a xs:=h.imp (wJ hP nofun sb) id
theorem oy {K:BM}{H H':Hp}{P a:Addr}{ps:Array BP}{xs:List V}(hP:H P=some (.tbl ps))(sb:SameBut P H H')(h:SqT K H a xs):SqT K H' a xs:=h.imp (wJ hP nofun sb) id
def wK (α:Type)(K:BM)(P:Addr)(ps:Array BP)(te teB:TE)(ix:List (Option Nat)):TE:=λσ H Q=>te σ H λx H1=>∃(p:Addr) (ts:List (Addr×α)) (key:α -> Int),[x]=[V.ref p]/\(SqL K H1 p (ts.map λt=>V.ref t.1)\/SqT K H1 p (ts.map λt=>V.ref t.1))/\H1 P=some (.tbl ps) ∧
 (∀t∈ts,∀H',SameBut P H1 H'->teB ((inner ix σ).set 0 (some (.ref t.1))) H' λy H''=>y = .int (key t.2)/\aB H' H'') ∧
 ∀(l:Addr) (out:List (Addr×α)) (H':Hp),aB H1 H'->H' l=none->out.Perm ts->out.Pairwise (λa b=>key a.2<=key b.2)->Q (.ref l) (upd H' l (.lst (out.map λt=>V.ref t.1)))
section
variable  {X:Cx}
theorem oz {α:Type}{e:Expr}{te teB:TE}{p pos kpos lpos:Pos}{params:Arguments}{body:Expr}{lsc:Scope}{P c:Addr}{ps:Array BP}{N':List Str}{ix:List (Option Nat)}{x:Str}{k:Nat}
    (hg:Gl X "sorted") (hm:X.mg "sorted" = none) (hv:C2 "sorted" = some (.builtin "sorted")) (he:PE X e te)
    (hc:X.env.code = .ref c) (hcd:PySem.W.codeHdIn X.K c P=true) (hq:Nm ps lpos (X.env.qual ++ "<lambda>")) (hs3:3 ∣ ps.size) (hN:∀pos c,¬ cAt ps pos c)
    (hr:bX (k+3) X.A) (Kc:fg X.env.scope.names X.N lsc N' ix) (hx:N'[0]? = some x) (hxl:lsc.names.lookup x=some .local) (hi0:ix[0]? = some none) (hco:lsc.isCoroutine=false) (hgen:lsc.isGenerator=false)
    (hdef:defaultsOf params X.env=([],[]))
    (hbind:∀(qual:Str) (cl:List (Str×Addr)) (pm cd ctv u:BP),bindArgs (PySem.W.kla_fn "<lambda>" qual params body lsc cl pm cd ctv) ⟨[u],[]⟩=pure [(x,u)])
    (hB:∀(f:Addr) (cd:BP) (A':CK) (s:BR) (H:Hp),bX k (A'.deeper (PySem.W.envX (X.env.qual ++ "<lambda>") lsc s.heap.objs.size f cd (aQ X.env lsc.names [])))->PE (tm X (X.env.qual ++ "<lambda>") lsc (aQ X.env lsc.names []) f cd A' N' s H) body teB)
    (hs:CO (e :: []) X.env=(false,eval e X.env) :: CO [] X.env:=by rfl)
    (ha:Fi pos (CO (e :: []) X.env)=(false,eval e X.env) :: Fi pos (CO [] X.env):=by rfl)
    (hplain:(Fi pos (CO (e :: []) X.env)).any (·.1)=false:=by rfl) :
    PE X (.Call (.Name "sorted" p) [e] [⟨some "key",.Lambda params body lsc lpos,kpos⟩] pos) (wK α X.K P ps te teB ix):=by
  intro pins s σ H Q I h
  refine DG (fW I hg hm hv ?_)
  refine PyProof.Rows.callWith_kw (thn ((aa he ag hs) pos pins s σ H (λvs H1=>∃(p:Addr) (ts:List (Addr×α)) (key:α -> Int),vs=[V.ref p]/\(SqL X.K H1 p (ts.map λt:Addr×α=>V.ref t.1)\/SqT X.K H1 p (ts.map λt:Addr×α=>V.ref t.1))/\H1 P=some (.tbl ps) ∧
  (∀t∈ts,∀H',SameBut P H1 H'->teB ((inner ix σ).set 0 (some (.ref t.1))) H' λy H''=>y = .int (key t.2)/\aB H' H'') ∧
  ∀(l:Addr) (out:List (Addr×α)) (H':Hp),aB H1 H'->H' l=none->out.Perm ts->out.Pairwise (λa b:Addr×α=>key a.2<=key b.2)->Q (.ref l) (upd H' l (.lst (out.map λt:Addr×α=>V.ref t.1)))) I h) λus s1 ⟨vs,H1,I1,r1,q1⟩ =>?_) ha hplain rfl rfl
  show Cb _ _ (evalAll ((do let v ← eval (.Lambda params body lsc lpos) X.env;standAt pos;pure v) :: [])) _ _ s1
  obtain ⟨a,ts,key,rfl,hsq,hP,hk,q⟩:=q1
  obtain ⟨u,rfl,ru⟩:=vals1 r1
  cases (show u=Cc a from ru)
  have hcl:closureFor lsc X.env=pure (aQ X.env lsc.names []):=kI λy hy e=>I1.ok.has y.1 (Kc.frees y hy e)
  refine wpAny_evalAll_cons (BN (wF I1 hc hcd hP hq hdef hcl λf c' ctv pm h' tk H2 sb I2 hP2 hf hn ho=>BN (FR (BS (wpAny_evalAll_nil ?_)))))
  show Cb _ _ (call (.builtin "sorted") [.ref a] [("key",.ref f)]) _ _ _
  have hsq2:SqL X.K H2 a (ts.map λt:Addr×α=>V.ref t.1)\/SqT X.K H2 a (ts.map λt:Addr×α=>V.ref t.1):=hsq.imp (yG hP sb) (oy hP sb)
  obtain ⟨its,o,n,rv,e1,c1,d1,z1⟩:=I2.iw hsq2
  have ei:=cO rv
  have lz:its.length<=Ca:=by rw[<- rv.length];exact z1
  have li:its.length=ts.length:=by rw[ei,BQ]
  refine rB (R:=λH'=>SameBut P H2 H'/\H' P=some (.tbl (dR ps lpos c'))) (k:=k+1) (kz:=ts.map λt=>key t.2) I2 ⟨λb o _ e=>e,hP2⟩ hr I2.ok.frames (Srt.dz e1 c1 d1 lz) (I1.Au hf) ho hn (λv z=>by cases z) lz (by rw[BQ,li]) ?turn λs3 H3 l out m J3 r3 hl Ol el ko =>?fin
  case turn =>
    intro i u kk s' H' pins' A' E' hr' hA' hu hkk J rH g
    rw[ei,CA] at hu
    rw[CA] at hkk
    cases et:ts[i]? with
    | none=>rw[et] at hu;cases hu
    | some t =>
      rw[et] at hu hkk
      cases hu
      cases hkk
      refine C5 (wG J Kc hx hxl hi0 hco hgen hr' hA' g (yC J rH.2 hq hs3) (hbind _ _ _ _ _ _) (λhk'=>hB f (.ref c') A' s' H' hk') (v :=.ref t.1) rfl (hk t (Cy et) H' λb o nb e=>rH.1 _ _ nb (sb _ _ nb e))) (λy s4 z =>?_) λe s4 z=>z
      obtain ⟨w,H4,J4,rw4,e4,sm⟩:=z
      exact ⟨w,H4,J4,rw4,e4,λb o nb e=>sm _ _ (rH.1 _ _ nb e),sm _ _ rH.2⟩
  case fin =>
    obtain ⟨ps',pm,eo,pw⟩:=ko
    rw[ei,pW] at pm
    obtain ⟨out',pm',rfl⟩:=bM pm
    have eo':out=out'.map λt=>Cc t.1:=by rw[eo,Cs];rfl
    subst eo'
    have J4:=Inv.BB I1 hP J3 r3.2 hq hN
    have ne:∀b,H3 b=none->(upd H3 P (.tbl ps)) b=none:=λb e=>by rw[ax (λz=>by rw[z,r3.2] at e;cases e)];exact e
    have sm:aB H1 (upd H3 P (.tbl ps)):=λb o e=>by
      by_cases z:b=P
      · subst z
        rw[hP] at e
        cases e
        exact af
      · rw[ax z]
        exact r3.1 _ _ z (sb _ _ z e)
    refine ⟨.ref l,_,J4.take (o :=.lst (out'.map λt:Addr×α=>V.ref t.1)) (ne _ hl) Ol.s0 Ol.l Ol.c Ol.p ⟨(by rw[BQ,pm'.length_eq, <- BQ (f:=λt:Addr×α=>V.ref t.1)];exact z1),_,m,gB,el⟩,rfl,q l out' _ sm (ne _ hl) pm' ?_⟩
    refine (CI.mp pw).imp λ{x y} le =>?_
    rw[if_neg B2] at le
    exact le
end
open PySem PySem.Spec PyProof.Rows
structure yH (K:BM)(x qual:Str)(st:Stmt)(f:Addr)(fd:CT)(c Pt:Addr):Prop where
 ex:∃(oc:BP) (od:Option Addr) (kV doc pm:BP) (an:Option Addr) (ct:BP) (osl:Array (Option BP)),
  fd=PySem.W.fnOf x qual (bW st) (bH st) (aA st) .none kV doc pm an (.ref c) ct/\K.lookup f=some ⟨oc,od,.func fd,osl⟩/\PySem.W.codeIn K (.ref c) qual=true
 hd:PySem.W.codeHdIn K c Pt=true
 kp:PySem.W.keepIn K (.ref f)=true
section
variable  {P:B7}{w:CJ}{K:BM}{mg:Str->Option BP}{base:Heap}
theorem yH.ok {x qual:Str}{st:Stmt}{f c Pt:Addr}{fd:CT}{N ps:List Str}{k:Nat}{sp:Sp}(F:yH K x qual st f fd c Pt)(S:aV N ps (aA st))(len:∀vs H Q E,sp vs H Q E->vs.length=ps.length)
  (hbody:∀(A:CK) (outer:List Env) (s:BR) (H:Hp) (vs:List V) (Q:VK) (E:XK),bX k (A.deeper (envOfC qual (aA st) s.heap.objs.size f (.ref c)))->sp vs H Q E →
   ∃t,PSs (gW CX0 P w K mg base N qual (aA st) f (.ref c) A outer s H E).nox (bH st) t/\t { nx:=λ_ H'=>Q .non H',rt:=Q } (start N vs) H):bS P w K mg base CX0 (k+1) f fd ps sp:=by
 obtain ⟨oc,od,kV,doc,pm,an,ct,osl,rfl,lk,hcd⟩:=F.ex
 refine vB lk hcd S len λA outer s H vs Q E hr hsp =>?_
 obtain ⟨t,h,q⟩:=hbody A outer s H vs Q E hr hsp
 exact ⟨t,h.nox,q⟩
def pY (K:BM)(x:Str)(st:Stmt)(Pt:Addr):Prop:=∃(f c:Addr) (od an:Option Addr) (sl:Array (Option BP)) (oc kV dc pm ct:BP),CY K Ct x=some (some (.ref f))/\K.lookup f=some ⟨oc,od,.func (PySem.W.fnOf x x (bW st) (bH st) (aA st) .none kV dc pm an (.ref c) ct),sl⟩/\PySem.W.codeIn K (.ref c) x=true/\PySem.W.codeHdIn K c Pt=true/\PySem.W.keepIn K (.ref f)=true
theorem pY.mk {x:Str}{st:Stmt}{f c Pt:Addr}{od an:Option Addr}{sl:Array (Option BP)}{oc kV dc pm ct:BP}(a:CY K Ct x=some (some (.ref f)))(l:K.lookup f=some ⟨oc,od,.func (PySem.W.fnOf x x (bW st) (bH st) (aA st) .none kV dc pm an (.ref c) ct),sl⟩)(q:PySem.W.codeIn K (.ref c) x=true)(hd:PySem.W.codeHdIn K c Pt=true)(k:PySem.W.keepIn K (.ref f)=true):pY K x st Pt:=⟨_,_,_,_,_,_,_,_,_,_,a,l,q,hd,k⟩
theorem pY.cal {x:Str}{st:Stmt}{Pt:Addr}(hf:pY K x st Pt)(P:B7)(w:CJ)(base:Heap){h:Heap}{mg:Str->Option BP}(X:K.In h)(G:h.Ns Ct mg){lv:Nat}{ps:List Str}{sp:Sp}(ok:∀{f:Addr} {fd:CT} {c:Addr},yH K x x st f fd c Pt->bS P w K mg base CX0 lv f fd ps sp)
  (hb:∀(kV doc pm:BP) (an:Option Addr) (cdv ct:BP) (us:List BP),us.length=ps.length->bindArgs (PySem.W.fnOf x x (bW st) (bH st) (aA st) .none kV doc pm an cdv ct) ⟨us,[]⟩=pure (ps.zip us)):Cal P w K mg base lv x ps sp:=by
 obtain ⟨f,c,od,an,sl,oc,kV,dc,pm,ct,a,l,q,hd,k⟩:=hf
 have F:Fun K x x st f _:=gX l q k
 exact ⟨_,_,ok ⟨⟨_,_,_,_,_,_,_,_,rfl,l,q⟩,hd,k⟩,DV X G a,k,F.binds hb⟩
end
open PySem PySem.Spec PyProof.Rows
abbrev yI (l c:Nat)(q:Str):Array BP := #[Ea l,Ea c,.str q 0]
theorem Av {α:Type}{x0 x1 x2 x3 x4 x5 y:α}{i:Nat}(h:(#[x0,x1,x2,x3,x4,x5]:Array α)[3*i+2]? = some y):(i=0/\y=x2)\/(i=1/\y=x5):=by
 match i with
 | 0=>exact .inl ⟨rfl,(Cv h).symm⟩
 | 1=>exact .inr ⟨rfl,(Cv h).symm⟩
 | i+2=>rw[E4 (by show 6<=3*(i+2)+2;omega)] at h;cases h
theorem BC {α:Type}{x0 x1 x2 y:α}{i:Nat}(h:(#[x0,x1,x2]:Array α)[3*i+2]? = some y):i=0/\y=x2:=by
 match i with
 | 0=>exact ⟨rfl,(Cv h).symm⟩
 | i+1=>rw[E4 (by show 3<=3*(i+1)+2;omega)] at h;cases h
theorem rC (l c:Nat)(q:Str)(pos:Pos)(a:Addr):dR (yI l c q) pos a = #[Ea l,Ea c,.str q 0,Ea pos.line,Ea pos.col,.ref a]:=rfl
theorem Aw {l c:Nat}{q:Str}{pos:Pos}(hl:pos.line=l)(hc:pos.col=c):Nm (yI l c q) pos q where
 qa:=⟨0,0,by rw[hl];rfl,by rw[hc];rfl,rfl⟩
 un:=λa q' ⟨i,t,h1,h2,h3⟩=>by
  rw[rC] at h3
  rcases Av h3 with ⟨_,e⟩ | ⟨_,e⟩
  ·cases e;rfl
  ·cases e
 ws:=λa pos' q' ⟨i,t,h1,h2,h3⟩=>by
  obtain ⟨rfl,e⟩:=BC h3
  exact ⟨0,t,h1,h2,h3⟩
 vs:=λa pos' q' ⟨i,t,h1,h2,h3⟩=>by
  rw[rC] at h1 h2 h3
  rcases Av h3 with ⟨rfl,e⟩ | ⟨_,e⟩
  ·exact ⟨0,t,h1,h2,h3⟩
  ·cases e
 co:=λa pos' c2 ⟨i,h1,h2,h3⟩=>by
  rw[rC] at h1 h2 h3
  rcases Av h3 with ⟨_,e⟩ | ⟨rfl,e⟩
  ·cases e
  ·cases e
   have e1:Ea (pos.line:Int)=Ea (pos'.line:Int):=Cv h1
   have e2:Ea (pos.col:Int)=Ea (pos'.col:Int):=Cv h2
   unfold Ea at e1 e2
   injection e1 with e1
   injection e2 with e2
   exact ⟨rfl,by omega,by omega⟩
theorem tE {l c:Nat}{q:Str}(pos:Pos)(a:Addr):¬ cAt (yI l c q) pos a:=λ⟨i,_,_,h3⟩=>by
 obtain ⟨_,e⟩:=BC h3
 cases e
end L2
namespace Srt
open PySem PyProof.Rows
inductive Cell | i (n:Int) | s (x:Str) | t (ns:List Int)
 deriving DecidableEq
def fm:List Int->List Int
 | []=>[0]
 | n :: ns=>1 :: n :: fm ns
def i3 (x:Str):List Int:=x.cps.toList.map λc:Nat=>(c:Int)
def Cell.enc:Cell->List Int
 | .i n=>[n]
 | .s x=>fm (i3 x)
 | .t ns=>fm ns
def bz (cs:List Cell):List Int:=cs.flatMap Cell.enc
def Cell.like:Cell->Cell->Bool
 | .i _,.i _=>true
 | .s _,.s _=>true
 | .t _,.t _=>true
 | _,_=>false
def mY:List Cell->List Cell->Prop
 | a :: as,b :: bs=>a.like b=true/\mY as bs
 | _,_=>True
theorem kY:∀(ns ms r r':List Int),HT.lexLt (fm ns++r) (fm ms++r')=if ns=ms then HT.lexLt r r' else HT.lexLt ns ms
 | [],[],r,r'=>by
  show HT.lexLt (0 :: r) (0 :: r')=_
  rw[HT.aY,if_pos rfl,if_pos rfl]
 | [],m :: ms,r,r'=>by
  show HT.lexLt (0 :: r) (1 :: (m :: fm ms++r'))=_
  rw[HT.aY,if_neg (by omega),if_neg nofun]
  rfl
 | n :: ns,[],r,r'=>by
  show HT.lexLt (1 :: (n :: fm ns++r)) (0 :: r')=_
  rw[HT.aY,if_neg (by omega),if_neg nofun]
  rfl
 | n :: ns,m :: ms,r,r'=>by
  show HT.lexLt (1 :: n :: (fm ns++r)) (1 :: m :: (fm ms++r'))=_
  rw[HT.aY,if_pos rfl,HT.aY,HT.aY]
  by_cases e:n=m
  ·subst e
   rw[if_pos rfl,if_pos rfl,kY ns ms r r']
   by_cases e2:ns=ms
   ·rw[if_pos e2,if_pos (by rw[e2])]
   ·rw[if_neg e2,if_neg (λz=>e2 (Dd z).2)]
  ·rw[if_neg e,if_neg e,if_neg (λz=>e (Dd z).1)]
theorem tG:∀a b:List Nat,decide (a<b)=HT.lexLt (a.map λc:Nat=>(c:Int)) (b.map λc:Nat=>(c:Int))
 | [],[]=>by decide
 | [],_ :: _=>decide_eq_true (List.nil_lt_cons ..)
 | _ :: _,[]=>decide_eq_false (List.not_lt_nil _)
 | x :: xs,y :: ys=>by
  rw[Ci,Ci,HT.aY]
  by_cases e:x=y
  ·subst e
   rw[if_pos rfl, <- tG xs ys]
   exact decide_eq_decide.mpr (by rw[Ii];simp)
  ·rw[if_neg (by omega)]
   exact decide_eq_decide.mpr (by rw[Ii];omega)
theorem pZ {x y:Str}(h:i3 x=i3 y):x=y:=by
 have e:x.cps.toList=y.cps.toList:=by
  unfold i3 at h
  exact List.map_inj_right (λa b z=>by omega) |>.mp h
 cases x
 cases y
 congr
 exact HR.mp e
def IsCell (h:Heap)(v:BP):Cell->Prop
 | .i n=>∃t,v = .int n t
 | .s x=>∃t,v = .str x t
 | .t ns=>∃b,v = .ref b/\cI h (.ref b) ns
def bZ (h:Heap):List BP->List Cell->Prop
 | [],[]=>True
 | v :: vs,c :: cs=>IsCell h v c/\bZ h vs cs
 | _,_=>False
def rE (h:Heap):BP->List Int
 | .int n _=>[n]
 | .str x _=>fm (i3 x)
 | v=>fm (dA h v)
def gY (h:Heap)(v:BP):List Int:=match v with
 | .ref p=>match h.get? p with
  | some o=>match o.data with
   | .seq xs _=>xs.toList.flatMap (rE h)
   | _=>[]
  | none=>[]
 | _=>[]
def cE (h:Heap)(v:BP)(cs:List Cell):Prop:=∃p o xs n,v = .ref p/\h.get? p=some o/\o.cls = .type "tuple" /\ o.data = .seq xs n/\bZ h xs.toList cs
theorem IsCell.enc {h:Heap}{v:BP}:∀{c:Cell},IsCell h v c->rE h v=c.enc
 | .i n,⟨t,e⟩=>by rw[e];rfl
 | .s x,⟨t,e⟩=>by rw[e];rfl
 | .t ns,⟨b,e,k⟩=>by rw[e];exact congrArg fm k.ints
theorem bZ.enc {h:Heap}:∀{vs:List BP} {cs:List Cell},bZ h vs cs->vs.flatMap (rE h)=bz cs
 | [],[],_=>rfl
 | v :: vs,c :: cs,⟨a,b⟩=>by
  rw[HC,a.enc,bZ.enc b]
  rfl
theorem cE.enc {h:Heap}{v:BP}{cs:List Cell}(x:cE h v cs):gY h v=bz cs:=by
 obtain ⟨p,o,xs,n,rfl,e,_,d,r⟩:=x
 unfold gY
 dsimp only
 rw[e]
 dsimp only
 rw[d]
 exact r.enc
theorem IsCell.keeps {h h':Heap}{v:BP}(kp:∀b o,h.get? b=some o->h'.get? b=some o):∀{c:Cell},IsCell h v c->IsCell h' v c
 | .i n,k=>k
 | .s x,k=>k
 | .t ns,⟨b,e,k⟩=>⟨b,e,k.keeps kp⟩
theorem bZ.keeps {h h':Heap}(kp:∀b o,h.get? b=some o->h'.get? b=some o):∀{vs:List BP} {cs:List Cell},bZ h vs cs->bZ h' vs cs
 | [],[],_=>trivial
 | v :: vs,c :: cs,⟨a,b⟩=>⟨a.keeps kp,b.keeps kp⟩
theorem cE.keeps {h h':Heap}{v:BP}{cs:List Cell}(x:cE h v cs)(kp:∀b o,h.get? b=some o->h'.get? b=some o):cE h' v cs:=by
 obtain ⟨p,o,xs,n,rfl,e,c,d,r⟩:=x
 exact ⟨p,o,xs,n,rfl,kp _ _ e,c,d,r.keeps kp⟩
theorem bZ.len {h:Heap}:∀{vs:List BP} {cs:List Cell},bZ h vs cs->vs.length=cs.length
 | [],[],_=>rfl
 | v :: vs,c :: cs,⟨a,b⟩=>by rw[B3,B3,b.len]
section
variable  {prog:B7}{w:CJ}{A:CK}{s:BR}
theorem dh (c:Cell)(cs:List Cell):bz (c :: cs)=c.enc++bz cs:=rfl
theorem j9 (c:Cell)(r:List Int):∃x xs,c.enc++r=x :: xs:=by
 cases c with
 | i n=>exact ⟨_,_,rfl⟩
 | s x =>
  show ∃y ys,fm (i3 x)++r=y :: ys
  generalize i3 x=l
  cases l <;> exact ⟨_,_,rfl⟩
 | t l=>cases l <;> exact ⟨_,_,rfl⟩
theorem mZ (hu:A.units<cLine){fin:Bool}{Q:Bool->BR->Prop}:∀{us ws:List BP} {cs ds:List Cell} (i:Nat),bZ s.heap us cs->bZ s.heap ws ds->mY cs ds->(i=0->∀ns,cs.head? ≠ some (.t ns))->(fin=true↔(decide (cs.length<ds.length)=true))->Q (HT.lexLt (bz cs) (bz ds)) s →
  PySem.W.KatLex prog w A true fin Q (us.zip ws) i s
 | [],[],[],[],i,_,_,_,_,hf,q=>by
  refine E9 ?_
  have e:fin=false:=by cases fin with
   | false=>rfl
   | true=>have:=hf.mp rfl;simp at this
  rw[e];exact q
 | [],_ :: _,[],d :: ds,i,_,_,_,_,hf,q=>by
  refine E9 ?_
  have e:fin=true:=hf.mpr (by simp)
  rw[dh] at q
  obtain ⟨x,xs,e2⟩:=j9 d (bz ds)
  rw[e2] at q
  rw[e];exact q
 | _ :: _,[],c :: cs,[],i,_,_,_,_,hf,q=>by
  refine E9 ?_
  have e:fin=false:=by cases fin with
   | false=>rfl
   | true=>have:=hf.mp rfl;simp at this
  rw[dh] at q
  obtain ⟨x,xs,e2⟩:=j9 c (bz cs)
  rw[e2] at q
  rw[e];exact q
 | u :: us,v :: ws,c :: cs,d :: ds,i,⟨a,r⟩,⟨b,r'⟩,⟨lk,L⟩,hn,hf,q=>by
  rw[EC]
  rw[dh,dh] at q
  have nx:∀q':Q (HT.lexLt (bz cs) (bz ds)) s,PySem.W.KatLex prog w A true fin Q (us.zip ws) (i+1) s:=λq'=>mZ hu (i+1) r r' L (λz=>absurd z (Nat.succ_ne_zero i)) (by rw[hf];simp) q'
  cases c with
  | i n =>
   cases d with
   | s y=>cases lk
   | t ms=>cases lk
   | i m =>
    obtain ⟨t,rfl⟩:=a
    obtain ⟨t',rfl⟩:=b
    have q:Q (HT.lexLt (n :: bz cs) (m :: bz ds)) s:=q
    rw[HT.aY] at q
    refine Gm (HU ?_)
    by_cases e:n=m
    ·rw[if_pos e] at q
     rw[beq_iff_eq.mpr e]
     exact GJ (nx q)
    ·rw[if_neg e] at q
     rw[beq_eq_false_iff_ne.mpr e]
     refine Hn ?_
     by_cases i0:(true && i == 0)=true
     ·rw[i0]
      exact JS q
     ·rw[D3.mpr i0,oneLt'_eq]
      simp only[Dl,if_false]
      refine BN (HT.kF _ _ n t m t' prog w _ _ ?_)
      exact DC q
  | s x =>
   cases d with
   | i y=>cases lk
   | t ms=>cases lk
   | s y =>
    obtain ⟨t,rfl⟩:=a
    obtain ⟨t',rfl⟩:=b
    have q:Q (HT.lexLt (fm (i3 x)++bz cs) (fm (i3 y)++bz ds)) s:=q
    rw[kY] at q
    refine Gm (wpAny_eqBool_str ?_)
    by_cases e:x=y
    ·rw[if_pos (by rw[e])] at q
     rw[decide_eq_true e]
     exact GJ (nx q)
    ·rw[if_neg (λz=>e (pZ z))] at q
     rw[show HT.lexLt (i3 x) (i3 y)=_ from (tG _ _).symm] at q
     rw[decide_eq_false e]
     refine Hn ?_
     by_cases i0:(true && i == 0)=true
     ·rw[i0]
      exact oneLt_str q
     ·rw[D3.mpr i0]
      exact JP _ _ (lt_str q)
  | t ns =>
   cases d with
   | i y=>cases lk
   | s ms=>cases lk
   | t ms =>
    obtain ⟨p,rfl,k1⟩:=a
    obtain ⟨p',rfl,k2⟩:=b
    have q:Q (HT.lexLt (fm ns++bz cs) (fm ms++bz ds)) s:=q
    rw[kY] at q
    refine Gm (mT hu k1 k2 _ _ _ _ ?_)
    by_cases e:ns=ms
    ·rw[if_pos e] at q
     rw[decide_eq_true e]
     exact GJ (nx q)
    ·rw[if_neg e] at q
     rw[decide_eq_false e]
     refine Hn ?_
     have i0:(true && i == 0)=false:=by
      rw[Bool.true_and,beq_eq_false_iff_ne]
      exact λz=>hn z ns rfl
     rw[i0]
     obtain ⟨j3,w3,z3⟩:=k1.isTup
     obtain ⟨j4,w4,z4⟩:=k2.isTup
     exact JP _ _ (HT.kG w3 w4 z3 z4 hu q)
structure Alike (G:List Cell->Prop):Prop where
 likes:∀a b,G a->G b->mY a b
 heads:(∀a,G a->∃n,a.head? = some (.i n))\/(∀a,G a->∃x,a.head? = some (.s x))
theorem gi {h:Heap}{G:List Cell->Prop}(P:BP->Prop)(hP:∀c cs v,G (c :: cs)->IsCell h v c->P v)(hne:∀a,G a->a≠[]):∀{vs:List BP},(∀v∈vs,∃cs,cE h v cs/\G cs)->∃fs,PySem.W.KatTups h vs fs/\fs.length=vs.length/\∀f∈fs,P f
 | [],_=>⟨[],trivial,rfl,λf hf=>by cases hf⟩
 | v :: vs,hv=>by
  obtain ⟨fs,t,l,hf⟩:=gi P hP hne λu hu=>hv u (B9 _ hu)
  obtain ⟨cs,⟨p,o,xs,n,rfl,e,c,d,r⟩,g⟩:=hv v B1
  obtain ⟨xl⟩:=xs
  match cs,xl,r,g with
  | [],_,_,g=>exact absurd rfl (hne _ g)
  | _ :: _,[],r,_=>exact r.elim
  | c1 :: cs,x :: xs,⟨r1,r2⟩,g =>
   refine ⟨x :: fs,Iq e c d (by simp) t,congrArg (· + 1) l,λf hf' =>?_⟩
   cases hf' with
   | head=>exact hP _ _ _ g r1
   | tail _ q=>exact hf f q
theorem lX {vs:List BP}{G:List Cell->Prop}(al:Alike G)(hv:∀v∈vs,∃cs,cE s.heap v cs/\G cs)(h2:2<=vs.length)(A:CK)(h6:Heap)(hu:A.units<cLine)(k6:∀b o,s.heap.get? b=some o->h6.get? b=some o):∃κ,(∀(Q:SortKind->BR->Prop) (E:BP->BR->Prop),Q κ { s with heap:=h6 }->Cb (Cn prog w) A (keyKind' vs.toArray) Q E { s with heap:=h6 }) ∧
  Cmp prog w A { s with heap:=h6 } lexOrd (λp=>gY s.heap p.1) (λp=>p.1=p.2/\p.1∈vs) κ:=by
 have hv6:∀v∈vs,∃cs,cE h6 v cs/\G cs:=λv hv'=>by
  obtain ⟨cs,k,g⟩:=hv v hv'
  exact ⟨cs,k.keeps k6,g⟩
 refine ⟨tuples' true,λQ E q =>?_,⟨λE st x y Q hk hx hy q =>?_⟩⟩
 ·rcases al.heads with hh | hh
  ·obtain ⟨fs,t,l,hf⟩:=gi (λv=>∃i t,v = .int i t) (λc cs v g k=>by
    obtain ⟨n,e⟩:=hh _ g
    cases e
    obtain ⟨t,e⟩:=k
    exact ⟨n,t,e⟩) (λa g z=>by
    obtain ⟨n,e⟩:=hh _ g
    rw[z] at e;cases e) hv6
   refine HS (T :=.type "int") t (by omega) (λf hf' =>?_) rfl q
   obtain ⟨i,t',rfl⟩:=hf f hf'
   exact Ge rfl
  ·obtain ⟨fs,t,l,hf⟩:=gi (λv=>∃i t,v = .str i t) (λc cs v g k=>by
    obtain ⟨n,e⟩:=hh _ g
    cases e
    obtain ⟨t,e⟩:=k
    exact ⟨n,t,e⟩) (λa g z=>by
    obtain ⟨n,e⟩:=hh _ g
    rw[z] at e;cases e) hv6
   refine HS (T :=.type "str") t (by omega) (λf hf' =>?_) rfl q
   obtain ⟨i,t',rfl⟩:=hf f hf'
   exact Ge rfl
 ·obtain ⟨cs,i1,g1⟩:=hv _ hx.2
  obtain ⟨ds,i2,g2⟩:=hv _ hy.2
  have q':Q (some (HT.lexLt (gY s.heap x.1) (gY s.heap y.1))) st:=q
  rw[i1.enc,i2.enc] at q'
  obtain ⟨p1,o1,xs1,n1,e1,a1,c1,d1,r1⟩:=i1.keeps k6
  obtain ⟨p2,o2,xs2,n2,e2,a2,c2,d2,r2⟩:=i2.keeps k6
  rw[lt'_eq]
  refine B6 (Gq ?_)
  rw[hk,e1,e2]
  refine B6 (GF (DL (JZ a1 d1 a2 d2 (mZ hu 0 r1 r2 (al.likes _ _ g1 g2) (λ_ ns z =>?_) ?_ ⟨rfl,Cj q'⟩))))
  ·rcases al.heads with hh | hh
   ·obtain ⟨n,e⟩:=hh _ g1
    rw[z] at e;cases e
   ·obtain ⟨n,e⟩:=hh _ g1
    rw[z] at e;cases e
  ·rw[<- r1.len, <- r2.len,B0,B0]
end
end Srt
namespace L2
open PySem PySem.Spec PyProof.Rows Srt
def tH (K:BM)(H:Hp)(x:V):Cell->Prop
 | .i n=>x = .int n
 | .s z=>x = .str z
 | .t ns=>∃b,x = .ref b/\SqT K H b (ns.map V.int)
def cF (K:BM)(H:Hp):List V->List Cell->Prop
 | [],[]=>True
 | x :: xs,c :: cs=>tH K H x c/\cF K H xs cs
 | _,_=>False
def RowC (K:BM)(H:Hp)(a:Addr)(cs:List Cell):Prop:=∃xs,SqT K H a xs/\cF K H xs cs
section
variable  {X:Cx}{pins:List (Addr×Obj)}{σ:St}{H:Hp}{s:BR}
theorem tH.is (I:Inv X pins σ H s){x:V}{v:BP}(r:RelV x v):∀{c:Cell},tH X.K H x c->IsCell s.heap v c
 | .i n,e=>by
  cases (show x = .int n from e)
  exact r
 | .s z,e=>by
  cases (show x = .str z from e)
  exact r
 | .t ns,⟨b,e,k⟩=>by
  subst e
  obtain ⟨kts,kr,⟨ko,ke,kc,kn,kd⟩,_⟩:=I.tuple k
  exact ⟨b,r,b,ko,_,kn,rfl,ke,kc,kd,by simpa using fj kr⟩
theorem cF.is (I:Inv X pins σ H s):∀{xs:List V} {vs:List BP} {cs:List Cell},Vals xs vs->cF X.K H xs cs->bZ s.heap vs cs
 | [],[],[],.nil,_=>trivial
 | x :: xs,v :: vs,c :: cs,.cons r rs,⟨a,b⟩=>⟨a.is I r,cF.is I rs b⟩
theorem cv (hu:X.A.units+8<cLine):cM X (.builtin "sorted") (λxs H Q=>∃(G:List Cell->Prop) (p:Addr) (ks:List (Addr×List Cell)),Alike G/\xs=[.ref p]/\(SqL X.K H p (ks.map λk =>.ref k.1)\/SqT X.K H p (ks.map λk =>.ref k.1))/\(∀k∈ks,RowC X.K H k.1 k.2/\G k.2) ∧
  ∀(l:Addr) (out:List (Addr×List Cell)),H l=none->out.Perm ks->out.Pairwise (λa b=>HT.lexLt (bz b.2) (bz a.2)=false)->Q (.ref l) (upd H l (.lst (out.map λt =>.ref t.1)))):=by
 intro pins s σ H xs us Q I r h
 obtain ⟨G,p,ks,al,rfl,hs,ht,q⟩:=h
 obtain ⟨u,rfl,ru⟩:=vals1 r
 cases (show u=Cc p from ru)
 obtain ⟨its,o,n,rv,e,c,d,z⟩:=I.iw hs
 have ei:=cO (f:=λk:Addr×List Cell=>k.1) rv
 have lz:its.length<=Ca:=by rw[<- rv.length];exact z
 have row:∀k∈ks,cE s.heap (.ref k.1) k.2/\G k.2:=λk hk=>by
  obtain ⟨⟨xs,h1,h2⟩,g⟩:=ht k hk
  obtain ⟨jts,jr,⟨jo,je,jc,jn,jd⟩,_⟩:=I.tuple h1
  exact ⟨⟨k.1,jo,_,jn,rfl,je,jc,jd,h2.is I (by simpa using jr)⟩,g⟩
 have hv:∀v∈its,∃cs,cE s.heap v cs/\G cs:=λv hv=>by
  rw[ei] at hv
  obtain ⟨k,hm,rfl⟩:=Ce.mp hv
  exact ⟨_,row k hm⟩
 refine Srt.pM (Srt.dz e c d lz) lz (λh2 B h6 hB k6=>Srt.lX al hv h2 B h6 (by omega) k6) λh' l out m k hl el pm ps =>?_
 rw[ei] at pm
 obtain ⟨out',pm',rfl⟩:=bM pm
 refine ⟨.ref l,_,I.newList k hl el gB (by rw[BQ,pm'.length_eq, <- BQ (f:=λt:Addr×List Cell=>V.ref t.1)];exact z),rfl,q l _ (I.hok.fresh hl) pm' ?_⟩
 rw[CI] at ps
 refine ps.imp_of_mem λ{x y} hx hy le =>?_
 have le':HT.lexLt (gY s.heap (.ref y.1)) (gY s.heap (.ref x.1))=false:=le
 rwa [(row x (pm'.mem_iff.mp hx)).1.enc,(row y (pm'.mem_iff.mp hy)).1.enc] at le'
end
theorem dS {α:Type}(f:α -> List Int):∀{l m:List α},l.Perm m->(∀a∈l,∀b∈l,f a=f b->a=b)->l.Pairwise (λa b=>HT.lexLt (f b) (f a)=false)->m.Pairwise (λa b=>HT.lexLt (f b) (f a)=false)->l=m
 | [],m,p,_,_,_=>p.nil_eq
 | x :: l,[],p,_,_,_=>p.symm.nil_eq.symm
 | x :: l,y :: m,p,inj,s1,s2=>by
  have hx:x∈y :: m:=p.mem_iff.mp B1
  have hy:y∈x :: l:=p.mem_iff.mpr B1
  have e:x=y:=by
   rcases Cw.mp hx with z | z
   ·exact z
   ·rcases Cw.mp hy with z' | z'
    ·exact z'.symm
    ·exact inj _ B1 _ hy (eU _ _ ((DS.mp s2).1 _ z) ((DS.mp s1).1 _ z'))
  subst e
  rw[dS f (F9 x |>.mp p) (λa ha b hb=>inj a (B9 _ ha) b (B9 _ hb)) (DS.mp s1).2 (DS.mp s2).2]
theorem kZ:∀{ns ms r r':List Int},fm ns++r=fm ms++r'->ns=ms/\r=r'
 | [],[],r,r',h=>⟨rfl,(Dd h).2⟩
 | [],m :: ms,r,r',h=>absurd (Dd h).1 (by omega)
 | n :: ns,[],r,r',h=>absurd (Dd h).1 (by omega)
 | n :: ns,m :: ms,r,r',h=>by
  have h2:=(Dd h).2
  obtain ⟨e1,e2⟩:=kZ (ns:=ns) (ms:=ms) (Dd h2).2
  exact ⟨by rw[(Dd h2).1,e1],e2⟩
theorem gm:∀{cs ds:List Cell},mY cs ds->bz cs=bz ds->cs=ds
 | [],[],_,_=>rfl
 | [],d :: ds,_,h=>by
  rw[dh] at h
  obtain ⟨x,xs,e⟩:=j9 d (bz ds)
  rw[e] at h;cases h
 | c :: cs,[],_,h=>by
  rw[dh] at h
  obtain ⟨x,xs,e⟩:=j9 c (bz cs)
  rw[e] at h;cases h
 | c :: cs,d :: ds,⟨l,L⟩,h=>by
  rw[dh,dh] at h
  cases c with
  | i n =>
   cases d with
   | i m=>rw[(Dd h).1,gm L (Dd h).2]
   | s y=>cases l
   | t y=>cases l
  | s x =>
   cases d with
   | i m=>cases l
   | s y =>
    obtain ⟨e1,e2⟩:=kZ (ns:=i3 x) (ms:=i3 y) h
    rw[pZ e1,gm L e2]
   | t y=>cases l
  | t ns =>
   cases d with
   | i m=>cases l
   | s y=>cases l
   | t ms =>
    obtain ⟨e1,e2⟩:=kZ (ns:=ns) (ms:=ms) h
    rw[e1,gm L e2]
end L2
namespace Srt
open PySem PyProof.Rows
section
variable  {A:CK}{s:BR}
theorem uV (hu:A.units<cLine){v u:BP}:∀{c d:Cell},IsCell s.heap v c->IsCell s.heap u d->GH A s v u (decide (c=d))
 | .i n,.i m,⟨t,e1⟩,⟨t',e2⟩=>by
  rw[e1,e2,show decide (Cell.i n=Cell.i m)=(n == m) by rw[Dx];simp]
  exact FL n t m t'
 | .i n,.s y,⟨t,e1⟩,⟨t',e2⟩=>by
  rw[e1,e2,decide_eq_false nofun]
  exact G0 n t y t'
 | .i n,.t ms,⟨t,e1⟩,⟨b,e2,k⟩=>by
  rw[e1,e2,decide_eq_false nofun]
  obtain ⟨j,w,z⟩:=k.isTup
  exact SeqAt.EqAt.int_tuple n t w hu
 | .s x,.i m,⟨t,e1⟩,⟨t',e2⟩=>by
  rw[e1,e2,decide_eq_false nofun]
  exact Ha x t m t'
 | .s x,.s y,⟨t,e1⟩,⟨t',e2⟩=>by
  rw[e1,e2,show decide (Cell.s x=Cell.s y)=(x == y) by rw[Dx];simp]
  exact IW x t y t'
 | .s x,.t ms,⟨t,e1⟩,⟨b,e2,k⟩=>by
  rw[e1,e2,decide_eq_false nofun]
  obtain ⟨j,w,z⟩:=k.isTup
  exact SeqAt.EqAt.str_tuple x t w hu
 | .t ns,.i m,⟨b,e1,k⟩,⟨t',e2⟩=>by
  rw[e1,e2,decide_eq_false nofun]
  obtain ⟨j,w,z⟩:=k.isTup
  exact SeqAt.EqAt.tuple_int m t' w hu
 | .t ns,.s y,⟨b,e1,k⟩,⟨t',e2⟩=>by
  rw[e1,e2,decide_eq_false nofun]
  obtain ⟨j,w,z⟩:=k.isTup
  exact SeqAt.EqAt.tuple_str y t' w hu
 | .t ns,.t ms,⟨b,e1,k⟩,⟨b',e2,k'⟩=>by
  rw[e1,e2,show decide (Cell.t ns=Cell.t ms)=decide (ns=ms) by simp]
  exact mT hu k k'
theorem bZ.nth {h:Heap}:∀{vs:List BP} {cs:List Cell} (j:Nat) (h1:j<vs.length) (h2:j<cs.length),bZ h vs cs->IsCell h vs[j] cs[j]
 | v :: vs,c :: cs,0,_,_,⟨a,_⟩=>a
 | v :: vs,c :: cs,j+1,h1,h2,⟨_,b⟩=>b.nth j (by simpa using h1) (by simpa using h2)
theorem wL (cs ds:List Cell):((Dh (min cs.length ds.length)).all (λj=>decide (cs[j]? = ds[j]?)) && cs.length == ds.length)=decide (cs=ds):=by
 rw[Dx,CQ,EB,beq_iff_eq,decide_eq_true_iff]
 constructor
 ·rintro ⟨h,l⟩
  refine Hz λj =>?_
  by_cases hj:j<cs.length
  ·exact of_decide_eq_true (h j (El.mpr (by omega)))
  ·rw[Gg (by omega),Gg (by omega)]
 ·rintro rfl
  exact ⟨λj _=>decide_eq_true rfl,rfl⟩
def oA (h:Heap):BP->Cell
 | .int n _ =>.i n
 | .str x _ =>.s x
 | v =>.t (dA h v)
def bO (h:Heap)(v:BP):List Cell:=match v with
 | .ref p=>match h.get? p with
  | some o=>match o.data with
   | .seq xs _=>xs.toList.map (oA h)
   | _=>[]
  | none=>[]
 | _=>[]
theorem IsCell.val {h:Heap}{v:BP}:∀{c:Cell},IsCell h v c->oA h v=c
 | .i n,⟨t,e⟩=>by rw[e];rfl
 | .s x,⟨t,e⟩=>by rw[e];rfl
 | .t ns,⟨b,e,k⟩=>by rw[e];exact congrArg Cell.t k.ints
theorem bZ.vals {h:Heap}:∀{vs:List BP} {cs:List Cell},bZ h vs cs->vs.map (oA h)=cs
 | [],[],_=>rfl
 | v :: vs,c :: cs,⟨a,b⟩=>by rw[Ci,a.val,b.vals]
theorem cE.cells {h:Heap}{v:BP}{cs:List Cell}(x:cE h v cs):bO h v=cs:=by
 obtain ⟨p,o,xs,n,rfl,e,_,d,r⟩:=x
 unfold bO
 dsimp only
 rw[e]
 dsimp only
 rw[d]
 exact r.vals
theorem qb (hu:A.units+2<cLine){a b:Addr}{cs ds:List Cell}(x:cE s.heap (.ref a) cs)(y:cE s.heap (.ref b) ds):SeqAt.RcAt A s (.ref a) (.ref b) (decide (cs=ds)):=by
 obtain ⟨p,o,xs,n,e,g,c,d,r⟩:=x
 cases e
 obtain ⟨p',o',xs',n',e',g',c',d',r'⟩:=y
 cases e'
 have l1:=r.len
 have l2:=r'.len
 rw[B0] at l1 l2
 have R:=SeqAt.RcAt.tuples (A:=A) (e:=λj=>decide (cs[j]? = ds[j]?)) (show s.heap.IsTuple a xs from ⟨o,g,c,n,d⟩) (show s.heap.IsTuple b xs' from ⟨o',g',c',n',d'⟩) (by omega) (λj h1 h2=>by
  have k1:=r.nth j (by simpa using h1) (by omega)
  have k2:=r'.nth j (by simpa using h2) (by omega)
  rw[Cr (by omega),Cr (by omega),show decide (some cs[j]=some ds[j])=decide (cs[j]=ds[j]) by simp]
  exact uV (by show A.units+1<cLine;omega) k1 k2)
 rw[l1,l2,wL] at R
 exact R
theorem wM (hu:A.units+2<cLine){a b:Addr}{cs ds:List Cell}(x:cE s.heap (.ref a) cs)(y:cE s.heap (.ref b) ds):GH A s (.ref a) (.ref b) (decide (cs=ds)):=by
 by_cases z:a=b
 ·subst z
  have:cs=ds:=by rw[<- x.cells,y.cells]
  rw[decide_eq_true this]
  exact JI _
 ·exact SeqAt.EqAt.of_refs z (qb hu x y)
end
end Srt
namespace L2
open PySem PySem.Spec PyProof.Rows Srt
section
variable  {X:Cx}{pins:List (Addr×Obj)}{σ:St}{H:Hp}{s:BR}
theorem RowC.is (I:Inv X pins σ H s){a:Addr}{cs:List Cell}(h:RowC X.K H a cs):cE s.heap (.ref a) cs:=by
 obtain ⟨xs,h1,h2⟩:=h
 obtain ⟨jts,jr,⟨jo,je,jc,jn,jd⟩,_⟩:=I.tuple h1
 exact ⟨a,jo,_,jn,rfl,je,jc,jd,h2.is I (by simpa using jr)⟩
theorem rF {K:BM}(hu:X.A.units+8<cLine)(hK:X.K=K:=by rfl):OpR X (DZ .Eq) (λx y H Q=>∃(a b:Addr) (cs ds:List Cell),x = .ref a/\y = .ref b/\RowC K H a cs/\RowC K H b ds/\Q (.bl (decide (cs=ds))) H):=by
 subst hK
 intro pins s σ H x y v u Q I rx ry h
 obtain ⟨a,b,cs,ds,rfl,rfl,h1,h2,q⟩:=h
 cases (show v=Cc a from rx)
 cases (show u=Cc b from ry)
 exact qb (A:=X.A) (by omega) (h1.is I) (h2.is I) _ _ _ _ ⟨.bl _,H,I,rfl,q⟩
theorem iF (I:Inv X pins σ H s){ds:List Cell}:∀{ks:List (Addr×List Cell)},(∀k∈ks,RowC X.K H k.1 k.2)->(ks.map λk=>Cc k.1).any (λv=>decide (bO s.heap v=ds))=decide (ds∈ks.map (·.2))
 | [],_=>rfl
 | k :: ks,h=>by
  rw[Ci,ED,iF I λk hk=>h k (B9 _ hk),((h k B1).is I).cells,Ci]
  rw[Dx,Es,decide_eq_true_iff,decide_eq_true_iff,decide_eq_true_iff,Cw]
  exact or_congr_left eq_comm
theorem kf (I:Inv X pins σ H s)(hu:X.A.units+8<cLine){b:Addr}{ds:List Cell}{ks:List (Addr×List Cell)}(ht:∀k∈ks,RowC X.K H k.1 k.2)(hb:RowC X.K H b ds){y:BP}(hy:y∈ks.map λk=>Cc k.1):GH X.A.in1 s y (.ref b) (decide (bO s.heap y=ds)):=by
 obtain ⟨k,hm,rfl⟩:=Ce.mp hy
 rw[((ht k hm).is I).cells]
 exact wM (by show X.A.units+1+2<cLine;omega) ((ht k hm).is I) (hb.is I)
theorem Ax {K:BM}(hu:X.A.units+8<cLine)(hK:X.K=K:=by rfl):OpR X (DZ .In) (λx y H Q=>∃(p b:Addr) (ks:List (Addr×List Cell)) (ds:List Cell),x = .ref b/\y = .ref p/\(SqL K H p (ks.map λk =>.ref k.1)\/SqT K H p (ks.map λk =>.ref k.1))/\(∀k∈ks,RowC K H k.1 k.2)/\RowC K H b ds/\Q (.bl (decide (ds∈ks.map (·.2)))) H):=by
 subst hK
 intro pins s σ H x y v u Q I rx ry h
 obtain ⟨p,b,ks,ds,rfl,rfl,hp,ht,hb,q⟩:=h
 cases (show v=Cc b from rx)
 cases (show u=Cc p from ry)
 rcases hp with hp | hp
 ·obtain ⟨its,r,⟨o,n,e,c,_,d⟩,hz⟩:=I.list hp
  have ei:=cO (f:=λk:Addr×List Cell=>k.1) r
  refine JJ (items:=its.toArray) (λv=>decide (bO s.heap v=ds)) ⟨o,e,c,n,d⟩ (λy hy =>?_) ⟨.bl _,H,I,rfl,?_⟩
  ·rw[Gn,ei] at hy
   exact kf I hu ht hb hy
  ·rw[show its.toArray.any (λv=>decide (bO s.heap v=ds))=its.any (λv=>decide (bO s.heap v=ds)) by simp,ei,iF I ht]
   exact q
 ·obtain ⟨its,r,⟨o,e,c,n,d⟩,hz⟩:=I.tuple hp
  have ei:=cO (f:=λk:Addr×List Cell=>k.1) r
  refine Jy (items:=its.toArray) (λv=>decide (bO s.heap v=ds)) ⟨o,e,c,n,d⟩ (λy hy =>?_) ⟨.bl _,H,I,rfl,?_⟩
  ·rw[Gn,ei] at hy
   exact kf I hu ht hb hy
  ·rw[show its.toArray.any (λv=>decide (bO s.heap v=ds))=its.any (λv=>decide (bO s.heap v=ds)) by simp,ei,iF I ht]
   exact q
theorem m5 {K:BM}(hu:X.A.units+8<cLine)(hK:X.K=K:=by rfl):OpR X (DZ .NotIn) (λx y H Q=>∃(p b:Addr) (ks:List (Addr×List Cell)) (ds:List Cell),x = .ref b/\y = .ref p/\(SqL K H p (ks.map λk =>.ref k.1)\/SqT K H p (ks.map λk =>.ref k.1))/\(∀k∈ks,RowC K H k.1 k.2)/\RowC K H b ds/\Q (.bl (!decide (ds∈ks.map (·.2)))) H):=by
 subst hK
 intro pins s σ H x y v u Q I rx ry h
 obtain ⟨p,b,ks,ds,rfl,rfl,hp,ht,hb,q⟩:=h
 cases (show v=Cc b from rx)
 cases (show u=Cc p from ry)
 rcases hp with hp | hp
 ·obtain ⟨its,r,⟨o,n,e,c,_,d⟩,hz⟩:=I.list hp
  have ei:=cO (f:=λk:Addr×List Cell=>k.1) r
  refine IX (items:=its.toArray) (λv=>decide (bO s.heap v=ds)) ⟨o,e,c,n,d⟩ (λy hy =>?_) ⟨.bl _,H,I,rfl,?_⟩
  ·rw[Gn,ei] at hy
   exact kf I hu ht hb hy
  ·rw[show its.toArray.any (λv=>decide (bO s.heap v=ds))=its.any (λv=>decide (bO s.heap v=ds)) by simp,ei,iF I ht]
   exact q
 ·obtain ⟨its,r,⟨o,e,c,n,d⟩,hz⟩:=I.tuple hp
  have ei:=cO (f:=λk:Addr×List Cell=>k.1) r
  refine IH (items:=its.toArray) (λv=>decide (bO s.heap v=ds)) ⟨o,e,c,n,d⟩ (λy hy =>?_) ⟨.bl _,H,I,rfl,?_⟩
  ·rw[Gn,ei] at hy
   exact kf I hu ht hb hy
  ·rw[show its.toArray.any (λv=>decide (bO s.heap v=ds))=its.any (λv=>decide (bO s.heap v=ds)) by simp,ei,iF I ht]
   exact q
end
open PySem PySem.Spec PyProof.Rows
section
variable  {K:BM}{a:Addr}{k:Nat}{tc:TT}{te:TE}{τ:St}{H:Hp}{Q:VK}{α:Type}
theorem m6 (f g:α -> V)(p:α -> Bool)(xs:List α)(ht:∀x∈xs,∀R:Bool->Hp->Prop,R (p x) H->tc (τ.set k (some (f x))) H R)(he:∀x∈xs,p x=true->∀R:VK,R (g x) H->te (τ.set k (some (f x))) H R)
  (i:Nat) (x:V) (ys:List V) (H':Hp) (hx:(xs.map f)[i]? = some x) (z:H'=H/\ys=((xs.take i).filter p).map g):mE k tc te τ (λi ys H'=>H'=H/\ys=((xs.take i).filter p).map g) i x ys H':=by
 obtain ⟨rfl,rfl⟩:=z
 rw[CA] at hx
 cases e:xs[i]? with
 | none=>rw[e] at hx;cases hx
 | some y =>
  rw[e] at hx
  cases hx
  have hm:=Cy e
  have et:xs.take (i+1)=xs.take i++[y]:=by rw[DA,e];rfl
  intro R1 R0 h1 h0
  refine ht y hm _ ?_
  cases ep:p y with
  | true =>
   rw[if_pos rfl]
   refine he y hm ep _ (h1 _ _ ⟨rfl,?_⟩)
   rw[et,Di,B4]
   simp[ep]
  | false =>
   rw[if_neg B2]
   refine h0 _ ⟨rfl,?_⟩
   rw[et,Di]
   simp[ep]
theorem cY (f g:α -> V)(p:α -> Bool)(xs:List α)(hs:SqT K H a (xs.map f))(hz:xs.length<=Ca)(ht:∀x∈xs,∀R:Bool->Hp->Prop,R (p x) H->tc (τ.set k (some (f x))) H R)(he:∀x∈xs,p x=true->∀R:VK,R (g x) H->te (τ.set k (some (f x))) H R)
  (hd:∀l,H l=none->Q (.ref l) (upd H l (.lst ((xs.filter p).map g)))):fL (Itt K a) (eQ k) tc te τ Q H :=
 iW (xs:=xs.map f) (λi ys H'=>H'=H/\ys=((xs.take i).filter p).map g) ⟨rfl,rfl⟩ (by rw[BQ];exact hz) (λi ys H' _ z=>by rw[z.1];exact hs) (λi x ys H' e _ z=>m6 f g p xs ht he i x ys H' e z) λys H' _ z l hl=>by
  obtain ⟨rfl,rfl⟩:=z
  rw[CP (by rw[BQ];exact BV _)]
  exact hd l hl
theorem k8 (f g:α -> V)(p:α -> Bool)(xs:List α)(hs:SqL K H a (xs.map f))(hz:xs.length<=Ca)(ht:∀x∈xs,∀R:Bool->Hp->Prop,R (p x) H->tc (τ.set k (some (f x))) H R)(he:∀x∈xs,p x=true->∀R:VK,R (g x) H->te (τ.set k (some (f x))) H R)
  (hd:∀l,H l=none->Q (.ref l) (upd H l (.lst ((xs.filter p).map g)))):fL (Itl K a) (eQ k) tc te τ Q H :=
 kK (xs:=xs.map f) (λi ys H'=>H'=H/\ys=((xs.take i).filter p).map g) ⟨rfl,rfl⟩ (by rw[BQ];exact hz) (λi ys H' _ z=>by rw[z.1];exact hs) (λi x ys H' e _ z=>m6 f g p xs ht he i x ys H' e z) λys H' _ z l hl=>by
  obtain ⟨rfl,rfl⟩:=z
  rw[CP (by rw[BQ];exact BV _)]
  exact hd l hl
end
section
open Srt
variable  {K:BM}{H:Hp}
theorem cF.cons:∀{xs:List V} {c:Cell} {cs:List Cell},cF K H xs (c :: cs)->∃x ys,xs=x :: ys/\tH K H x c/\cF K H ys cs
 | [],_,_,h=>h.elim
 | x :: ys,_,_,h=>⟨x,ys,rfl,h.1,h.2⟩
theorem cF.nil:∀{xs:List V},cF K H xs []->xs=[]
 | [],_=>rfl
 | _ :: _,h=>h.elim
theorem yJ {p:Addr}{x y:Int}{w:List Int}(h:RowC K H p [.i x,.i y,.t w]):∃b,SqT K H p [.int x,.int y,.ref b]/\SqT K H b (w.map V.int):=by
 obtain ⟨xs,h1,h2⟩:=h
 obtain ⟨x1,ys,rfl,e1,h3⟩:=h2.cons
 obtain ⟨x2,zs,rfl,e2,h4⟩:=h3.cons
 obtain ⟨x3,us,rfl,⟨b,e3,k⟩,h5⟩:=h4.cons
 subst e3
 obtain rfl:=h5.nil
 cases (show x1=V.int x from e1)
 cases (show x2=V.int y from e2)
 exact ⟨b,h1,k⟩
theorem yK {p b:Addr}{x y:Int}{w:List Int}(h1:SqT K H p [.int x,.int y,.ref b])(h2:SqT K H b (w.map V.int)):RowC K H p [.i x,.i y,.t w]:=⟨_,h1,rfl,rfl,⟨b,rfl,h2⟩,trivial⟩
theorem wN {p:Addr}{z:Str}{x:Int}(h:RowC K H p [.s z,.i x]):SqT K H p [.str z,.int x]:=by
 obtain ⟨xs,h1,h2⟩:=h
 obtain ⟨x1,ys,rfl,e1,h3⟩:=h2.cons
 obtain ⟨x2,zs,rfl,e2,h4⟩:=h3.cons
 obtain rfl:=h4.nil
 cases (show x1=V.str z from e1)
 cases (show x2=V.int x from e2)
 exact h1
theorem tI {p:Addr}{z:Str}{x y:Int}(h:RowC K H p [.s z,.i x,.i y]):SqT K H p [.str z,.int x,.int y]:=by
 obtain ⟨xs,h1,h2⟩:=h
 obtain ⟨x1,ys,rfl,e1,h3⟩:=h2.cons
 obtain ⟨x2,zs,rfl,e2,h4⟩:=h3.cons
 obtain ⟨x3,us,rfl,e3,h5⟩:=h4.cons
 obtain rfl:=h5.nil
 cases (show x1=V.str z from e1)
 cases (show x2=V.int x from e2)
 cases (show x3=V.int y from e3)
 exact h1
end
open PySem PySem.Spec PyProof.Rows Srt
theorem tJ {H H':Hp}{a:Addr}{o:HO}(s:aB H H')(h:Rd H a o):Rd H' a o:=h.elim (λe =>.inl (s _ _ e)) λ⟨ob,e⟩ =>.inr ⟨ob,s _ _ e⟩
theorem ah {K:BM}{H H':Hp}{a:Addr}{xs:List V}(s:aB H H')(h:SqT K H a xs):SqT K H' a xs:=h.imp (tJ s) id
theorem cG {K:BM}{H H':Hp}{a:Addr}{xs:List V}(s:aB H H')(h:SqL K H a xs):SqL K H' a xs:=h.imp (tJ s) id
theorem dJ {K:BM}{H H':Hp}(k:∀b xs,SqT K H b xs->SqT K H' b xs):∀{xs:List V} {cs:List Cell},cF K H xs cs->cF K H' xs cs
 | [],[],_=>trivial
 | x :: xs,.i n :: cs,⟨a,b⟩=>⟨a,dJ k b⟩
 | x :: xs,.s n :: cs,⟨a,b⟩=>⟨a,dJ k b⟩
 | x :: xs,.t n :: cs,⟨⟨p,e,a⟩,b⟩=>⟨⟨p,e,k _ _ a⟩,dJ k b⟩
theorem aE {K:BM}{H H':Hp}{a:Addr}{cs:List Cell}(s:aB H H')(h:RowC K H a cs):RowC K H' a cs:=by
 obtain ⟨xs,h1,h2⟩:=h
 exact ⟨xs,ah s h1,dJ (λb xs=>ah s) h2⟩
theorem yL {K:BM}{H H':Hp}{P a:Addr}{ps:Array BP}{cs:List Cell}(hP:H P=some (.tbl ps))(s:SameBut P H H')(h:RowC K H a cs):RowC K H' a cs:=by
 obtain ⟨xs,h1,h2⟩:=h
 exact ⟨xs,oy hP s h1,dJ (λb xs=>oy hP s) h2⟩
section
variable  {K:BM}{a:Addr}{k:Nat}{tc:TT}{te:TE}{τ:St}{H:Hp}{Q:VK}{α:Type}
theorem rG (f g:α -> V)(p:α -> Bool)(xs:List α)(ht:∀x∈xs,∀H1,aB H H1->∀R:Bool->Hp->Prop,(∀H2,aB H1 H2->R (p x) H2)->tc (τ.set k (some (f x))) H1 R)(he:∀x∈xs,p x=true->∀H1,aB H H1->∀R:VK,R (g x) H1->te (τ.set k (some (f x))) H1 R)
  (i:Nat) (x:V) (ys:List V) (H':Hp) (hx:(xs.map f)[i]? = some x) (z:aB H H'/\ys=((xs.take i).filter p).map g):mE k tc te τ (λi ys H'=>aB H H'/\ys=((xs.take i).filter p).map g) i x ys H':=by
 obtain ⟨s,rfl⟩:=z
 rw[CA] at hx
 cases e:xs[i]? with
 | none=>rw[e] at hx;cases hx
 | some y =>
  rw[e] at hx
  cases hx
  have hm:=Cy e
  have et:xs.take (i+1)=xs.take i++[y]:=by rw[DA,e];rfl
  intro R1 R0 h1 h0
  refine ht y hm H' s _ λH2 s2 =>?_
  cases ep:p y with
  | true =>
   rw[if_pos rfl]
   refine he y hm ep H2 (s.trans s2) _ (h1 _ _ ⟨s.trans s2,?_⟩)
   rw[et,Di,B4]
   simp[ep]
  | false =>
   rw[if_neg B2]
   refine h0 _ ⟨s.trans s2,?_⟩
   rw[et,Di]
   simp[ep]
theorem dj (f g:α -> V)(p:α -> Bool)(xs:List α)(hs:SqT K H a (xs.map f))(hz:xs.length<=Ca)(ht:∀x∈xs,∀H1,aB H H1->∀R:Bool->Hp->Prop,(∀H2,aB H1 H2->R (p x) H2)->tc (τ.set k (some (f x))) H1 R)(he:∀x∈xs,p x=true->∀H1,aB H H1->∀R:VK,R (g x) H1->te (τ.set k (some (f x))) H1 R)
  (hd:∀H' l,aB H H'->H' l=none->Q (.ref l) (upd H' l (.lst ((xs.filter p).map g)))):fL (Itt K a) (eQ k) tc te τ Q H :=
 iW (xs:=xs.map f) (λi ys H'=>aB H H'/\ys=((xs.take i).filter p).map g) ⟨aB.refl _,rfl⟩ (by rw[BQ];exact hz) (λi ys H' _ z=>ah z.1 hs) (λi x ys H' e _ z=>rG f g p xs ht he i x ys H' e z) λys H' _ z l hl=>by
  obtain ⟨s,rfl⟩:=z
  rw[CP (by rw[BQ];exact BV _)]
  exact hd H' l s hl
end
section
variable  {K:BM}{a:Addr}{k:Nat}{tc:TT}{te:TE}{τ:St}{H:Hp}{Q:VK}{α β:Type}
theorem m8 (rel:Hp->Addr -> β -> Prop)(st:∀H1 H2 p b,aB H1 H2->rel H1 p b->rel H2 p b)(f:α -> V)(g:α -> β)(p:α -> Bool)(xs:List α)(ht:∀x∈xs,∀H1,aB H H1->∀R:Bool->Hp->Prop,(∀H2,aB H1 H2->R (p x) H2)->tc (τ.set k (some (f x))) H1 R)
  (he:∀x∈xs,p x=true->∀H1,aB H H1->∀R:VK,(∀q H2,aB H1 H2->rel H2 q (g x)->R (.ref q) H2)->te (τ.set k (some (f x))) H1 R)
  (i:Nat) (x:V) (ys:List V) (H':Hp) (hx:(xs.map f)[i]? = some x) (z:aB H H'/\∃ks:List (Addr×β),ys=ks.map (λk=>V.ref k.1)/\(∀k∈ks,rel H' k.1 k.2)/\ks.map (·.2)=((xs.take i).filter p).map g) :
  mE k tc te τ (λi ys H'=>aB H H'/\∃ks:List (Addr×β),ys=ks.map (λk=>V.ref k.1)/\(∀k∈ks,rel H' k.1 k.2)/\ks.map (·.2)=((xs.take i).filter p).map g) i x ys H':=by
 obtain ⟨s,ks,rfl,hr,em⟩:=z
 rw[CA] at hx
 cases e:xs[i]? with
 | none=>rw[e] at hx;cases hx
 | some y =>
  rw[e] at hx
  cases hx
  have hm:=Cy e
  have et:xs.take (i+1)=xs.take i++[y]:=by rw[DA,e];rfl
  intro R1 R0 h1 h0
  refine ht y hm H' s _ λH2 s2 =>?_
  cases ep:p y with
  | true =>
   rw[if_pos rfl]
   refine he y hm ep H2 (s.trans s2) _ λq H3 s3 rq=>h1 _ _ ⟨(s.trans s2).trans s3,ks++[(q,g y)],by rw[B4];rfl,λk hk =>?_,?_⟩
   ·rcases B5.mp hk with hk | hk
    ·exact st _ _ _ _ (s2.trans s3) (hr k hk)
    ·rw[Ck.mp hk];exact rq
   ·rw[et,Di,B4,B4,em]
    simp[ep]
  | false =>
   rw[if_neg B2]
   refine h0 _ ⟨s.trans s2,ks,rfl,λk hk=>st _ _ _ _ s2 (hr k hk),?_⟩
   rw[et,Di,em]
   simp[ep]
theorem k9 (rel:Hp->Addr -> β -> Prop)(st:∀H1 H2 p b,aB H1 H2->rel H1 p b->rel H2 p b)(f:α -> V)(g:α -> β)(p:α -> Bool)(xs:List α)(hs:SqT K H a (xs.map f))(hz:xs.length<=Ca)(ht:∀x∈xs,∀H1,aB H H1->∀R:Bool->Hp->Prop,(∀H2,aB H1 H2->R (p x) H2)->tc (τ.set k (some (f x))) H1 R)
  (he:∀x∈xs,p x=true->∀H1,aB H H1->∀R:VK,(∀q H2,aB H1 H2->rel H2 q (g x)->R (.ref q) H2)->te (τ.set k (some (f x))) H1 R)
  (hd:∀H' (ks:List (Addr×β)) l,aB H H'->(∀k∈ks,rel H' k.1 k.2)->ks.map (·.2)=(xs.filter p).map g->H' l=none->Q (.ref l) (upd H' l (.lst (ks.map λk=>V.ref k.1)))):fL (Itt K a) (eQ k) tc te τ Q H :=
 iW (xs:=xs.map f) (λi ys H'=>aB H H'/\∃ks:List (Addr×β),ys=ks.map (λk=>V.ref k.1)/\(∀k∈ks,rel H' k.1 k.2)/\ks.map (·.2)=((xs.take i).filter p).map g) ⟨aB.refl _,[],rfl,λk hk=>(by cases hk),rfl⟩ (by rw[BQ];exact hz) (λi ys H' _ z=>ah z.1 hs) (λi x ys H' e _ z=>m8 rel st f g p xs ht he i x ys H' e z) λys H' _ z l hl=>by
  obtain ⟨s,ks,rfl,hr,em⟩:=z
  rw[CP (by rw[BQ];exact BV _)] at em
  exact hd H' ks l s hr em hl
theorem rJ (rel:Hp->Addr -> β -> Prop)(st:∀H1 H2 p b,aB H1 H2->rel H1 p b->rel H2 p b)(f:α -> V)(g:α -> β)(p:α -> Bool)(xs:List α)(hs:SqL K H a (xs.map f))(hz:xs.length<=Ca)(ht:∀x∈xs,∀H1,aB H H1->∀R:Bool->Hp->Prop,(∀H2,aB H1 H2->R (p x) H2)->tc (τ.set k (some (f x))) H1 R)
  (he:∀x∈xs,p x=true->∀H1,aB H H1->∀R:VK,(∀q H2,aB H1 H2->rel H2 q (g x)->R (.ref q) H2)->te (τ.set k (some (f x))) H1 R)
  (hd:∀H' (ks:List (Addr×β)) l,aB H H'->(∀k∈ks,rel H' k.1 k.2)->ks.map (·.2)=(xs.filter p).map g->H' l=none->Q (.ref l) (upd H' l (.lst (ks.map λk=>V.ref k.1)))):fL (Itl K a) (eQ k) tc te τ Q H :=
 kK (xs:=xs.map f) (λi ys H'=>aB H H'/\∃ks:List (Addr×β),ys=ks.map (λk=>V.ref k.1)/\(∀k∈ks,rel H' k.1 k.2)/\ks.map (·.2)=((xs.take i).filter p).map g) ⟨aB.refl _,[],rfl,λk hk=>(by cases hk),rfl⟩ (by rw[BQ];exact hz) (λi ys H' _ z=>cG z.1 hs) (λi x ys H' e _ z=>m8 rel st f g p xs ht he i x ys H' e z) λys H' _ z l hl=>by
  obtain ⟨s,ks,rfl,hr,em⟩:=z
  rw[CP (by rw[BQ];exact BV _)] at em
  exact hd H' ks l s hr em hl
end
end L2
namespace Kys
open PySem PyProof.Rows
section
variable  {prog:B7}{w:CJ}{A:CK}{E:BP->BR->Prop}{s:BR}
def PD (h:Heap)(d:Addr)(es:Array DictEntry)(ep:Nat):Prop:=∃o,h.get? d=some o/\o.ExactDict/\o.data = .dict es ep
def kObj (d:Addr)(i n ep:Nat):Obj:={ cls :=.type "dict_keyiterator",data :=.fields #[.ref d,.int i 0,.int n 0,.int ep 0] }
theorem PD.ty {d:Addr}{es:Array DictEntry}{ep:Nat}(x:PD s.heap d es ep):s.TypeIs (.ref d) "dict" := let ⟨o,e,c,_⟩:=x;⟨o,e,c.1⟩
theorem Ay {d:Addr}{es:Array DictEntry}{ep:Nat}{Q:BP->BR->Prop}(hs:(d == sysModules)=false)(hd:PD s.heap d es ep)
  (hQ:Q (.ref s.heap.objs.size) { s with heap:=s.heap.push (kObj d 0 es.size ep) }):Cb (Cn prog w) A (Builtin.«dict.__iter__» ⟨[.ref d],[]⟩) (λfin s'=>∃v,fin = .done (.ret v)/\Q v s') E s:=by
 obtain ⟨⟨oc,odd,odt,os'⟩,hod,⟨hc,_⟩,hdd⟩:=hd
 dsimp only at hdd hc
 subst hdd hc
 unfold Builtin.«dict.__iter__»
 wp_walk
 exact ⟨_,rfl,hQ⟩
theorem nextOne {it d:Addr}{es:Array DictEntry}{ep i:Nat}{e:DictEntry}{Q:BP->BR->Prop}(hi:s.heap.get? it=some (kObj d i es.size ep))(hd:PD s.heap d es ep)(he:es[i]? = some e)
  (hQ:∀h',h'.get? it=some (kObj d (i+1) es.size ep)->Heap.SameBut it s.heap h'->Q e.key { s with heap:=h' }):Cb (Cn prog w) A (Builtin.«dict_keyiterator.__next__» ⟨[.ref it],[]⟩) (λfin s'=>∃v,fin = .done (.ret v)/\Q v s') E s:=by
 obtain ⟨⟨oc,odd,odt,os'⟩,hod,⟨hc,_⟩,hdd⟩:=hd
 dsimp only at hdd hc
 subst hdd hc
 unfold kObj at hi
 unfold Builtin.«dict_keyiterator.__next__»
 wp_walk
 rw[show (if (i:Int)<0 then none else es[(i:Int).toNat]?)=some e by rw[if_neg (by omega),F4];exact he]
 wp_walk
 exact ⟨_,rfl,hQ _ ((C6 _ hi (by first | rfl | kernel_rfl)).trans (by unfold kObj;kernel_rfl)) (Fz ..)⟩
theorem yM {it d:Addr}{es:Array DictEntry}{ep i:Nat}{Q:Fin->BR->Prop}(hh:A.handled=none)(hi:s.heap.get? it=some (kObj d i es.size ep))(hd:PD s.heap d es ep)(hl:es.size<=i)
  (hE:∀(h':Heap) (x:Addr),(∀c o,c≠it->s.heap.get? c=some o->h'.get? c=some o)->(∃o,h'.get? x=some o/\o.cls = .type "StopIteration")->E (.ref x) { s with heap:=h' }):Cb (Cn prog w) A (Builtin.«dict_keyiterator.__next__» ⟨[.ref it],[]⟩) Q E s:=by
 obtain ⟨⟨oc,odd,odt,os'⟩,hod,⟨hc,_⟩,hdd⟩:=hd
 dsimp only at hdd hc
 subst hdd hc
 unfold kObj at hi
 unfold Builtin.«dict_keyiterator.__next__»
 wp_walk
 rw[show (if (i:Int)<0 then none else es[(i:Int).toNat]?)=none by rw[if_neg (by omega),F4];exact E4 hl]
 wp_walk
 refine IT hh (hE _ _ (λc o n e =>?_) ⟨_,BX _ rfl,rfl⟩)
 exact BO _ (BO _ ((CV _ _ (DE n)).trans e))
def KAt (h:Heap)(it d:Addr)(i n ep:Nat):Prop:=h.get? it=some (kObj d i n ep)
theorem KAt.ty {it d:Addr}{i n ep:Nat}(x:KAt s.heap it d i n ep):s.TypeIs (.ref it) "dict_keyiterator" :=⟨_,x,rfl⟩
theorem KAt.iter {it d:Addr}{i n ep:Nat}(x:KAt s.heap it d i n ep):s.heap.IsKeyIter it d i n ep:=⟨_,x,rfl,rfl⟩
theorem yN {d:Addr}{es:Array DictEntry}{ep:Nat}{Q:BP->BR->Prop}(hs:(d == sysModules)=false)(hd:PD s.heap d es ep)
  (hQ:Q (.ref s.heap.objs.size) { s with heap:=s.heap.push (kObj d 0 es.size ep) }):Cb (Cn prog w) A (pyIter (.ref d)) Q E s :=
 Jp hd.ty HY (C8 HY hd.ty PySem.F.entry_dict_iter (Ay hs hd ⟨"dict_keyiterator",_,⟨_,BX _ rfl,rfl⟩,Dr.lookup,hQ⟩) (PySem.F.args_dict_iter_1 _))
theorem yO {it d:Addr}{es:Array DictEntry}{ep i:Nat}{e:DictEntry}{Q:Option BP->BR->Prop}(hi:KAt s.heap it d i es.size ep)(hd:PD s.heap d es ep)(he:es[i]? = some e)
  (hQ:∀h',KAt h' it d (i+1) es.size ep->Heap.SameBut it s.heap h'->Q (some e.key) { s with heap:=h' }):Cb (Cn prog w) A (pyNext (.ref it)) Q E s:=by
 unfold pyNext
 exact BN (DL (C4 (name:=Str.ofString "__next__") hi.ty Dr (C8 Dr hi.ty FC (nextOne hi hd he λh' k b=>BS (hQ h' k b)) (Ft _))))
theorem Az {it d:Addr}{es:Array DictEntry}{ep i:Nat}{Q:Option BP->BR->Prop}(hh:A.handled=none)(hi:KAt s.heap it d i es.size ep)(hd:PD s.heap d es ep)(hl:es.size<=i)
  (hQ:∀h':Heap,(∀c o,c≠it->s.heap.get? c=some o->h'.get? c=some o)->Q none { s with heap:=h' }):Cb (Cn prog w) A (pyNext (.ref it)) Q E s:=by
 unfold pyNext
 refine BN (DL (C4 (name:=Str.ofString "__next__") hi.ty Dr (C8 Dr hi.ty FC (yM (by first | exact hh | (rw[<- hh];rfl)) hi hd hl λh' x k ⟨o,ex,ec⟩ =>?_) (Ft _))))
 exact BN (Fy (T := "StopIteration") (b:=true) ⟨o,ex,ec⟩ IG (BS (hQ h' k)))
end
end Kys
namespace L2
open PySem PySem.Spec PyProof.Rows
theorem kR.tF {H:Hp}{a b:Addr}{ob:Obj}{kvs:List (List Key×V)}{k:List Key}(e:H a=some (.frz ob (.dT kvs)))(eb:H b=some (.tup (k.map kV))):kR H a (.ref b) (cW kvs k) :=.inr ⟨kvs,k,b,.inr ⟨ob,e⟩,rfl,eb,rfl⟩
def Itk (d:Addr)(ob:Obj)(kvs:List (List Key×V)):It :=
 ⟨λi H=>H d=some (.frz ob (.dT kvs))/\i<kvs.length,λi H x H'=>H'=H/\∃b kv,kvs[i]? = some kv/\x = .ref b/\H b=some (.tup (kv.1.map kV)),λi H=>H d=some (.frz ob (.dT kvs))/\kvs.length<=i⟩
theorem kt_at {H:Hp}:∀{kvs:List (List Key×V)} {xs:List (List Key×Addr×BP)},KT H kvs xs->∀(i:Nat) kv,kvs[i]? = some kv->∃q,xs[i]? = some q/\H q.2.1=some (.tup (kv.1.map kV))
 | _,_,.nil,i,kv,e=>by cases e
 | _,_,.cons h t,0,kv,e=>by
  cases e
  exact ⟨_,rfl,h.2.1⟩
 | _,_,.cons h t,i+1,kv,e=>kt_at t i kv e
theorem rK {P:B7}{w:CJ}{K:BM}{tg:Expr}{kvs:List (List Key×V)}{es:Array DictEntry}{ep:Nat}{ob:Obj}(d it:Addr)(hc:ob.ExactDict)(hd:ob.data = .dict es ep)(hl:es.size=kvs.length) :
  Turn P w K tg (Itk d ob kvs) [it] it (λi h=>Kys.KAt h it d i es.size ep) where
 mem:=by simp
 obj:=λi h st b hb=>by
  obtain rfl:b=it:=by simpa using hb
  exact ⟨_,st,λv z=>by cases z⟩
 keep:=λi h h' st k=>k it (by simp) _ st
 item:=by
  intro X hP hw hK hcl i pins s σ H E I hf st hg
  subst hP hw hK
  obtain ⟨hdd,hi⟩:=hg
  have e1:s.heap.get? d=some ob:=(show bo X.prog X.w H s.heap d (.frz ob (.dT kvs)) from I.hok d _ hdd).1
  obtain ⟨_,_,xs,rel,o,es',ep',ho,_,hda,he,_,_⟩:=mO I.hok (.inr ⟨ob,hdd⟩)
  rw[e1] at ho
  cases ho
  rw[hd] at hda
  cases hda
  obtain ⟨f0,f1,f2,f3,f4,f5⟩:=hf it (by simp)
  obtain ⟨q,eq,hq⟩:=kt_at rel i _ (Cr hi)
  have ee:es[i]? = some (entryOfKey (tupleKind (cb X.prog X.w)) q):=by rw[entry_at he i,eq];rfl
  refine Kys.yO st ⟨ob,e1,hc,hd⟩ ee λh' st' sb=>⟨_,rfl,?_⟩
  have I1:Inv X pins σ H { s with heap:=h' }:=I.turned (t':=s.toks) (λb o hb e=>(sb.2 b hb).trans e) f0 f1 f3 f4 f5
  exact sg (s:={ s with heap:=h' }) st' rfl rfl (by decide) ⟨.ref q.2.1,H,I1,rfl,⟨rfl,q.2.1,_,Cr hi,rfl,hq⟩,st',λb hb=>(hf b hb).1⟩
 done:=by
  intro X hP hw hK hcl i pins s σ H E I hf st hg
  subst hP hw hK
  obtain ⟨hdd,hi⟩:=hg
  have e1:s.heap.get? d=some ob:=(show bo X.prog X.w H s.heap d (.frz ob (.dT kvs)) from I.hok d _ hdd).1
  obtain ⟨f0,f1,f2,f3,f4,f5⟩:=hf it (by simp)
  exact Kys.Az (I.ok.hd hcl) st ⟨ob,e1,hc,hd⟩ (by omega) λh' eb=>⟨rfl,I.turned (t':=s.toks) (λb o hb e=>eb b o hb e) f0 f1 f3 f4 f5⟩
 self:=λ_ _ _ _ _ st h=>wpAny_pyIter_keyiter (Kys.KAt.iter st) h
theorem Inv.yP {X:Cx}{pins:List (Addr×Obj)}{σ:St}{H:Hp}{s:BR}{d:Addr}{ob:Obj}{kvs:List (List Key×V)}(I:Inv X pins σ H s)(hd:H d=some (.dT kvs))(ho:s.heap.get? d=some ob):Inv X pins σ (upd H d (.frz ob (.dT kvs))) s:=by
 have go:∀b o,H b=some o->o ≠ .dT kvs->upd H d (.frz ob (.dT kvs)) b=some o:=λb o e n=>by rw[ax (oW e hd n)];exact e
 have st:∀b u,bo X.prog X.w H s.heap b u->bo X.prog X.w (upd H d (.frz ob (.dT kvs))) s.heap b u:=λb u x=>x.fV (λ_ _ _ q=>q) (λc q=>go c _ q nofun) λc xs q=>go c _ q nofun
 refine I.step (g':=s.gens) (d':=s.drawn) (t':=s.toks) (h':=s.heap) (ch:=[]) (λ_ z=>nomatch z) (λb o _ _ _ e _=>e) (λb o _ _ _ e _=>⟨o.slots,e⟩) (λb o _ _ n =>?_) (λb o _ e=>⟨o,e⟩) (λb xs e=>go b _ e nofun) (λb o u e=>go b _ e nofun) (λb ps e=>⟨#[],by rw[go b _ e nofun];simp⟩) (λ_ m=>m) (λb u e =>?_) I.bare
 ·rw[ax λz=>by rw[z,hd] at n;cases n];exact n
 by_cases hb:b=d
 ·subst hb
  rw[af] at e
  cases e
  exact ⟨ho,st _ _ (I.hok b _ hd)⟩
 ·rw[ax hb] at e
  exact st _ _ (I.hok b u e)
def BD (tl:TE):TI:=λσ H R=>tl σ H λx H1=>∃d kvs,x = .ref d/\H1 d=some (.dT kvs)/\∀ob,R (Itk d ob kvs) (upd H1 d (.frz ob (.dT kvs)))
theorem wO {X:Cx}{tg l:Expr}{tl:TE}(hl:PE X l tl):PI X tg l (BD tl):=by
 intro pins s σ H R I h
 refine thn (hl pins s σ H _ I h) λv s1 p1 =>?_
 obtain ⟨_,H1,I1,r1,d,kvs,rfl,hd,q⟩:=p1
 cases r1
 obtain ⟨_,hsys,xs,rel,ob,es,ep,ho,hc,hda,he,_⟩:=zj I1.hok hd
 have I2:=I1.yP hd ho
 refine Kys.yN hsys ⟨ob,ho,hc,hda⟩ ⟨s1.heap.objs.size,[s1.heap.objs.size],_,_,_,rfl,I2.kept (t':=s1.toks) λb o e=>BO _ e,rK d _ hc hda ?_,BX _ rfl,λb hb =>?_,q ob⟩
 ·rw[size_of_entries he,HG rel]
 obtain rfl:b=s1.heap.objs.size:=by simpa using hb
 exact I2.vq (BV _) (I2.hok.fresh (BV _))
open PySem PySem.Spec PyProof.Rows
theorem qc {d:Addr}{ob:Obj}{kvs:List (List Key×V)}{k:Nat}{tc:TT}{te:TE}{τ:St}{H:Hp}{Q:VK}(Pv:Nat->List V->Hp->Prop)(h0:Pv 0 [] H)(hz:kvs.length<=Ca)
  (hl:∀i ys H,i<=kvs.length->Pv i ys H->H d=some (.frz ob (.dT kvs))) (hs:∀i b kv ys H,kvs[i]? = some kv->H b=some (.tup (kv.1.map kV))->ys.length<=i->Pv i ys H->mE k tc te τ Pv i (.ref b) ys H)
  (hd:∀ys H,ys.length<=kvs.length->Pv kvs.length ys H->∀l,H l=none->Q (.ref l) (upd H l (.lst ys))) :
  fL (Itk d ob kvs) (eQ k) tc te τ Q H:=by
 refine ⟨λi m σ ys H=>m=kvs.length-i/\i<=kvs.length/\(∀x,σ.set k (some x)=τ.set k (some x))/\ys.length<=i/\Pv i ys H,⟨kvs.length,by simp,CC _,λ_=>rfl,BV _,h0⟩,?_⟩
 rintro i m σ ys H ⟨rfl,hi,hτ,hy,p⟩
 have q:=hl i ys H hi p
 by_cases hlt:i<kvs.length
 ·refine .inr ⟨⟨q,hlt⟩,λx H' y =>?_⟩
  obtain ⟨e,b,kv,hk,rfl,hb⟩:=y
  subst e
  show tc (σ.set k (some _)) _ _
  rw[hτ (.ref b)]
  have hσ:∀z,(τ.set k (some (.ref b))).set k (some z)=τ.set k (some z):=λz=>by rw[FG]
  refine hs i b kv ys _ hk hb hy p _ _ (λy4 H4 p4=>⟨by omega,kvs.length-(i+1),by omega,rfl,hlt,hσ,by rw[BU,Df];omega,p4⟩) λH3 p3=>⟨kvs.length-(i+1),by omega,rfl,hlt,hσ,by omega,p3⟩
 ·have e:i=kvs.length:=by omega
  subst e
  exact .inl ⟨⟨q,BV _⟩,by omega,hd ys H hy p⟩
theorem AA {κ:Type}[DecidableEq κ]{kvs:List (κ×V)}(k:κ)(v:V)(hn:(kvs.map (·.1)).Nodup):((putK kvs k v).map (·.1)).Nodup:=by
 cases e:cW kvs k with
 | none=>exact yi v hn e
 | some u =>
  unfold putK
  rw[df,e]
  have:(kvs.map λkv=>if kv.1=k then (kv.1,v) else kv).map (·.1)=kvs.map (·.1):=by
   rw[Cs]
   refine GO λkv _ =>?_
   show (if kv.1=k then (kv.1,v) else kv).1=kv.1
   split <;> rfl
  rw[if_pos (by rfl),this]
  exact hn
theorem yQ {κ:Type}[DecidableEq κ]{kvs:List (κ×V)}{k:κ}{v:V}{x:κ}(h:x∈(putK kvs k v).map (·.1)):x=k\/x∈kvs.map (·.1):=by
 unfold putK at h
 split at h
 ·have:(kvs.map λkv=>if kv.1=k then (kv.1,v) else kv).map (·.1)=kvs.map (·.1):=by
   rw[Cs]
   refine GO λkv _ =>?_
   show (if kv.1=k then (kv.1,v) else kv).1=kv.1
   split <;> rfl
  rw[this] at h
  exact .inr h
 ·rw[B4] at h
  rcases B5.mp h with h | h
  ·exact .inr h
  ·exact .inl (Ck.mp h)
open PySem PySem.Spec PyProof.Rows
section
variable  {X:Cx}
end
theorem AB {X:Cx}{k:Nat}(hr:bX k X.A):OpR X (DZ .NotEq) (λx y H Q=>∃(a b:Addr) (xs:List V),x = .ref a/\y = .ref b/\H a=some (.lst xs)/\H b=some (.lst [])/\(xs=[]->Q (.bl false) H)/\(xs≠[]->Q (.bl true) H)):=by
 intro pins s σ H x y v u Q I rx ry h
 obtain ⟨a,b,xs,rfl,rfl,h1,h2,q0,q1⟩:=h
 cases (show v=Cc a from rx)
 cases (show u=Cc b from ry)
 obtain ⟨i1,r1,p1,_⟩:=I.list (SqL.of (K:=X.K) h1)
 obtain ⟨i2,r2,p2,_⟩:=I.list (SqL.of (K:=X.K) h2)
 have l1:=r1.length
 have l2:=r2.length
 rw[Dj] at l2
 have hu:=hr.un
 have hu1:X.A.units<cLine:=by omega
 by_cases c:xs=[]
 ·subst c
  rw[Dj] at l1
  have R:=SeqAt.RcNeAt.lists (A:=X.A) (e:=λ_=>true) p1.isList p2.isList (by rw[BZ,BZ];omega) hu1 (λj g1 _=>by rw[BZ] at g1;omega)
  rw[BZ, <- l1] at R
  exact R _ _ _ _ ⟨.bl false,H,I,rfl,q0 rfl⟩
 ·have:=IK.mpr c
  exact SeqAt.RcNeAt.lists_lengths (A:=X.A) p1.isList p2.isList (by simp;omega) hu1 _ _ _ _ ⟨.bl true,H,I,rfl,q1 c⟩
open PySem PySem.Spec PyProof.Rows Builtin Builtin.Str
section
variable  {X:Cx}
def shown:V->Option Str
 | .str z=>some z
 | .int i=>if i.natAbs.log2<1920 then some (toString i) else none
 | _=>none
def AD (t:TE):TE:=λσ H Q=>t σ H λx H1=>∃z,shown x=some z/\z.length<=Ca/\Q (.str z) H1
theorem wQ {e:Expr}{t:TE}{pos:Pos}(h:PE X e t):PE X (.FormattedValue e (-1) none pos) (AD t):=by
 intro pins s σ H Q I q
 refine wpAny_FormattedValue_plain (thn (h pins s σ H _ I q) λv s1 p1 =>?_)
 obtain ⟨x,H1,I1,r1,z,ez,lz,q1⟩:=p1
 cases x with
 | str y =>
  cases (Cv ez:y=z)
  obtain ⟨tk,rfl⟩:=r1
  exact wpAny_formatField_str (hx:=lz) ⟨.str _,H1,I1,⟨_,rfl⟩,q1⟩ ⟨.str _,H1,I1.tok _,⟨_,rfl⟩,q1⟩
 | int i =>
  by_cases hl:i.natAbs.log2<1920
  ·have e:=(if_pos hl).symm.trans ez
   cases (Cv e)
   obtain ⟨tk,rfl⟩:=r1
   exact wpAny_formatField_int hl ⟨.str _,H1,I1.tok _,⟨_,rfl⟩,q1⟩
  ·cases (if_neg hl).symm.trans ez
 | non=>cases ez
 | bl b=>cases ez
 | byt b=>cases ez
 | flt b=>cases ez
 | ref a=>cases ez
 | ty n=>cases ez
def wR:List TE->Str->TE
 | [],acc,_,H,Q=>acc.length<=Ca/\Q (.str acc) H
 | t :: ts,acc,σ,H,Q=>t σ H λx H1=>∃y,x = .str y/\(acc++y).length<=Ca/\wR ts (acc++y) σ H1 Q
def PFs (X:Cx):List Expr->List TE->Prop
 | [],[]=>True
 | e :: es,t :: ts=>PE X e t/\PFs X es ts
 | _,_=>False
theorem yR:PFs X [] []:=trivial
theorem qd {e:Expr}{es:List Expr}{t:TE}{ts:List TE}(h:PE X e t)(hs:PFs X es ts):PFs X (e :: es) (t :: ts):=⟨h,hs⟩
theorem qe {pins:List (Addr×Obj)}{σ:St}{Q:VK}:∀{es:List Expr} {ts:List TE} {acc:Str} {H:Hp} {s:BR},PFs X es ts->Inv X pins σ H s->wR ts acc σ H Q->Joins (Cn X.prog X.w) X.A X.xe (evalEach es X.env) acc (λout s1=>out.length<=Ca/\EP X pins σ Q (.str out s1.toks) { s1 with toks:=s1.toks+1 }) s
 | [],[],acc,H,s,_,I,q=>⟨q.1,.str acc,H,I.tok _,⟨_,rfl⟩,q.2⟩
 | e :: es,t :: ts,acc,H,s,p,I,q=>thn (p.1 pins s σ H _ I q) λv s1 z=>by
  obtain ⟨x,H1,I1,r1,y,rfl,hl,q1⟩:=z
  obtain ⟨tk,rfl⟩:=r1
  exact ⟨y,tk,rfl,hl,qe p.2 I1 q1⟩
 | [],_ :: _,_,_,_,p,_,_=>p.elim
 | _ :: _,[],_,_,_,p,_,_=>p.elim
theorem yS {e1 e2:Expr}{es:List Expr}{ts:List TE}{pos:Pos}(h:PFs X (e1 :: e2 :: es) ts):PE X (.JoinedStr (e1 :: e2 :: es) pos) (wR ts Str.empty):=λpins s σ H Q I q=>wpAny_JoinedStr (qe h I q)
end
open PySem PySem.Spec PyProof.Rows
inductive TyQ (K:BM)(H:Hp):V->BP->Prop where
 | str (x:Str):TyQ K H (.str x) (.type "str")
 | int (i:Int):TyQ K H (.int i) (.type "int")
 | tup {a:Addr} {xs:List V} (e:SqT K H a xs):TyQ K H (.ref a) (.type "tuple")
 | lst {a:Addr} {xs:List V} (e:SqL K H a xs):TyQ K H (.ref a) (.type "list")
section
variable  {X:Cx}{pins:List (Addr×Obj)}{σ:St}{H:Hp}{s:BR}
theorem aD:cM X (.builtin "isinstance") (λxs H Q=>∃x T t b,xs=[x,.ty T]/\TyQ X.K H x t/\PySem.W.kitOne X.K t (.type T)=some b/\Q (.bl b) H):=by
 intro pins s σ H xs us Q I r h
 obtain ⟨x,T,t,b,rfl,ty,e,q⟩:=h
 obtain ⟨u,w',rfl,ru,rw'⟩:=vals2 r
 cases (show w'=Fn T from rw')
 cases ty with
 | str y=>exact mj I ru (.str y) e λtk=>⟨.bl b,H,I.tok tk,rfl,q⟩
 | int i=>exact mj I ru (.int i) e λtk=>⟨.bl b,H,I.tok tk,rfl,q⟩
 | @tup a xs ea =>
  cases (show u=Cc a from ru)
  obtain ⟨its,_,⟨o,h1,h2,_⟩,_⟩:=I.tuple ea
  exact Dq Hc I.kIn ⟨o,h1,h2⟩ e (λz=>nomatch z) λtk=>⟨.bl b,H,I.tok tk,rfl,q⟩
 | @lst a xs ea =>
  cases (show u=Cc a from ru)
  obtain ⟨its,_,⟨o,n,h1,h2,_⟩,_⟩:=I.list ea
  exact Dq F0 I.kIn ⟨o,h1,h2⟩ e (λz=>nomatch z) λtk=>⟨.bl b,H,I.tok tk,rfl,q⟩
theorem bI:cM X (.builtin "isinstance") (λxs H Q=>∃(x:V) (p:Addr) (Ts:List String) (t:BP) (b:Bool),xs=[x,.ref p]/\SqT X.K H p (Ts.map V.ty)/\TyQ X.K H x t/\PySem.W.kitAny X.K t (Ts.map Fn)=some b/\Q (.bl b) H):=by
 intro pins s σ H xs us Q I r h
 obtain ⟨x,p,Ts,t,b,rfl,hs,ty,e,q⟩:=h
 obtain ⟨u,w',rfl,ru,rw'⟩:=vals2 r
 cases (show w'=Cc p from rw')
 obtain ⟨its,rv,⟨⟨c,dd,da,sl⟩,eo,ec,n,ed⟩,_⟩:=I.tuple hs
 have ei:=o8 rv
 simp only at ec ed
 subst ec ed
 rw[<- ei] at e
 cases ty with
 | str y =>
  obtain ⟨t,q'⟩:=(show ∃t,u=Value.str y t from ru);cases q'
  exact GP Jw I.kIn True.intro eo e (λz=>nomatch z) λtk=>⟨.bl b,H,I.tok tk,rfl,q⟩
 | int i =>
  obtain ⟨t,q'⟩:=(show ∃t,u=EN i t from ru);cases q'
  exact GP Jv I.kIn True.intro eo e (λz=>nomatch z) λtk=>⟨.bl b,H,I.tok tk,rfl,q⟩
 | @tup a xs ea =>
  cases (show u=Cc a from ru)
  obtain ⟨its,_,⟨o,h1,h2,_⟩,_⟩:=I.tuple ea
  exact GP Hc I.kIn ⟨o,h1,h2⟩ eo e (λz=>nomatch z) λtk=>⟨.bl b,H,I.tok tk,rfl,q⟩
 | @lst a xs ea =>
  cases (show u=Cc a from ru)
  obtain ⟨its,_,⟨o,n,h1,h2,_⟩,_⟩:=I.list ea
  exact GP F0 I.kIn ⟨o,h1,h2⟩ eo e (λz=>nomatch z) λtk=>⟨.bl b,H,I.tok tk,rfl,q⟩
end
open PySem PySem.Spec PyProof.Rows
theorem gC {X:Cx}{K:BM}(hK:X.K=K:=by rfl):SlR X (λx lo hi H Q=>∃a xs,x = .ref a/\SqT K H a xs/\∀p2 H2,aB H H2->SqT K H2 p2 (gI xs lo hi)->Q (.ref p2) H2):=by
 subst hK
 intro pins s σ H x v vl vu lo hi sl Q I rx hs pl pu h
 obtain ⟨a,xs,rfl,ep,key⟩:=h
 refine yd pins s σ H _ v vl vu lo hi sl Q I rx hs pl pu ⟨a,xs,rfl,ep,λz=>key a H (aB.refl _) ?_,λ_ p2 hp2=>key p2 _ (ae hp2 _) (SqT.of af)⟩
 unfold gI
 rw[z.1,z.2,IC,Nat.sub_zero,JF]
 exact ep
theorem iG {α:Type}(f:α -> V){K:BM}{a:Addr}(us:List α){g:TG}{tb:TS}{D:Ends}{σ:St}{H:Hp}(Pv:List α -> St->Hp->Prop)(h0:Pv [] σ H)(hl:∀p σ H,Pv p σ H->SqT K H a (us.map f))
  (hs:∀p u r σ H,us=p++u :: r->Pv p σ H->g (f u) σ H λσ2 H2=>tb { D with nx:=Pv (p++[u]),ct:=Pv (p++[u]),bk:=D.nx } σ2 H2) (hd:∀σ H,Pv us σ H->D.nx σ H) :
  ∃W:Nat->Nat->St->Hp->Prop,(∃m,W 0 m σ H)/\∀i m σ H,W i m σ H →
   ((Itt K a).stop i H/\D.nx σ H)\/((Itt K a).go i H/\∃N:St->Hp->Prop,(∀σ' H',N σ' H'->∃m',m'<m/\W (i+1) m' σ' H')/\∀x H',(Itt K a).yld i H x H'->g x σ H' λσ2 H2=>tb { D with nx:=N,ct:=N,bk:=D.nx } σ2 H2):=by
 refine sh (xs:=us.map f) (λi σ H=>Pv (us.take i) σ H) (by rw[Fs];exact h0) (λi σ H _ p=>hl _ σ H p) (λi x σ H hx p =>?_) λσ H p=>hd σ H (by rw[BQ,JF] at p;exact p)
 rw[CA] at hx
 cases e:us[i]? with
 | none=>rw[e] at hx;cases hx
 | some u =>
  rw[e] at hx
  cases hx
  have et:us.take (i+1)=us.take i++[u]:=by rw[DA,e];rfl
  rw[et]
  refine hs _ u (us.drop (i+1)) σ H ?_ p
  obtain ⟨hi,eu⟩:=Cg.mp e
  rw[<- eu,List.getElem_cons_drop,D7]
open PySem PySem.Spec PyProof.Rows
structure qf (P:B7)(w:CJ)(K:BM)(mg:Str->Option BP)(base:Heap)(k:Nat)(f:Addr)(fd:CT)(ps:List Str)(sp:Sp):Prop where
 len:∀vs H Q E,sp vs H Q E->vs.length=ps.length
 run:∀(A:CK) (ea:Addr) (outer:List Env) (s:BR) (H:Hp) (args:Args) (us:List BP) (vs:List V) (Q:VK) (E:XK),bX k A->nO P w K mg base (A.mark (some (.ref ea))) outer s H->BindsTo s fd args (ps.zip us)->Vals vs us->sp vs H Q E →
  Hv (Cn P w) (A.mark (some (.ref ea))) (.call (.ref f) args) (CR CX0 outer P w H s Q E) s
theorem AE {P:B7}{w:CJ}{K:BM}{mg:Str->Option BP}{base:Heap}{k:Nat}{f:Addr}{name qual:Str}{params:Arguments}{body:List Stmt}{scope:Scope}{dV kV doc pm cdv ct oc:BP}{an od:Option Addr}
  {osl:Array (Option BP)} {N ps:List Str} {sp:Sp} (lk:K.lookup f=some ⟨oc,od,.func (PySem.W.fnOf name qual params body scope dV kV doc pm an cdv ct),osl⟩) (hcd:PySem.W.codeIn K cdv qual=true) (S:aV N ps scope)
  (len:∀vs H Q E,sp vs H Q E->vs.length=ps.length)
  (hbody:∀(A:CK) (ea:Addr) (outer:List Env) (s:BR) (H:Hp) (vs:List V) (Q:VK) (E:XK),bX k (A.deeper (envOfC qual scope s.heap.objs.size f cdv))->sp vs H Q E →
   ∃t,PSs ((gW CX0 P w K mg base N qual scope f cdv A outer s H E).mark ea) body t/\t { nx:=λ_ H'=>Q .non H',rt:=Q } (start N vs) H) :
  qf P w K mg base (k+1) f (PySem.W.fnOf name qual params body scope dV kV doc pm an cdv ct) ps sp:=by
 refine ⟨len,λA ea outer s H args us vs Q E hr e0 hb r hsp =>?_⟩
 have hl:=len _ _ _ _ hsp
 have KX:K.In s.heap:=e0.mod.kin.keeps λb o e=>(e0.bs b o e).1
 have lim:s.heap.NoLimit:=e0.mod.nolimit.keeps λb o e=>(e0.bs b o e).1
 have hkind:∀y∈ps.zip us,scope.names.lookup y.1=some .local\/(scope.names.lookup y.1=some .cell/\((cellsFrom (s.heap.objs.size+1) scope.names []).lookup y.1).isSome=true):=λ⟨n,v⟩ hy=>by
  rcases S.par n (FK hy).1 with q | q
  ·exact .inl q
  ·exact .inr ⟨q,FX _ _ _ (.inl q)⟩
 have e1:nO P w K mg base A outer s H:=⟨e0.frames,e0.mod,e0.bs,e0.bsz,e0.funs,e0.frf,e0.hok,e0.bare⟩
 refine Il (show (A.mark (some (.ref ea))).depth<recursionLimit from hr.depth) (KX _ _ lk) rfl S.co S.gen rfl (IU KX hcd) (hb _ _ _ _ ?_)
 refine GZ S.kind hkind λenv he s1 x =>?_
 subst he
 refine ⟨lim.keeps x.toInCall.keep,codeAny_func ?_⟩
 obtain ⟨t,ht,hq⟩:=hbody A ea outer s H vs Q E (hr.deeper _) hsp
 have I:Inv (gW CX0 P w K mg base N qual scope f cdv A outer s H E) [] (start N vs) H s1:=mB S hr.hd e1 hl r x
 refine C5 (ht [] s1 (start N vs) H _ (I.mark ea) hq) (λfl s' hs =>?_) λe s' hs=>hs.elim
 have fin:∀{σ':St} {H':Hp} {v:V} {u:BP},Inv ((gW CX0 P w K mg base N qual scope f cdv A outer s H E).mark ea) [] σ' H' s'->RelV v u->Q v H'->CE outer P w H s Q u s' :=
  λ{σ' H' v u} J rv q=>⟨v,H',J.os,J.bare,J.base,J.hok,rv,q⟩
 cases fl with
 | ret u =>
  obtain ⟨v,σ',H',J,rv,q⟩:=hs
  exact fin J rv q
 | next =>
  obtain ⟨σ',H',J,q⟩:=hs
  exact fin (v:=V.non) (u:=Ee) J rfl q
 | brk =>
  obtain ⟨_,_,_,q⟩:=hs
  exact False.elim q
 | cont =>
  obtain ⟨_,_,_,q⟩:=hs
  exact False.elim q
theorem Fun.okM {P:B7}{w:CJ}{K:BM}{mg:Str->Option BP}{base:Heap}{x qual:Str}{st:Stmt}{f:Addr}{fd:CT}{N ps:List Str}{k:Nat}{sp:Sp}(F:Fun K x qual st f fd)(S:aV N ps (aA st))(len:∀vs H Q E,sp vs H Q E->vs.length=ps.length)
  (hbody:∀(cdv:BP) (A:CK) (ea:Addr) (outer:List Env) (s:BR) (H:Hp) (vs:List V) (Q:VK) (E:XK),bX k (A.deeper (envOfC qual (aA st) s.heap.objs.size f cdv))->sp vs H Q E →
   ∃t,PSs ((gW CX0 P w K mg base N qual (aA st) f cdv A outer s H E).mark ea) (bH st) t/\t { nx:=λ_ H'=>Q .non H',rt:=Q } (start N vs) H):qf P w K mg base (k+1) f fd ps sp:=by
 obtain ⟨oc,od,kV,doc,pm,an,cdv,ct,osl,rfl,lk,hcd⟩:=F.ex
 exact AE lk hcd S len λA ea outer s H vs Q E hr hsp=>hbody cdv A ea outer s H vs Q E hr hsp
structure AF (P:B7)(w:CJ)(K:BM)(mg:Str->Option BP)(base:Heap)(k:Nat)(x:Str)(ps:List Str)(sp:Sp):Prop where
 ex:∃f fd,qf P w K mg base k f fd ps sp/\mg x=some (.ref f)/\PySem.W.keepIn K (.ref f)=true/\Binds K fd ps []
theorem yT {X:Cx}{ea:Addr}{j k:Nat}{x:Str}{ps:List Str}{sp:Sp}{e:Expr}{es:List Expr}{t:TA}{p pos:Pos}(C:AF X.prog X.w X.K X.mg X.base k x ps sp)(hr:bX j X.A)(hj:k<=j)(hg:Gl (X.mark ea) x)(ha:PA (X.mark ea) (e :: es) t)
  (hdb:(x == ("__debug__" : Str))=false:=by decide) (he:CO (e :: es) X.env=(false,eval e X.env) :: CO es X.env:=by rfl) (hpl:(Fi pos (CO es X.env)).any (·.1)=false:=by rfl) :
  PE (X.mark ea) (.Call (.Name x p) (e :: es) [] pos) (vA sp [] E0 t):=by
 obtain ⟨f,fd,F,m,kp,b⟩:=C.ex
 intro pins s σ H Q I h
 refine DG (fc I hg m ?_ hdb)
 refine FJ (h₀:=X.base) I.ok.mod.kin kp (thn (ha pos pins s σ H _ I h) λus s1 ⟨vs,H1,I1,r,q⟩=>⟨I1.kIn,?_⟩) he hpl
 have q:sp vs H1 Q E0:=by
  have:sp (vs++[]) H1 Q E0:=q
  rwa [CF] at this
 have hl:us.length=ps.length:=by rw[<- r.length];exact F.len _ _ _ _ q
 have bb:BindsTo s1 fd ⟨us,[]⟩ (ps.zip us):=by
  have:=b s1 us I1.kIn (by rw[CF];exact hl)
  rwa [CF] at this
 refine GG (Ff (F.run X.A ea X.stack s1 H1 ⟨us,[]⟩ us vs Q E0 (hr.mono hj) I1.xK bb r q) λr s' hq =>?_)
 cases r with
 | error e=>exact hq.elim
 | ok fl =>
  cases fl with
  | ret u=>exact I1.after hq
  | next=>exact False.elim hq
  | brk=>exact False.elim hq
  | cont=>exact False.elim hq
theorem cJ.calM {K:BM}{x:Str}{st:Stmt}(hf:cJ K x st)(P:B7)(w:CJ)(base:Heap){h:Heap}{mg:Str->Option BP}(X:K.In h)(G:h.Ns Ct mg){lv:Nat}{ps:List Str}{sp:Sp}(ok:∀{f:Addr} {fd:CT},Fun K x x st f fd->qf P w K mg base lv f fd ps sp)
  (hb:∀(kV doc pm:BP) (an:Option Addr) (cdv ct:BP) (us:List BP),us.length=ps.length->bindArgs (PySem.W.fnOf x x (bW st) (bH st) (aA st) .none kV doc pm an cdv ct) ⟨us,[]⟩=pure (ps.zip us)):AF P w K mg base lv x ps sp:=by
 obtain ⟨f,od,an,sl,oc,kV,dc,pm,cd,ct,a,l,c,k⟩:=hf
 have F:=gX l c k
 exact ⟨_,_,ok F,DV X G a,k,F.binds hb⟩
open PySem PySem.Spec PyProof.Rows
theorem cJ.BE {K:BM}{x:Str}{st:Stmt}(hf:cJ K x st)(P:B7)(w:CJ)(base:Heap){h:Heap}{mg:Str->Option BP}(X:K.In h)(G:h.Ns Ct mg){ps:List Str}{sp:Nat->Sp}(h0:∀vs H Q E,¬ sp 0 vs H Q E)
  (ok:∀n,Cal P w K mg base n x ps (sp n)->∀{f:Addr} {fd:CT},Fun K x x st f fd->bS P w K mg base CX0 (n+1) f fd ps (sp (n+1)))
  (hb:∀(kV doc pm:BP) (an:Option Addr) (cdv ct:BP) (us:List BP),us.length=ps.length->bindArgs (PySem.W.fnOf x x (bW st) (bH st) (aA st) .none kV doc pm an cdv ct) ⟨us,[]⟩=pure (ps.zip us)):∀n,Cal P w K mg base n x ps (sp n):=by
 obtain ⟨f,od,an,sl,oc,kV,dc,pm,cd,ct,a,l,c,k⟩:=hf
 have F:=gX l c k
 intro n
 induction n with
 | zero=>exact ⟨_,_,⟨λvs H Q E z=>absurd z (h0 _ _ _ _),λA outer s H args us vs Q E hr he hb hv hs=>absurd hs (h0 _ _ _ _)⟩,DV X G a,k,F.binds hb⟩
 | succ n ih=>exact ⟨_,_,ok n ih F,DV X G a,k,F.binds hb⟩
end L2
set_option maxHeartbeats 800000
namespace K19
open PySem L2
def top (i:Nat):Stmt:=PySem.Challenge.pw_ringfell_k19_steps_told.main.body.getD i (.Pass ⟨0,0,0,0⟩)
abbrev gn:Stmt:=top 7
abbrev wU:Stmt:=top 8
abbrev gp:Stmt:=top 9
abbrev fq:Stmt:=top 10
abbrev gZ:Stmt:=top 11
abbrev ft:Stmt:=top 12
abbrev i4:Stmt:=top 13
abbrev rL:Stmt:=top 14
abbrev lh:Stmt:=top 15
abbrev i5:Stmt:=top 16
abbrev fw:Stmt:=top 17
abbrev i6:Stmt:=top 18
abbrev i7:Stmt:=top 19
abbrev i8:Stmt:=top 20
abbrev rM:Stmt:=top 22
abbrev rN:Stmt:=top 23
abbrev wV:Stmt:=top 24
abbrev oB:Stmt:=top 25
abbrev oE:Stmt:=top 26
abbrev lj:Stmt:=top 27
abbrev i9:Stmt:=top 28
abbrev wW:Stmt:=top 29
abbrev uW:Stmt:=top 30
structure Blt (mg:Str->Option BP):Prop where
 b_all:mg "all" = none
 b_any:mg "any" = none
 b_bool:mg "bool" = none
 b_int:mg "int" = none
 b_isinstance:mg "isinstance" = none
 b_len:mg "len" = none
 b_list:mg "list" = none
 b_max:mg "max" = none
 b_min:mg "min" = none
 b_range:mg "range" = none
 b_reversed:mg "reversed" = none
 b_sorted:mg "sorted" = none
 b_str:mg "str" = none
 b_sum:mg "sum" = none
 b_tuple:mg "tuple" = none
 b_zip:mg "zip" = none
 b_ValueError:mg "ValueError" = none
theorem oF:C2 "all" = some (.builtin "all"):=by decide +kernel
theorem AG:C2 "any" = some (.builtin "any"):=by decide +kernel
theorem iH:C2 "bool" = some (.type "bool"):=by decide +kernel
theorem g6:C2 "int" = some (.type "int"):=by decide +kernel
theorem ao:C2 "isinstance" = some (.builtin "isinstance"):=by decide +kernel
theorem cU:C2 "len" = some (.builtin "len"):=by decide +kernel
theorem dD:C2 "list" = some (.type "list"):=by decide +kernel
theorem wX:C2 "max" = some (.builtin "max"):=by decide +kernel
theorem lq:C2 "min" = some (.builtin "min"):=by decide +kernel
theorem qg:C2 "range" = some (.type "range"):=by decide +kernel
theorem cj:C2 "sorted" = some (.builtin "sorted"):=by decide +kernel
theorem eI:C2 "str" = some (.type "str"):=by decide +kernel
theorem wY:C2 "sum" = some (.builtin "sum"):=by decide +kernel
theorem aO:C2 "tuple" = some (.type "tuple"):=by decide +kernel
theorem lY:C2 "ValueError" = some (.type "ValueError"):=by decide +kernel
theorem hu8 {A:CK}{k:Nat}(hr:bX k A):A.units+8<cLine:=CG (Er (by decide:8<=64) _) hr.units
abbrev tK:Sp:=λvs H Q _=>∃c m:Int,vs=[.int c,.int m]/\0<=m/\m<=1000/\∀n:Int,Q (.int n) H
@[irreducible] def oG:Sp:=tK
theorem hG {vs:List V}{H:Hp}{Q:VK}{E:XK}:oG vs H Q E↔tK vs H Q E:=by
 delta oG
 exact Eg
abbrev tL:Sp:=λvs H Q _=>∃(p:Addr) (m:Int),vs=[.ref p,.int m]/\Pt 1 H p/\0<m/\Wd m/\∀(d:Int) (H':Hp),0<=d->d<m->Bu 1 p H H'->Q (.int d) H'
@[irreducible] def jf:Sp:=tL
theorem aZ {vs:List V}{H:Hp}{Q:VK}{E:XK}:jf vs H Q E↔tL vs H Q E:=by
 delta jf
 exact Eg
section
variable  {P:B7}{w:CJ}{K:BM}{mg:Str->Option BP}{base:Heap}{f T:Addr}{fd:CT}
theorem tM:aV ["pot", "many", "digit"] ["pot", "many"] (aA rN):=⟨rfl,rfl,rfl,by decide +kernel,rfl,by decide +kernel,by decide +kernel⟩
theorem yU (F:Fun K "_law_take" "_law_take" rN f fd)(B:Blt mg):bS P w K mg base CX0 1 f fd ["pot", "many"] jf:=by
 refine F.ok tM (λvs H Q E h =>?_) (λcdv A outer s H vs Q E hr h =>?_)
 ·obtain ⟨_,_,rfl,_⟩:=aZ.mp h
  rfl
 obtain ⟨p,m,rfl,hp,h0,h1,q⟩:=aZ.mp h
 refine ⟨_,(@aj _ _ _ _ _ (@aU _ _ 2 _ _ _ _ tM.nd rfl (Or.inl rfl) (@bC _ _ _ _ _ _ _ _ iT (@aG _ _ _ _ _ _ _ bQ (pv 0) ai (λ_ _=>rfl)) (pv 1)) rfl (by first | exact .inl rfl | exact .inr rfl | assumption))
  (@aj _ _ _ _ _ (@qD _ _ _ _ _ _ (@bC _ _ _ _ _ _ _ _ v9 (@aG _ _ _ _ _ _ _ bQ (pv 0) ai (λ_ _=>rfl)) (pv 1)) (zG (pv 0) ai set_list) rfl rfl rfl)
  (@aq _ _ _ (@aL _ _ _ _ (pv 2))))),?_⟩
 have bt:=Bu.refl hp
 obtain ⟨xs,lx,ep⟩:=hp
 match xs,lx with
 | [x],_ =>
  refine ⟨_,rfl,p,_,0,_,rfl,rfl,SqL.of ep,rfl,_,rfl,_,_,rfl,rfl,h0,?_⟩
  refine ⟨_,rfl,p,_,0,_,rfl,rfl,SqL.of ep,rfl,_,rfl,_,_,rfl,rfl,⟨h0,h1⟩,_,rfl,p,_,0,0,rfl,rfl,ep,rfl,?_⟩
  refine ⟨_,rfl,?_⟩
  exact q _ _ (GQ _ (by omega)) (FP _ h0) (bt.put (ys:=[x/m]) rfl)
end
section
variable  {P:B7}{w:CJ}{K:BM}{mg:Str->Option BP}{base:Heap}{f T:Addr}{fd:CT}
theorem fz:aV ["cell", "many", "number", "one", "k", "two"] ["cell", "many"] (aA rM):=⟨rfl,rfl,rfl,by decide +kernel,rfl,by decide +kernel,by decide +kernel⟩
theorem yV (F:Fun K "_law_deal" "_law_deal" rM f fd)(B:Blt mg):bS P w K mg base CX0 1 f fd ["cell", "many"] oG:=by
 refine F.ok fz (λvs H Q E h =>?_) (λcdv A outer s H vs Q E hr h =>?_)
 ·obtain ⟨_,_,rfl,_⟩:=hG.mp h
  rfl
 obtain ⟨c,m,rfl,m0,m1,q⟩:=hG.mp h
 refine ⟨_,(@aj _ _ _ _ _ (@ba _ _ _ _ _ _ _ _ (aJ A7 (pv 0) (@bC _ _ _ _ _ _ _ _ qG ai ai) (aH _)) (@aq _ _ _ (@aL _ _ _ _ (@bC _ _ _ _ _ _ _ _ vw (pv 0) (@bC _ _ _ _ _ _ _ _ qG ai ai)))) aK)
  (@aj _ _ _ _ _ (@aU _ _ 2 _ _ _ _ fz.nd rfl (Or.inl rfl) ai rfl (by first | exact .inl rfl | exact .inr rfl | assumption))
  (@aj _ _ _ _ _ (@aU _ _ 3 _ _ _ _ fz.nd rfl (Or.inl rfl) (@bC _ _ _ _ _ _ _ _ eB (@bC _ _ _ _ _ _ _ _ iT (pv 0) ai) ai) rfl (by first | exact .inl rfl | exact .inr rfl | assumption))
  (@aj _ _ _ _ _ (@fe _ _ _ _ _ _ _ _ D8 rfl (iR rfl B.b_range (@aa _ _ _ _ _ (pv 1) ag rfl)) (aS (i:=4) fz.nd rfl (Or.inl rfl))
   (@aj _ _ _ _ _ (@aU _ _ 3 _ _ _ _ fz.nd rfl (Or.inl rfl) (@bC _ _ _ _ _ _ _ _ iT (@bC _ _ _ _ _ _ _ _ eB (@bC _ _ _ _ _ _ _ _ eB (@bC _ _ _ _ _ _ _ _ kC (pv 3) ai) (@bC _ _ _ _ _ _ _ _ kC (@bC _ _ _ _ _ _ _ _ kC ai (pv 4)) (pv 4))) ai) ai) rfl (by first | exact .inl rfl | exact .inr rfl | assumption))
   (@aj _ _ _ _ _ (@aU _ _ 5 _ _ _ _ fz.nd rfl (Or.inl rfl) (@bC _ _ _ _ _ _ _ _ iT (@bC _ _ _ _ _ _ _ _ kC (pv 3) (pv 3)) ai) rfl (by first | exact .inl rfl | exact .inr rfl | assumption))
   (@aq _ _ _ (@aU _ _ 2 _ _ _ _ fz.nd rfl (Or.inl rfl) (@bC _ _ _ _ _ _ _ _ eB (@bC _ _ _ _ _ _ _ _ kC (pv 2) ai) (@bC _ _ _ _ _ _ _ _ iT (@bC _ _ _ _ _ _ _ _ nM (pv 5) ai) ai)) rfl (by first | exact .inl rfl | exact .inr rfl | assumption))))) (λ_=>rfl))
  (@aq _ _ _ (@aL _ _ _ _ (pv 2))))))),?_⟩
 refine ⟨_,rfl,_,_,rfl,rfl,⟨by decide,by decide,by decide⟩,_,_,rfl,rfl,_,rfl,zR (λz =>?_) (λz =>?_)⟩
 ·exact ⟨_,rfl,_,_,rfl,rfl,⟨by decide,by decide,by decide⟩,_,_,rfl,rfl,q _⟩
 refine ⟨_,rfl,_,_,rfl,rfl,(by show (0:Int)<_;decide),_,_,rfl,rfl,?_⟩
 have b1:=GQ c (b:=2147483647) (by decide)
 have b2:=FP c (b:=2147483647) (by decide)
 generalize c%2147483647+16807=o at b1 b2
 refine ⟨_,rfl,m,rfl,by omega,by omega,iS (λk σ H'=>(∃(gr on:Int) (c4 c5:Option V),σ=[some (.int c),some (.int m),some (.int gr),some (.int on),c4,c5])/\H'=H) ⟨⟨_,_,_,_,rfl⟩,rfl⟩ ?_ ?_⟩
 ·rintro k σ H' hk ⟨⟨gr,on,c4,c5,rfl⟩,rfl⟩
  have hk':(k:Int)<m:=by omega
  refine ⟨_,rfl,_,_,rfl,rfl,.inr ⟨by decide,by decide⟩,_,rfl,_,_,rfl,rfl,.inl ⟨by decide,by decide⟩,_,rfl,_,_,rfl,rfl,.inl ⟨by omega,by omega⟩,_,_,rfl,rfl,_,_,rfl,rfl,_,_,rfl,rfl,(by show (0:Int)<_;decide),?_⟩
  have d1:=GQ (on*48271+7919*(0+(k:Int))*(0+(k:Int))+104729) (b:=2147483647) (by decide)
  have d2:=FP (on*48271+7919*(0+(k:Int))*(0+(k:Int))+104729) (b:=2147483647) (by decide)
  generalize (on*48271+7919*(0+(k:Int))*(0+(k:Int))+104729)%2147483647=o2 at d1 d2 ⊢
  refine ⟨_,rfl,_,rfl,_,_,rfl,rfl,.inl ⟨by omega,by omega⟩,_,_,rfl,rfl,(by show (0:Int)<_;decide),?_⟩
  exact ⟨_,rfl,_,_,rfl,rfl,.inr ⟨by decide,by decide⟩,_,rfl,_,_,rfl,rfl,⟨by decide,by decide⟩,_,_,rfl,rfl,(by show (0:Int)<_;decide),_,_,rfl,rfl,⟨_,_,_,_,rfl⟩,rfl⟩
 ·rintro σ H' ⟨⟨gr,on,c4,c5,rfl⟩,rfl⟩
  exact ⟨_,rfl,q _⟩
end
open PySem L2
open Srt
abbrev Tie:=Int×Int×List Int
abbrev tc (t:Tie):List Cell:=[.i t.1,.i t.2.1,.t t.2.2]
theorem fQ {K:BM}{H:Hp}{p:Addr}{t:Tie}(h:RowC K H p (tc t)):∃b,SqT K H p [.int t.1,.int t.2.1,.ref b]/\SqT K H b (t.2.2.map V.int):=yJ h
theorem jF {K:BM}{H:Hp}{p b:Addr}{x y:Int}{w:List Int}(h1:SqT K H p [.int x,.int y,.ref b])(h2:SqT K H b (w.map V.int)):RowC K H p (tc (x,y,w)):=yK h1 h2
def eV (K:BM)(H:Hp)(l:Addr)(ks:List (Addr×Tie)):Prop:=SqT K H l (ks.map λk=>V.ref k.1)/\∀k∈ks,RowC K H k.1 (tc k.2)
def isAt (x:Int)(t:Tie):Bool:=decide (t.1=x) || decide (t.2.1=x)
def other (t:Tie)(x:Int):Int:=if t.1=x then t.2.1 else t.1
def bT (t:Tie)(x:Int):List Int:=if t.1=x then t.2.2 else t.2.2.reverse
@[irreducible] def lA (K:BM):Sp:=λvs H Q _=>∃(p:Addr) (t:Tie) (x:Int),vs=[.ref p,.int x]/\RowC K H p (tc t)/\Q (.bl (isAt x t)) H
theorem fA {K:BM}{vs:List V}{H:Hp}{Q:VK}{E:XK}:lA K vs H Q E↔∃(p:Addr) (t:Tie) (x:Int),vs=[.ref p,.int x]/\RowC K H p (tc t)/\Q (.bl (isAt x t)) H:=by
 delta lA
 exact Eg
@[irreducible] def kg (K:BM):Sp:=λvs H Q _=>∃(p:Addr) (t:Tie) (x:Int),vs=[.ref p,.int x]/\RowC K H p (tc t)/\Q (.int (other t x)) H
theorem dk {K:BM}{vs:List V}{H:Hp}{Q:VK}{E:XK}:kg K vs H Q E↔∃(p:Addr) (t:Tie) (x:Int),vs=[.ref p,.int x]/\RowC K H p (tc t)/\Q (.int (other t x)) H:=by
 delta kg
 exact Eg
@[irreducible] def tN (K:BM):Sp:=λvs H Q _=>∃(p:Addr) (t:Tie) (x:Int),vs=[.ref p,.int x]/\RowC K H p (tc t)/\t.2.2.length<=1000/\∀(q:Addr) (H':Hp),aB H H'->SqT K H' q ((bT t x).map V.int)->Q (.ref q) H'
theorem gD {K:BM}{vs:List V}{H:Hp}{Q:VK}{E:XK}:tN K vs H Q E↔∃(p:Addr) (t:Tie) (x:Int),vs=[.ref p,.int x]/\RowC K H p (tc t)/\t.2.2.length<=1000/\∀(q:Addr) (H':Hp),aB H H'->SqT K H' q ((bT t x).map V.int)->Q (.ref q) H':=by
 delta tN
 exact Eg
@[irreducible] def gq (K:BM):Sp:=λvs H Q _=>∃(l:Addr) (ks:List (Addr×Tie)) (x:Int),vs=[.ref l,.int x]/\eV K H l ks/\ks.length<=1000/\∀(p:Addr) (H':Hp),aB H H'->H' p=some (.lst ((ks.filter λk=>isAt x k.2).map λk =>.ref k.1))->Q (.ref p) H'
theorem dE {K:BM}{vs:List V}{H:Hp}{Q:VK}{E:XK}:gq K vs H Q E↔∃(l:Addr) (ks:List (Addr×Tie)) (x:Int),vs=[.ref l,.int x]/\eV K H l ks/\ks.length<=1000/\∀(p:Addr) (H':Hp),aB H H'->H' p=some (.lst ((ks.filter λk=>isAt x k.2).map λk =>.ref k.1))->Q (.ref p) H':=by
 delta gq
 exact Eg
section
variable  {P:B7}{w:CJ}{K:BM}{mg:Str->Option BP}{base:Heap}{f T:Addr}{fd:CT}
theorem AH:aV ["tie", "place"] ["tie", "place"] (aA wU):=⟨rfl,rfl,rfl,by decide +kernel,rfl,by decide +kernel,by decide +kernel⟩
theorem AI (F:Fun K "is_at" "is_at" wU f fd)(B:Blt mg):bS P w K mg base CX0 1 f fd ["tie", "place"] (lA K):=by
 refine F.ok AH (λvs H Q E h =>?_) (λcdv A outer s H vs Q E hr h =>?_)
 ·obtain ⟨_,_,_,rfl,_⟩:=fA.mp h
  rfl
 obtain ⟨p,t,x,rfl,ht,q⟩:=fA.mp h
 refine ⟨_,(@aq _ _ _ (@aL _ _ _ _ (AW (bD bp (@aG _ _ _ _ _ _ _ aM (pv 0) ai (λ_ _=>rfl)) (pv 1) (aH _)) (cp (bD bp (@aG _ _ _ _ _ _ _ aM (pv 0) ai (λ_ _=>rfl)) (pv 1) (aH _)))))),?_⟩
 obtain ⟨b,h1,h2⟩:=fQ ht
 refine ⟨_,rfl,p,_,0,_,rfl,rfl,h1,rfl,_,rfl,rfl,_,rfl,?_⟩
 by_cases c:t.1=x
 ·rw[decide_eq_true (show V.int t.1=V.int x by rw[c])]
  refine bN ?_
  have e:isAt x t=true:=by unfold isAt;rw[decide_eq_true c];rfl
  rw[e] at q;exact q
 ·rw[decide_eq_false (show ¬ V.int t.1=V.int x from λz=>c (V.int.inj z))]
  refine bK ⟨_,rfl,p,_,1,_,rfl,rfl,h1,rfl,_,rfl,rfl,?_⟩
  have e:isAt x t=decide (V.int t.2.1=V.int x):=by unfold isAt;rw[decide_eq_false c,IZ];exact decide_eq_decide.mpr ⟨λz=>by rw[z],λz=>V.int.inj z⟩
  rw[e] at q;exact q
end
section
variable  {P:B7}{w:CJ}{K:BM}{mg:Str->Option BP}{base:Heap}{f T:Addr}{fd:CT}
theorem rO:aV ["tie", "place"] ["tie", "place"] (aA i5):=⟨rfl,rfl,rfl,by decide +kernel,rfl,by decide +kernel,by decide +kernel⟩
theorem rP (F:Fun K "other_end" "other_end" i5 f fd)(B:Blt mg):bS P w K mg base CX0 1 f fd ["tie", "place"] (kg K):=by
 refine F.ok rO (λvs H Q E h =>?_) (λcdv A outer s H vs Q E hr h =>?_)
 ·obtain ⟨_,_,_,rfl,_⟩:=dk.mp h
  rfl
 obtain ⟨p,t,x,rfl,ht,q⟩:=dk.mp h
 refine ⟨_,(@aj _ _ _ _ _ (@ba _ _ _ _ _ _ _ _ (aJ bp (@aG _ _ _ _ _ _ _ aM (pv 0) ai (λ_ _=>rfl)) (pv 1) (aH _)) (@aq _ _ _ (@aL _ _ _ _ (@aG _ _ _ _ _ _ _ aM (pv 0) ai (λ_ _=>rfl)))) aK)
  (@aq _ _ _ (@aL _ _ _ _ (@aG _ _ _ _ _ _ _ aM (pv 0) ai (λ_ _=>rfl))))),?_⟩
 obtain ⟨b,h1,h2⟩:=fQ ht
 refine ⟨_,rfl,p,_,0,_,rfl,rfl,h1,rfl,_,rfl,rfl,_,rfl,?_⟩
 unfold other at q
 by_cases c:t.1=x
 ·rw[decide_eq_true (show V.int t.1=V.int x by rw[c])]
  rw[if_pos c] at q
  exact bN ⟨_,rfl,p,_,1,_,rfl,rfl,h1,rfl,q⟩
 ·rw[decide_eq_false (show ¬ V.int t.1=V.int x from λz=>c (V.int.inj z))]
  rw[if_neg c] at q
  exact bK ⟨_,rfl,p,_,0,_,rfl,rfl,h1,rfl,q⟩
end
section
variable  {P:B7}{w:CJ}{K:BM}{mg:Str->Option BP}{base:Heap}{f T:Addr}{fd:CT}
theorem uZ:aV ["tie", "place"] ["tie", "place"] (aA lh):=⟨rfl,rfl,rfl,by decide +kernel,rfl,by decide +kernel,by decide +kernel⟩
theorem va (F:Fun K "way_from" "way_from" lh f fd)(B:Blt mg):bS P w K mg base CX0 1 f fd ["tie", "place"] (tN K):=by
 refine F.ok uZ (λvs H Q E h =>?_) (λcdv A outer s H vs Q E hr h =>?_)
 ·obtain ⟨_,_,_,rfl,_⟩:=gD.mp h
  rfl
 obtain ⟨p,t,x,rfl,ht,lz,q⟩:=gD.mp h
 refine ⟨_,(@aj _ _ _ _ _ (@ba _ _ _ _ _ _ _ _ (aJ bp (@aG _ _ _ _ _ _ _ aM (pv 0) ai (λ_ _=>rfl)) (pv 1) (aH _)) (@aq _ _ _ (@aL _ _ _ _ (@aG _ _ _ _ _ _ _ aM (pv 0) ai (λ_ _=>rfl)))) aK)
  (@aq _ _ _ (@aL _ _ _ _ (mS hr.hd rfl B.b_tuple rfl B.b_reversed (@aG _ _ _ _ _ _ _ aM (pv 0) ai (λ_ _=>rfl)))))),?_⟩
 obtain ⟨b,h1,h2⟩:=fQ ht
 refine ⟨_,rfl,p,_,0,_,rfl,rfl,h1,rfl,_,rfl,rfl,_,rfl,?_⟩
 unfold bT at q
 by_cases c:t.1=x
 ·rw[decide_eq_true (show V.int t.1=V.int x by rw[c])]
  simp only[if_pos c] at q
  exact bN ⟨_,rfl,p,_,2,_,rfl,rfl,h1,rfl,q b H (aB.refl _) h2⟩
 ·rw[decide_eq_false (show ¬ V.int t.1=V.int x from λz=>c (V.int.inj z))]
  simp only[if_neg c] at q
  exact bK ⟨_,rfl,p,_,2,_,rfl,rfl,h1,rfl,b,_,rfl,h2,by rw[BQ];exact lz,λl hl=>q l _ (ae hl _) (by rw[Ef];exact SqT.of af)⟩
end
section
variable  {P:B7}{w:CJ}{K:BM}{mg:Str->Option BP}{base:Heap}{f T:Addr}{fd:CT}
theorem oH:aV ["ties", "place"] ["ties", "place"] (aA gp):=⟨rfl,rfl,rfl,by decide +kernel,rfl,by decide +kernel,by decide +kernel⟩
theorem fC:(["tie", "place"]:List Str).Nodup:=by decide +kernel
theorem oI (F:Fun K "beside_ties" "beside_ties" gp f fd)(B:Blt mg)(cIsAt:Cal P w K mg base 1 "is_at" ["tie", "place"] (lA K)):bS P w K mg base CX0 2 f fd ["ties", "place"] (gq K):=by
 refine F.ok oH (λvs H Q E h =>?_) (λcdv A outer s H vs Q E hr h =>?_)
 ·obtain ⟨_,_,_,rfl,_⟩:=dE.mp h
  rfl
 obtain ⟨l,ks,x,rfl,hl,lz,q⟩:=dE.mp h
 refine ⟨_,(@aq _ _ _ (@aL _ _ _ _ (cy ["tie", "place"] [none,some 1] rfl (@cq _ _ _ _ (pv 0)) rfl (λ_ _ _ _ _=>(aS (i:=0) fC rfl (Or.inl rfl))) (λ_ _ _ _ _=>(dt (bV (aN cIsAt hr (by decide) rfl (@aa _ _ _ _ _ (pv 0) (@aa _ _ _ _ _ (pv 1) ag rfl) rfl))))) (λ_ _ _ _ _=>(pv 0))))),?_⟩
 refine ⟨_,rfl,l,rfl,⟨_,hl.1⟩,cY (λk:Addr×Tie=>V.ref k.1) (λk=>V.ref k.1) (λk=>isAt x k.2) ks hl.1 (Cq lz (by decide)) (λk hk R r=>⟨_,rfl,_,rfl,fA.mpr ⟨k.1,k.2,x,rfl,hl.2 k hk,_,rfl,r⟩⟩) (λk hk _ R r=>⟨_,rfl,r⟩) λp hp=>q p _ (ae hp _) af⟩
end
open PySem L2
open Srt
def PJ:Addr:=149
def psJ:Array BP:=yI 62 48 "joined_tie.<locals>.<lambda>"
theorem nmJ {pos:Pos}{q:Str}(hl:pos.line=62)(hc:pos.col=48)(hq:q = "joined_tie.<locals>.<lambda>"):Nm psJ pos q:=by
 subst hq
 exact Aw hl hc
theorem eV.same {K:BM}{H H':Hp}{l:Addr}{ks:List (Addr×Tie)}(s:aB H H')(h:eV K H l ks):eV K H' l ks:=⟨ah s h.1,λk hk=>aE s (h.2 k hk)⟩
def jn (u v:Tie)(x:Int):Tie:=(other u x,other v x,if other u x=other v x then (if HT.lexLt ((bT u (other u x))++[x]++bT v x).reverse ((bT u (other u x))++[x]++bT v x)=true then ((bT u (other u x))++[x]++bT v x).reverse else (bT u (other u x))++[x]++bT v x) else (bT u (other u x))++[x]++bT v x)
theorem tO {K:BM}{H:Hp}{Q:VK}{a b:Addr}{xs ys:List V}(ha:SqT K H a xs)(hb:SqT K H b ys)(hy:ys≠[])(hz:xs.length+ys.length<=Ca)(q:∀p H',aB H H'->SqT K H' p (xs++ys)->Q (.ref p) H'):zk K (.ref a) (.ref b) H Q :=
 ⟨a,b,xs,ys,rfl,rfl,ha,hb,hy,hz,λe=>by subst e;exact q b H (aB.refl _) hb,λ_ p hp=>q p _ (ae hp _) (SqT.of af)⟩
theorem zu {K:BM}{H:Hp}{Q:VK}{a b:Addr}{xs ys:List V}(ha:SqT K H a xs)(hb:SqT K H b ys)(hz:xs.length+ys.length<=Ca)(q:∀p H',aB H H'->SqT K H' p (xs++ys)->Q (.ref p) H'):zo K (.ref a) (.ref b) H Q :=
 ⟨a,b,xs,ys,rfl,rfl,ha,hb,hz,λe=>by subst e;exact q b H (aB.refl _) hb,λe=>by subst e;exact q a H (aB.refl _) (by rw[CF];exact ha),λ_ _ p hp=>q p _ (ae hp _) (SqT.of af)⟩
theorem cw (t:Tie)(x:Int):(bT t x).length=t.2.2.length:=by
 unfold bT
 by_cases c:t.1=x
 ·rw[if_pos c]
 ·rw[if_neg c,C7]
theorem small {n:Nat}(h:n<=1000):n<=Ca:=Cq h (by decide)
theorem gu:1<=Ca:=small (by decide)
theorem bL:3<=Ca:=small (by decide)
@[irreducible] def oJ (K:BM):Sp:=λvs H Q _=>∃(l:Addr) (ks:List (Addr×Tie)) (x:Int) (u v:Addr×Tie),vs=[.ref l,.int x]/\eV K H l ks/\ks.length<=1000/\H PJ=some (.tbl psJ)/\(ks.filter λk=>isAt x k.2)=[u,v]/\u.2.2.2.length<=400/\v.2.2.2.length<=400/\∀(p:Addr) (H':Hp) (y z:Tie),aB H H'->[y,z].Perm [u.2,v.2]->other y x<=other z x->RowC K H' p (tc (jn y z x))->Q (.ref p) H'
theorem hJ {K:BM}{vs:List V}{H:Hp}{Q:VK}{E:XK}:oJ K vs H Q E↔∃(l:Addr) (ks:List (Addr×Tie)) (x:Int) (u v:Addr×Tie),vs=[.ref l,.int x]/\eV K H l ks/\ks.length<=1000/\H PJ=some (.tbl psJ)/\(ks.filter λk=>isAt x k.2)=[u,v]/\u.2.2.2.length<=400/\v.2.2.2.length<=400/\∀(p:Addr) (H':Hp) (y z:Tie),aB H H'->[y,z].Perm [u.2,v.2]->other y x<=other z x->RowC K H' p (tc (jn y z x))->Q (.ref p) H':=by
 delta oJ
 exact Eg
section
variable  {P:B7}{w:CJ}{K:BM}{mg:Str->Option BP}{base:Heap}{f T:Addr}{fd:CT}
theorem cP:aV ["ties", "place", "pair", "one", "other", "way"] ["ties", "place"] (aA fw):=⟨rfl,rfl,rfl,by decide +kernel,rfl,by decide +kernel,by decide +kernel⟩
theorem qh {c:Addr}(F:yH K "joined_tie" "joined_tie" fw f fd c PJ)(B:Blt mg)(cOtherEnd:Cal P w K mg base 1 "other_end" ["tie", "place"] (kg K))(cBesideTies:Cal P w K mg base 2 "beside_ties" ["ties", "place"] (gq K))(cWayFrom:Cal P w K mg base 1 "way_from" ["tie", "place"] (tN K)):bS P w K mg base CX0 5 f fd ["ties", "place"] (oJ K):=by
 refine F.ok cP (λvs H Q E h =>?_) (λA outer s H vs Q E hr h =>?_)
 ·obtain ⟨_,_,_,_,_,rfl,_⟩:=hJ.mp h
  rfl
 obtain ⟨l,ks,x,u,v,rfl,hl,lz,hP,hf,lu,lv,q⟩:=hJ.mp h
 refine ⟨_,(@aj _ _ _ _ _ (@aU _ _ 2 _ _ _ _ cP.nd rfl (Or.inl rfl) (oz (α:=Tie) (N':=["tie", "place"]) (ix:=[none,some 1]) (k:=1) rfl B.b_sorted cj (aN cBesideTies hr (by decide) rfl (@aa _ _ _ _ _ (pv 0) (@aa _ _ _ _ _ (pv 1) ag rfl) rfl)) rfl F.hd (nmJ rfl rfl (by first | rfl | kernel_rfl)) (by decide) tE hr (fg.of rfl) rfl rfl rfl rfl rfl rfl (λ_ _ _ _ _ _=>rfl) (λ_ _ _ _ _ hr=>(aN cOtherEnd hr (by decide) rfl (@aa _ _ _ _ _ (pv 0) (@aa _ _ _ _ _ (pv 1) ag rfl) rfl)))) rfl (by first | exact .inl rfl | exact .inr rfl | assumption))
  (@aj _ _ _ _ _ (@aU _ _ 3 _ _ _ _ cP.nd rfl (Or.inl rfl) (aN cOtherEnd hr (by decide) rfl (@aa _ _ _ _ _ (@aG _ _ _ _ _ _ _ bQ (pv 2) ai (λ_ _=>rfl)) (@aa _ _ _ _ _ (pv 1) ag rfl) rfl)) rfl (by first | exact .inl rfl | exact .inr rfl | assumption))
  (@aj _ _ _ _ _ (@aU _ _ 4 _ _ _ _ cP.nd rfl (Or.inl rfl) (aN cOtherEnd hr (by decide) rfl (@aa _ _ _ _ _ (@aG _ _ _ _ _ _ _ bQ (pv 2) ai (λ_ _=>rfl)) (@aa _ _ _ _ _ (pv 1) ag rfl) rfl)) rfl (by first | exact .inl rfl | exact .inr rfl | assumption))
  (@aj _ _ _ _ _ (@aU _ _ 5 _ _ _ _ cP.nd rfl (Or.inl rfl) (@bC _ _ _ _ _ _ _ _ pH (@bC _ _ _ _ _ _ _ _ iz (aN cWayFrom hr (by decide) rfl (@aa _ _ _ _ _ (@aG _ _ _ _ _ _ _ bQ (pv 2) ai (λ_ _=>rfl)) (@aa _ _ _ _ _ (pv 3) ag rfl) rfl)) (@aP _ _ _ _ _ (@aa _ _ _ _ _ (pv 1) ag rfl))) (aN cWayFrom hr (by decide) rfl (@aa _ _ _ _ _ (@aG _ _ _ _ _ _ _ bQ (pv 2) ai (λ_ _=>rfl)) (@aa _ _ _ _ _ (pv 1) ag rfl) rfl))) rfl (by first | exact .inl rfl | exact .inr rfl | assumption))
  (@aj _ _ _ _ _ (@ba _ _ _ _ _ _ _ _ (aJ bp (pv 3) (pv 4) (aH _)) (@aq _ _ _ (@aU _ _ 5 _ _ _ _ cP.nd rfl (Or.inl rfl) (ak (kT rfl (hu8 hr)) rfl B.b_min lq (@aa _ _ _ _ _ (pv 5) (@aa _ _ _ _ _ (mS hr.hd rfl B.b_tuple rfl B.b_reversed (pv 5)) ag rfl) rfl)) rfl (by first | exact .inl rfl | exact .inr rfl | assumption))) aK)
  (@aq _ _ _ (@aL _ _ _ _ (@aP _ _ _ _ _ (@aa _ _ _ _ _ (pv 3) (@aa _ _ _ _ _ (pv 4) (@aa _ _ _ _ _ (pv 5) ag rfl) rfl) rfl))))))))),?_⟩
 have mem:∀t∈[u,v],t∈ks:=λt ht=>(Co.mp (hf ▸ ht)).1
 refine ⟨_,rfl,_,rfl,dE.mpr ⟨l,ks,x,rfl,hl,lz,λp H1 s1 ep =>?_⟩⟩
 rw[hf] at ep
 refine ⟨p,[u,v],λt=>other t x,rfl,.inl (SqL.of ep),s1 _ _ hP,λt ht H' sb=>⟨_,rfl,_,rfl,dk.mpr ⟨t.1,t.2,x,rfl,yL (s1 _ _ hP) sb (aE s1 (hl.2 t (mem t ht))),rfl,aB.refl _⟩⟩,λlp out H2 s2 hn pm pw =>?_⟩
 obtain ⟨y,z,rfl⟩:∃y z,out=[y,z]:=by
  have:=pm.length_eq
  match out,this with
  | [y,z],_=>exact ⟨y,z,rfl⟩
 have my:y∈ks:=mem y (pm.mem_iff.mp B1)
 have mz:z∈ks:=mem z (pm.mem_iff.mp (B9 _ B1))
 have lw:∀t∈[u,v],t.2.2.2.length<=400:=λt ht=>by
  rcases Cw.mp ht with e | ht
  ·rw[e];exact lu
  ·rw[Ck.mp ht];exact lv
 have ly:=lw y (pm.mem_iff.mp B1)
 have lz':=lw z (pm.mem_iff.mp (B9 _ B1))
 have pm2:[y.2,z.2].Perm [u.2,v.2]:=pm.map λt:Addr×Tie=>t.2
 have le:other y.2 x<=other z.2 x:=(DS.mp pw).1 z B1
 have s3:aB H (upd H2 lp (.lst ([y,z].map λt=>V.ref t.1))):=(s1.trans s2).trans (ae hn _)
 have el:(upd H2 lp (.lst ([y,z].map λt=>V.ref t.1))) lp=some (.lst [.ref y.1,.ref z.1]):=af
 generalize upd H2 lp (.lst ([y,z].map λt=>V.ref t.1))=H3 at s3 el
 have hy:=aE s3 (hl.2 y my)
 have hz:=aE s3 (hl.2 z mz)
 refine ⟨_,rfl,lp,_,0,_,rfl,rfl,SqL.of el,rfl,_,rfl,dk.mpr ⟨y.1,y.2,x,rfl,hy,?_⟩⟩
 refine ⟨_,rfl,lp,_,1,_,rfl,rfl,SqL.of el,rfl,_,rfl,dk.mpr ⟨z.1,z.2,x,rfl,hz,?_⟩⟩
 refine ⟨_,rfl,lp,_,0,_,rfl,rfl,SqL.of el,rfl,_,rfl,gD.mpr ⟨y.1,y.2,other y.2 x,rfl,hy,by omega,λq1 H4 s4 w1 =>?_⟩⟩
 refine ⟨_,rfl,gu,λq2 n2=>tO (ah (ae n2 _) w1) (SqT.of af) (by simp) (small (by rw[BQ,cw];simp only[B3,Dj];omega)) λq3 H6 s6 w3 =>?_⟩
 have s5:aB H3 H6:=(s4.trans (ae n2 _)).trans s6
 refine ⟨_,rfl,lp,_,1,_,rfl,rfl,SqL.of (s5 _ _ el),rfl,_,rfl,gD.mpr ⟨z.1,z.2,x,rfl,aE s5 hz,by omega,λq4 H7 s7 w4 =>?_⟩⟩
 refine zu (ah s7 w3) w4 (small (by rw[BU,BQ,BQ,cw,cw];simp only[B3,Dj];omega)) λq5 H8 s8 w5 =>?_
 have s9:aB H H8:=((s3.trans s5).trans s7).trans s8
 have ew:(bT y.2 (other y.2 x)).map V.int++[V.int x]++(bT z.2 x).map V.int=((bT y.2 (other y.2 x))++[x]++bT z.2 x).map V.int:=by rw[B4,B4];rfl
 rw[ew] at w5
 have lW:((bT y.2 (other y.2 x))++[x]++bT z.2 x).length<=1000:=by rw[BU,BU,cw,cw];simp only[B3,Dj];omega
 refine ⟨_,rfl,_,rfl,rfl,_,rfl,?_⟩
 by_cases e:other y.2 x=other z.2 x
 ·rw[decide_eq_true (show V.int (other y.2 x)=V.int (other z.2 x) by rw[e])]
  refine bN ⟨_,rfl,_,rfl,q5,_,rfl,w5,by rw[BQ];exact lW,λq6 n6=>⟨q5,q6,_,((bT y.2 (other y.2 x))++[x]++bT z.2 x).reverse,rfl,ah (ae n6 _) w5,by rw[Ef];exact SqT.of af,λlt =>?_,λnl =>?_⟩⟩
  ·refine ⟨_,rfl,_,rfl,_,rfl,bL,λp np=>q p _ y.2 z.2 ((s9.trans (ae n6 _)).trans (ae np _)) pm2 le ?_⟩
   have hj:jn y.2 z.2 x=(other y.2 x,other z.2 x,((bT y.2 (other y.2 x))++[x]++bT z.2 x).reverse):=by unfold jn;rw[if_pos e,if_pos lt]
   rw[hj]
   exact jF (SqT.of af) (ah (ae np _) (by rw[Ef];exact SqT.of af))
  ·refine ⟨_,rfl,_,rfl,_,rfl,bL,λp np=>q p _ y.2 z.2 ((s9.trans (ae n6 _)).trans (ae np _)) pm2 le ?_⟩
   have hj:jn y.2 z.2 x=(other y.2 x,other z.2 x,(bT y.2 (other y.2 x))++[x]++bT z.2 x):=by unfold jn;rw[if_pos e,nl];rfl
   rw[hj]
   exact jF (SqT.of af) (ah ((ae n6 _).trans (ae np _)) w5)
 ·rw[decide_eq_false (show ¬ V.int (other y.2 x)=V.int (other z.2 x) from λt=>e (V.int.inj t))]
  refine bK ⟨_,rfl,_,rfl,_,rfl,bL,λp np=>q p _ y.2 z.2 (s9.trans (ae np _)) pm2 le ?_⟩
  have hj:jn y.2 z.2 x=(other y.2 x,other z.2 x,(bT y.2 (other y.2 x))++[x]++bT z.2 x):=by unfold jn;rw[if_neg e]
  rw[hj]
  exact jF (SqT.of af) (ah (ae np _) w5)
end
open PySem L2
open Srt
def btw (a b:Int)(t:Tie):Bool:=decide ((t.1,t.2.1)=(if b<a then b else a,if b>a then b else a))
def word (ts:List Tie)(x:Int):Option Str:=if (ts.filter (isAt x)).any (λt=>decide (t.1=t.2.1))=true then some "loop" else if (ts.filter (isAt x)).length<=1 then some "lone" else if (ts.filter (isAt x)).length=2 then some "two" else none
def m9:Option Str->V
 | none =>.non
 | some z =>.str z
@[irreducible] def gE (K:BM):Sp:=λvs H Q _=>∃(l:Addr) (ks:List (Addr×Tie)) (x y:Int),vs=[.ref l,.int x,.int y]/\eV K H l ks/\ks.length<=1000/\∀(p:Addr) (H':Hp),aB H H'->H' p=some (.lst ((ks.filter λk=>btw x y k.2).map λk =>.ref k.1))->Q (.ref p) H'
theorem eJ {K:BM}{vs:List V}{H:Hp}{Q:VK}{E:XK}:gE K vs H Q E↔∃(l:Addr) (ks:List (Addr×Tie)) (x y:Int),vs=[.ref l,.int x,.int y]/\eV K H l ks/\ks.length<=1000/\∀(p:Addr) (H':Hp),aB H H'->H' p=some (.lst ((ks.filter λk=>btw x y k.2).map λk =>.ref k.1))->Q (.ref p) H':=by
 delta gE
 exact Eg
@[irreducible] def lB (K:BM):Sp:=λvs H Q _=>∃(l:Addr) (ks:List (Addr×Tie)) (x:Int),vs=[.ref l,.int x]/\eV K H l ks/\ks.length<=1000/\∀(H':Hp),aB H H'->Q (m9 (word (ks.map (·.2)) x)) H'
theorem fD {K:BM}{vs:List V}{H:Hp}{Q:VK}{E:XK}:lB K vs H Q E↔∃(l:Addr) (ks:List (Addr×Tie)) (x:Int),vs=[.ref l,.int x]/\eV K H l ks/\ks.length<=1000/\∀(H':Hp),aB H H'->Q (m9 (word (ks.map (·.2)) x)) H':=by
 delta lB
 exact Eg
theorem bR:2<=Ca:=small (by decide)
section
variable  {P:B7}{w:CJ}{K:BM}{mg:Str->Option BP}{base:Heap}{f T:Addr}{fd:CT}
theorem gS:aV ["ties", "one", "other", "pair"] ["ties", "one", "other"] (aA fq):=⟨rfl,rfl,rfl,by decide +kernel,rfl,by decide +kernel,by decide +kernel⟩
theorem fE:(["tie", "pair"]:List Str).Nodup:=by decide +kernel
theorem lZ (F:Fun K "ties_between" "ties_between" fq f fd)(B:Blt mg):bS P w K mg base CX0 1 f fd ["ties", "one", "other"] (gE K):=by
 refine F.ok gS (λvs H Q E h =>?_) (λcdv A outer s H vs Q E hr h =>?_)
 ·obtain ⟨_,_,_,_,rfl,_⟩:=eJ.mp h
  rfl
 obtain ⟨l,ks,x,y,rfl,hl,lz,q⟩:=eJ.mp h
 refine ⟨_,(@aj _ _ _ _ _ (@aU _ _ 3 _ _ _ _ gS.nd rfl (Or.inr rfl) (@aP _ _ _ _ _ (@aa _ _ _ _ _ (ak (iU rfl) rfl B.b_min lq (@aa _ _ _ _ _ (pv 1) (@aa _ _ _ _ _ (pv 2) ag rfl) rfl)) (@aa _ _ _ _ _ (ak (mh rfl) rfl B.b_max wX (@aa _ _ _ _ _ (pv 1) (@aa _ _ _ _ _ (pv 2) ag rfl) rfl)) ag rfl) rfl)) rfl (by first | exact .inl rfl | exact .inr rfl | assumption))
  (@aq _ _ _ (@aL _ _ _ _ (cy ["tie", "pair"] [none,some 3] rfl (@cq _ _ _ _ (pv 0)) rfl (λ_ _ _ _ _=>(aS (i:=0) fE rfl (Or.inl rfl))) (λ_ _ _ _ _=>(dt (aJ (rF (K:=K) (hu8 hr)) (@aP _ _ _ _ _ (@aa _ _ _ _ _ (@aG _ _ _ _ _ _ _ (cf (K:=K)) (pv 0) ai (λ_ _=>rfl)) (@aa _ _ _ _ _ (@aG _ _ _ _ _ _ _ (cf (K:=K)) (pv 0) ai (λ_ _=>rfl)) ag rfl) rfl)) (pv 1) (aH _)))) (λ_ _ _ _ _=>(pv 0)))))),?_⟩
 refine ⟨_,rfl,_,rfl,_,_,rfl,_,rfl,_,rfl,_,_,rfl,bR,λpp np =>?_⟩
 have s1:=ae np (.tup [.int (if y<x then y else x),.int (if y>x then y else x)])
 have ep:(upd H pp (.tup [.int (if y<x then y else x),.int (if y>x then y else x)])) pp=_:=af
 refine ⟨_,rfl,l,rfl,⟨_,ah s1 hl.1⟩,dj (λk:Addr×Tie=>V.ref k.1) (λk=>V.ref k.1) (λk=>btw x y k.2) ks (ah s1 hl.1) (small lz) (λk hk H2 s2 R r =>?t) (λk hk _ H2 s2 R r=>⟨_,rfl,r⟩) λH2 p s2 hp=>q p _ ((s1.trans s2).trans (ae hp _)) af⟩
 obtain ⟨b,h1,h2⟩:=fQ (aE (s1.trans s2) (hl.2 k hk))
 refine ⟨_,rfl,k.1,_,0,_,rfl,rfl,h1,rfl,_,rfl,k.1,_,1,_,rfl,rfl,h1,rfl,bR,λp3 n3=>⟨_,rfl,p3,pp,[.i k.2.1,.i k.2.2.1],[.i (if y<x then y else x),.i (if y>x then y else x)],rfl,rfl,⟨_,SqT.of af,rfl,rfl,trivial⟩,⟨_,SqT.of ((s2.trans (ae n3 _)) _ _ ep),rfl,rfl,trivial⟩,_,rfl,?_⟩⟩
 have e:decide ([Cell.i k.2.1,Cell.i k.2.2.1]=[Cell.i (if y<x then y else x),Cell.i (if y>x then y else x)])=btw x y k.2:=by
  unfold btw
  exact decide_eq_decide.mpr (by simp[Ko])
 rw[e]
 exact r _ (ae n3 _)
end
section
variable  {P:B7}{w:CJ}{K:BM}{mg:Str->Option BP}{base:Heap}{f T:Addr}{fd:CT}
theorem jG:aV ["ties", "place", "beside"] ["ties", "place"] (aA gZ):=⟨rfl,rfl,rfl,by decide +kernel,rfl,by decide +kernel,by decide +kernel⟩
theorem jS:(["tie"]:List Str).Nodup:=by decide +kernel
theorem qi (F:Fun K "place_word" "place_word" gZ f fd)(B:Blt mg)(cBesideTies:Cal P w K mg base 2 "beside_ties" ["ties", "place"] (gq K)):bS P w K mg base CX0 3 f fd ["ties", "place"] (lB K):=by
 refine F.ok jG (λvs H Q E h =>?_) (λcdv A outer s H vs Q E hr h =>?_)
 ·obtain ⟨_,_,_,rfl,_⟩:=fD.mp h
  rfl
 obtain ⟨l,ks,x,rfl,hl,lz,q⟩:=fD.mp h
 refine ⟨_,(@aj _ _ _ _ _ (@aU _ _ 2 _ _ _ _ jG.nd rfl (Or.inl rfl) (aN cBesideTies hr (by decide) rfl (@aa _ _ _ _ _ (pv 0) (@aa _ _ _ _ _ (pv 1) ag rfl) rfl)) rfl (by first | exact .inl rfl | exact .inr rfl | assumption))
  (@aj _ _ _ _ _ (@ba _ _ _ _ _ _ _ _ (bV (ak (wa rfl) rfl B.b_any AG (@aa _ _ _ _ _ (cy ["tie"] [none] rfl (@j6 _ _ _ _ (pv 2)) rfl (λ_ _ _ _ _=>(aS (i:=0) jS rfl (Or.inl rfl))) (λ_ _ _ _ _=>eC) (λ_ _ _ _ _=>(bD bp (@aG _ _ _ _ _ _ _ (cf (K:=K)) (pv 0) ai (λ_ _=>rfl)) (@aG _ _ _ _ _ _ _ (cf (K:=K)) (pv 0) ai (λ_ _=>rfl)) (aH _)))) ag rfl))) (@aq _ _ _ (@aL _ _ _ _ bU)) aK)
  (@aj _ _ _ _ _ (@ba _ _ _ _ _ _ _ _ (aJ A6 (ak aX rfl B.b_len cU (@aa _ _ _ _ _ (pv 2) ag rfl)) ai (aH _)) (@aq _ _ _ (@aL _ _ _ _ bU)) aK)
  (@aj _ _ _ _ _ (@ba _ _ _ _ _ _ _ _ (aJ bp (ak aX rfl B.b_len cU (@aa _ _ _ _ _ (pv 2) ag rfl)) ai (aH _)) (@aq _ _ _ (@aL _ _ _ _ bU)) aK)
  (@aq _ _ _ (@aL _ _ _ _ vn)))))),?_⟩
 refine ⟨_,rfl,_,rfl,dE.mpr ⟨l,ks,x,rfl,hl,lz,λp H1 s1 ep =>?_⟩⟩
 obtain ⟨bs,eb⟩:∃bs,bs=ks.filter λk=>isAt x k.2:=⟨_,rfl⟩
 rw[<- eb] at ep
 have lb:bs.length<=1000:=by rw[eb];exact Cq (Dm _ _) lz
 have rw':∀k∈bs,RowC K H1 k.1 (tc k.2):=λk hk=>aE s1 (hl.2 k (Co.mp (eb ▸ hk)).1)
 have eg:((bs.filter λ_=>true).map λk=>V.bl (decide (k.2.1=k.2.2.1)))=(bs.map λk=>decide (k.2.1=k.2.2.1)).map V.bl:=by rw[EU.mpr (λ_ _=>rfl),Cs];rfl
 have e0:(ks.map (·.2)).filter (isAt x)=bs.map (·.2):=by rw[eb,DW];rfl
 have ea:((ks.map (·.2)).filter (isAt x)).any (λt=>decide (t.1=t.2.1))=(bs.map λk=>decide (k.2.1=k.2.2.1)).any id:=by rw[e0,Kp,Kp];rfl
 have el:((ks.map (·.2)).filter (isAt x)).length=bs.length:=by rw[e0,BQ]
 have q':∀H',aB H1 H'->Q (m9 (word (ks.map (·.2)) x)) H':=λH' s=>q H' (s1.trans s)
 unfold word at q'
 rw[ea,el] at q'
 refine ⟨_,rfl,p,rfl,⟨_,SqL.of ep⟩,k8 (λk:Addr×Tie=>V.ref k.1) (λk=>V.bl (decide (k.2.1=k.2.2.1))) (λ_=>true) bs (SqL.of ep) (small lb) (λk hk R r=>r) (λk hk _ R r =>?e) λla hn =>?c⟩
 case e =>
  obtain ⟨b,h1,h2⟩:=fQ (rw' k hk)
  refine ⟨_,rfl,k.1,_,0,_,rfl,rfl,h1,rfl,_,rfl,k.1,_,1,_,rfl,rfl,h1,rfl,rfl,?_⟩
  rw[show decide (V.int k.2.1=V.int k.2.2.1)=decide (k.2.1=k.2.2.1) from decide_eq_decide.mpr ⟨λz=>V.int.inj z,λz=>by rw[z]⟩]
  exact r
 case c =>
  rw[eg]
  have s2:=ae hn (.lst ((bs.map λk=>decide (k.2.1=k.2.2.1)).map V.bl))
  refine ⟨la,_,rfl,SqL.of af,?_⟩
  have q2:=q' _ s2
  have ep2:=s2 _ _ ep
  generalize (bs.map λk=>decide (k.2.1=k.2.2.1)).any id=c1 at q2
  refine ⟨_,rfl,?_⟩
  cases c1 with
  | true=>exact bN q2
  | false =>
   rw[if_neg B2] at q2
   refine bK ⟨_,rfl,p,_,rfl,.inl (SqL.of ep2),_,_,rfl,rfl,_,rfl,?_⟩
   rw[BQ]
   by_cases c2:bs.length<=1
   ·rw[if_pos c2] at q2
    rw[decide_eq_true (show ((bs.length:Nat):Int)<=1 by omega)]
    exact bN q2
   ·rw[if_neg c2] at q2
    rw[decide_eq_false (show ¬ ((bs.length:Nat):Int)<=1 by omega)]
    refine bK ⟨_,rfl,p,_,rfl,.inl (SqL.of ep2),rfl,_,rfl,?_⟩
    rw[BQ]
    by_cases c3:bs.length=2
    ·rw[if_pos c3] at q2
     rw[decide_eq_true (show V.int ((bs.length:Nat):Int)=V.int 2 by rw[c3];rfl)]
     exact bN q2
    ·rw[if_neg c3] at q2
     rw[decide_eq_false (show ¬ V.int ((bs.length:Nat):Int)=V.int 2 from λz=>c3 (by have:=V.int.inj z;omega))]
     exact bK q2
end
open PySem L2
open Srt
def leT (a b:Tie):Bool := !HT.lexLt (bz (tc b)) (bz (tc a))
def cQ (l:List Tie):List Tie:=l.mergeSort leT
theorem ng (a b c:Tie)(h1:leT a b=true)(h2:leT b c=true):leT a c=true:=by
 unfold leT at *
 rw[D4] at *
 cases h:HT.lexLt (bz (tc c)) (bz (tc a)) with
 | false=>rfl
 | true =>
  rcases nW _ (bz (tc b)) _ h with z | z
  ·rw[z] at h2;cases h2
  ·rw[z] at h1;cases h1
theorem ni (a b:Tie):(leT a b || leT b a)=true:=by
 unfold leT
 cases h:HT.lexLt (bz (tc b)) (bz (tc a)) with
 | false=>rfl
 | true =>
  cases h2:HT.lexLt (bz (tc a)) (bz (tc b)) with
  | false=>simp
  | true=>have:=lex_trans _ _ _ h h2;rw[lex_irrefl] at this;cases this
theorem wZ {a b:Tie}(h:bz (tc a)=bz (tc b)):a=b:=by
 have:=gm (cs:=tc a) (ds:=tc b) ⟨rfl,rfl,rfl,trivial⟩ h
 obtain ⟨a1,a2,a3⟩:=a
 obtain ⟨b1,b2,b3⟩:=b
 simp only[tc,Fe,Cell.i.injEq,Cell.t.injEq,and_true] at this
 obtain ⟨rfl,rfl,rfl⟩:=this
 rfl
theorem dM {l m:List Tie}(p:l.Perm m)(s:l.Pairwise λa b=>HT.lexLt (bz (tc b)) (bz (tc a))=false):l=cQ m:=by
 refine dS (λt=>bz (tc t)) (p.trans (Dy m leT).symm) (λa _ b _ h=>wZ h) s ?_
 refine (EV ng ni m).imp λ{a b} h =>?_
 unfold leT at h
 rwa [D4] at h
theorem jg:Alike (λcs=>∃t:Tie,cs=tc t):=⟨λa b ⟨t,e1⟩ ⟨u,e2⟩=>by subst e1 e2;exact ⟨rfl,rfl,rfl,trivial⟩,.inl λa ⟨t,e⟩=>⟨t.1,by rw[e];rfl⟩⟩
theorem gF:∀l:List V,gI l none (some 2)=l.take 2:=λl=>by
 match l with
 | []=>rfl
 | [a]=>rfl
 | a :: b :: r =>
  have h1:HT.sIx (a :: b :: r).length (a :: b :: r).length (some 2)=2:=by
   unfold HT.sIx
   simp only[B3]
   split <;> omega
  unfold gI
  rw[h1]
  rfl
def many (ts:List Tie)(a b:Int):List Tie:=cQ (ts.filter (λt => !btw a b t)++(ts.filter (btw a b)).take 2)
@[irreducible] def oK (K:BM):Sp:=λvs H Q _=>∃(l:Addr) (ks:List (Addr×Tie)) (x y:Int),vs=[.ref l,.int x,.int y]/\eV K H l ks/\ks.length<=500/\∀(p:Addr) (H':Hp) (ks':List (Addr×Tie)),aB H H'->eV K H' p ks'->ks'.map (·.2)=many (ks.map (·.2)) x y->Q (.ref p) H'
theorem hU {K:BM}{vs:List V}{H:Hp}{Q:VK}{E:XK}:oK K vs H Q E↔∃(l:Addr) (ks:List (Addr×Tie)) (x y:Int),vs=[.ref l,.int x,.int y]/\eV K H l ks/\ks.length<=500/\∀(p:Addr) (H':Hp) (ks':List (Addr×Tie)),aB H H'->eV K H' p ks'->ks'.map (·.2)=many (ks.map (·.2)) x y->Q (.ref p) H':=by
 delta oK
 exact Eg
@[irreducible] def kh (K:BM):Sp:=λvs H Q _=>∃(w t:Addr) (n:Nat) (ts:List (Addr×Int×Int)),vs=[.ref w]/\SqT K H w [.int n,.ref t]/\SqT K H t (ts.map λu =>.ref u.1)/\(∀u∈ts,SqT K H u.1 [.int u.2.1,.int u.2.2])/\n<=500/\ts.length<=500/\∀(p q l k:Addr) (H':Hp) (ks:List (Addr×Tie)),aB H H'->SqT K H' p [.ref q,.ref l,.ref k]->SqT K H' q ((Dh n).map λi =>.int (i:Nat))->eV K H' l ks->ks.map (·.2)=ts.map (λu=>(u.2.1,u.2.2,[]))->SqT K H' k []->Q (.ref p) H'
theorem gv {K:BM}{vs:List V}{H:Hp}{Q:VK}{E:XK}:kh K vs H Q E↔∃(w t:Addr) (n:Nat) (ts:List (Addr×Int×Int)),vs=[.ref w]/\SqT K H w [.int n,.ref t]/\SqT K H t (ts.map λu =>.ref u.1)/\(∀u∈ts,SqT K H u.1 [.int u.2.1,.int u.2.2])/\n<=500/\ts.length<=500/\∀(p q l k:Addr) (H':Hp) (ks:List (Addr×Tie)),aB H H'->SqT K H' p [.ref q,.ref l,.ref k]->SqT K H' q ((Dh n).map λi =>.int (i:Nat))->eV K H' l ks->ks.map (·.2)=ts.map (λu=>(u.2.1,u.2.2,[]))->SqT K H' k []->Q (.ref p) H':=by
 delta kh
 exact Eg
section
variable  {P:B7}{w:CJ}{K:BM}{mg:Str->Option BP}{base:Heap}{f T:Addr}{fd:CT}
theorem lC:aV ["ties", "one", "other", "full"] ["ties", "one", "other"] (aA i6):=⟨rfl,rfl,rfl,by decide +kernel,rfl,by decide +kernel,by decide +kernel⟩
theorem gL:(["tie", "full"]:List Str).Nodup:=by decide +kernel
theorem rQ (F:Fun K "many_done" "many_done" i6 f fd)(B:Blt mg)(cTiesBetween:Cal P w K mg base 1 "ties_between" ["ties", "one", "other"] (gE K)):bS P w K mg base CX0 2 f fd ["ties", "one", "other"] (oK K):=by
 refine F.ok lC (λvs H Q E h =>?_) (λcdv A outer s H vs Q E hr h =>?_)
 ·obtain ⟨_,_,_,_,rfl,_⟩:=hU.mp h
  rfl
 obtain ⟨l,ks,x,y,rfl,hl,lz,q⟩:=hU.mp h
 refine ⟨_,(@aj _ _ _ _ _ (@aU _ _ 3 _ _ _ _ lC.nd rfl (Or.inr rfl) (aN cTiesBetween hr (by decide) rfl (@aa _ _ _ _ _ (pv 0) (@aa _ _ _ _ _ (pv 1) (@aa _ _ _ _ _ (pv 2) ag rfl) rfl) rfl)) rfl (by first | exact .inl rfl | exact .inr rfl | assumption))
  (@aq _ _ _ (@aL _ _ _ _ (bh aW rfl B.b_tuple aO (@aa _ _ _ _ _ (ak (cv (hu8 hr)) rfl B.b_sorted cj (@aa _ _ _ _ _ (@bC _ _ _ _ _ _ _ _ j7 (cy ["tie", "full"] [none,some 3] rfl (@cq _ _ _ _ (pv 0)) rfl (λ_ _ _ _ _=>(aS (i:=0) gL rfl (Or.inl rfl))) (λ_ _ _ _ _=>(dt (aJ (m5 (K:=K) (hu8 hr)) (pv 0) (pv 1) rfl))) (λ_ _ _ _ _=>(pv 0))) (cR nQ (pv 3) dw (dy ai))) ag rfl)) ag rfl))))),?_⟩
 refine ⟨_,rfl,_,rfl,_,rfl,eJ.mpr ⟨l,ks,x,y,rfl,hl,by omega,λp H1 s1 ep =>?_⟩⟩
 obtain ⟨fu,ef⟩:∃fu,fu=ks.filter λk=>btw x y k.2:=⟨_,rfl⟩
 rw[<- ef] at ep
 have inF:∀k∈fu,k∈ks/\btw x y k.2=true:=λk hk=>Co.mp (ef ▸ hk)
 have rowF:∀H',aB H1 H'->∀k∈fu.map (λk:Addr×Tie=>(k.1,tc k.2)),RowC K H' k.1 k.2:=λH' s k hk=>by
  obtain ⟨k',hk',rfl⟩:=Ce.mp hk
  exact aE (s1.trans s) (hl.2 k' (inF k' hk').1)
 have mF:∀k∈ks,decide (tc k.2∈(fu.map λk:Addr×Tie=>(k.1,tc k.2)).map (·.2))=btw x y k.2:=λk hk=>by
  cases e:btw x y k.2 with
  | true =>
   refine decide_eq_true (Ce.mpr ⟨(k.1,tc k.2),Ce.mpr ⟨k,?_,rfl⟩,rfl⟩)
   rw[ef]
   exact Co.mpr ⟨hk,e⟩
  | false =>
   refine decide_eq_false λz =>?_
   obtain ⟨c1,hc,e1⟩:=Ce.mp z
   obtain ⟨k',hk',rfl⟩:=Ce.mp hc
   have:=(inF k' hk').2
   rw[wZ (a:=k'.2) (b:=k.2) (congrArg bz e1),e] at this
   cases this
 refine ⟨_,rfl,l,rfl,⟨_,ah s1 hl.1⟩,cY (λk:Addr×Tie=>V.ref k.1) (λk=>V.ref k.1) (λk => !btw x y k.2) ks (ah s1 hl.1) (small (by omega)) (λk hk R r=>⟨_,rfl,_,rfl,p,k.1,fu.map (λk:Addr×Tie=>(k.1,tc k.2)),tc k.2,rfl,rfl,.inl (by rw[Cs];exact SqL.of ep),rowF H1 (aB.refl _),aE s1 (hl.2 k hk),_,rfl,by rw[mF k hk];exact r⟩) (λk hk _ R r=>⟨_,rfl,r⟩) λla na =>?_⟩
 have s2:=ae na (.lst ((ks.filter λk => !btw x y k.2).map λk=>V.ref k.1))
 have el:(upd H1 la (.lst ((ks.filter λk => !btw x y k.2).map λk=>V.ref k.1))) la=_:=af
 generalize upd H1 la (.lst ((ks.filter λk => !btw x y k.2).map λk=>V.ref k.1))=H2 at s2 el
 refine ⟨_,rfl,_,rfl,p,_,rfl,SqL.of (s2 _ _ ep),λpc nc =>?_⟩
 have e2:gI (fu.map λk:Addr×Tie=>V.ref k.1) none (some 2)=(fu.take 2).map λk=>V.ref k.1:=by rw[Gy];exact gF _
 rw[e2]
 have s3:=ae nc (.lst ((fu.take 2).map λk=>V.ref k.1))
 have ec:(upd H2 pc (.lst ((fu.take 2).map λk=>V.ref k.1))) pc=_:=af
 generalize upd H2 pc (.lst ((fu.take 2).map λk=>V.ref k.1))=H3 at s3 ec
 have l1:(ks.filter λk => !btw x y k.2).length<=500:=Cq (Dm _ _) lz
 have l2:(fu.take 2).length<=2:=FD _ _
 refine ⟨la,pc,_,_,rfl,rfl,SqL.of (s3 _ _ el),SqL.of ec,small (by rw[BQ,BQ];omega),λpl nl =>?_⟩
 rw[<- B4]
 obtain ⟨zs,ez⟩:∃zs,zs=(ks.filter λk => !btw x y k.2)++fu.take 2:=⟨_,rfl⟩
 rw[<- ez]
 have inZ:∀k∈zs,k∈ks:=λk hk=>by
  rw[ez] at hk
  rcases B5.mp hk with z | z
  ·exact (Co.mp z).1
  ·exact (inF k (DF z)).1
 have s4:=ae nl (.lst (zs.map λk=>V.ref k.1))
 have e4:(upd H3 pl (.lst (zs.map λk=>V.ref k.1))) pl=_:=af
 generalize upd H3 pl (.lst (zs.map λk=>V.ref k.1))=H4 at s4 e4
 have s5:aB H H4:=((s1.trans s2).trans s3).trans s4
 refine ⟨_,pl,zs.map (λk:Addr×Tie=>(k.1,tc k.2)),jg,rfl,.inl (by rw[Cs];exact SqL.of e4),λk hk =>?_,λls out ns pm pw =>?_⟩
 ·obtain ⟨k',hk',rfl⟩:=Ce.mp hk
  exact ⟨aE s5 (hl.2 k' (inZ k' hk')),k'.2,rfl⟩
 obtain ⟨os,pmo,rfl⟩:=bM pm
 refine ⟨ls,_,rfl,.inl ⟨SqL.of af,λlt nt=>q lt _ os ((s5.trans (ae ns _)).trans (ae nt _)) ⟨?_,λk hk=>aE ((s5.trans (ae ns _)).trans (ae nt _)) (hl.2 k (inZ k (pmo.mem_iff.mp hk)))⟩ ?_⟩⟩
 ·rw[Cs]
  exact SqT.of af
 ·unfold many
  refine dM ?_ ?_
  ·rw[show (ks.map (·.2)).filter (λt => !btw x y t)++((ks.map (·.2)).filter (btw x y)).take 2=zs.map (·.2) by rw[ez,ef,B4,Gy,DW,DW];rfl]
   exact pmo.map _
  ·rw[CI] at pw ⊢
   exact pw
end
section
variable  {P:B7}{w:CJ}{K:BM}{mg:Str->Option BP}{base:Heap}{f T:Addr}{fd:CT}
theorem oM:aV ["web"] ["web"] (aA gn):=⟨rfl,rfl,rfl,by decide +kernel,rfl,by decide +kernel,by decide +kernel⟩
theorem jh:(["tie"]:List Str).Nodup:=by decide +kernel
theorem oN (F:Fun K "begin_rules" "begin_rules" gn f fd)(B:Blt mg):bS P w K mg base CX0 1 f fd ["web"] (kh K):=by
 refine F.ok oM (λvs H Q E h =>?_) (λcdv A outer s H vs Q E hr h =>?_)
 ·obtain ⟨_,_,_,_,rfl,_⟩:=gv.mp h
  rfl
 obtain ⟨r,t,n,ts,rfl,hw,ht,hu,n5,t5,q⟩:=gv.mp h
 refine ⟨_,(@aq _ _ _ (@aL _ _ _ _ (@aP _ _ _ _ _ (@aa _ _ _ _ _ (bh (jD hr.hd) rfl B.b_tuple aO (@aa _ _ _ _ _ (bh jC rfl B.b_range qg (@aa _ _ _ _ _ (@aG _ _ _ _ _ _ _ aM (pv 0) ai (λ_ _=>rfl)) ag rfl)) ag rfl)) (@aa _ _ _ _ _ (bh aW rfl B.b_tuple aO (@aa _ _ _ _ _ (cy ["tie"] [none] rfl (@cq _ _ _ _ (@aG _ _ _ _ _ _ _ aM (pv 0) ai (λ_ _=>rfl))) rfl (λ_ _ _ _ _=>(aS (i:=0) jh rfl (Or.inl rfl))) (λ_ _ _ _ _=>eC) (λ_ _ _ _ _=>(@aP _ _ _ _ _ (@aa _ _ _ _ _ (@aG _ _ _ _ _ _ _ (cf (K:=K)) (pv 0) ai (λ_ _=>rfl)) (@aa _ _ _ _ _ (@aG _ _ _ _ _ _ _ (cf (K:=K)) (pv 0) ai (λ_ _=>rfl)) (@aa _ _ _ _ _ (@aP _ _ _ _ _ ag) ag rfl) rfl) rfl)))) ag rfl)) (@aa _ _ _ _ _ (@aP _ _ _ _ _ ag) ag rfl) rfl) rfl)))),?_⟩
 refine ⟨_,rfl,r,_,0,_,rfl,rfl,hw,rfl,_,rfl,λpa na =>?_⟩
 have s1:=ae na (.rng 0 (n:Int))
 have ea:(upd H pa (.rng 0 (n:Int))) pa=_:=af
 generalize upd H pa (.rng 0 (n:Int))=H1 at s1 ea
 refine ⟨pa,n,rfl,ea,by omega,λpq nq =>?_⟩
 have s2:=s1.trans (ae nq (.tup ((Dh n).map λi=>V.int (i:Nat))))
 have eq:(upd H1 pq (.tup ((Dh n).map λi=>V.int (i:Nat)))) pq=_:=af
 generalize upd H1 pq (.tup ((Dh n).map λi=>V.int (i:Nat)))=H2 at s2 eq
 refine ⟨_,rfl,r,_,1,_,rfl,rfl,ah s2 hw,rfl,t,rfl,⟨_,ah s2 ht⟩,k9 (λH p (u:Tie)=>RowC K H p (tc u)) (λH1 H2 p b s h=>aE s h) (λu:Addr×Int×Int=>V.ref u.1) (λu=>((u.2.1,u.2.2,[]):Tie)) (λ_=>true) ts (ah s2 ht) (small (by omega)) (λu hm H3 s3 R r=>r H3 (aB.refl _)) (λu hm _ H3 s3 R rr =>?e) λH3 ks la s3 rk ek na' =>?c⟩
 case e =>
  have h1:=ah (s2.trans s3) (hu u hm)
  refine ⟨_,rfl,u.1,_,0,_,rfl,rfl,h1,rfl,_,rfl,u.1,_,1,_,rfl,rfl,h1,rfl,CC _,λp0 n0=>⟨bL,λp1 n1=>rr p1 _ ((ae n0 _).trans (ae n1 _)) (jF (SqT.of af) (SqT.of (ae n1 _ _ _ af)))⟩⟩
 case c =>
  have ef:(ts.filter λ_=>true)=ts:=EU.mpr λ_ _=>rfl
  rw[ef] at ek
  refine ⟨la,_,rfl,.inl ⟨SqL.of af,λpt nt =>?_⟩⟩
  refine ⟨CC _,λpk nk=>⟨bL,λp np =>?_⟩⟩
  have s6:=(ae nk (.tup [])).trans (ae np (.tup [.ref pq,.ref pt,.ref pk]))
  have s5:=(ae nt (.tup (ks.map λk=>V.ref k.1))).trans s6
  have s4:=(ae na' (.lst (ks.map λk=>V.ref k.1))).trans s5
  exact q p pq pt pk _ ks ((s2.trans s3).trans s4) (SqT.of af) (SqT.of ((s3.trans s4) _ _ eq)) ⟨SqT.of (s6 _ _ af),λk hk=>aE s4 (rk k hk)⟩ ek (SqT.of (ae np _ _ _ af))
end
open PySem L2
open Srt
theorem hV {u:Tie}{x:Int}(nl:u.1≠u.2.1)(ha:isAt x u=true):bT u (other u x)=(bT u x).reverse:=by
 unfold isAt at ha
 rw[Es,decide_eq_true_iff,decide_eq_true_iff] at ha
 unfold bT other
 by_cases c:u.1=x
 ·rw[if_pos c,if_pos c,if_neg nl]
 ·rw[if_neg c,if_neg c,if_pos rfl,D0]
theorem yW {u v:Tie}{x:Int}(nu:u.1≠u.2.1)(nv:v.1≠v.2.1)(au:isAt x u=true)(av:isAt x v=true)(e:other u x=other v x):jn u v x=jn v u x:=by
 have h1:=hV nu au
 have h2:=hV nv av
 unfold jn
 rw[if_pos e,if_pos e.symm,h1,h2]
 obtain ⟨W,eW⟩:∃W,W=(bT u x).reverse++[x]++bT v x:=⟨_,rfl⟩
 have e2:(bT v x).reverse++[x]++bT u x=W.reverse:=by
  rw[eW,Eu,Eu,D0]
  simp
 rw[<- eW,e2,D0,e]
 refine congrArg (Prod.mk (other v x)) (congrArg (Prod.mk (other v x)) ?_)
 cases c1:HT.lexLt W.reverse W with
 | true =>
  cases c2:HT.lexLt W W.reverse with
  | true=>have:=lex_trans _ _ _ c1 c2;rw[lex_irrefl] at this;cases this
  | false=>rfl
 | false =>
  cases c2:HT.lexLt W W.reverse with
  | true=>rfl
  | false=>exact (eU _ _ c1 c2).symm
def jn2 (u v:Tie)(x:Int):Tie:=if other u x<=other v x then jn u v x else jn v u x
theorem w9 {u v y z:Tie}{x:Int}(nu:u.1≠u.2.1)(nv:v.1≠v.2.1)(au:isAt x u=true)(av:isAt x v=true)(p:[y,z].Perm [u,v])(le:other y x<=other z x):jn y z x=jn2 u v x:=by
 have hy:(y=u/\z=v)\/(y=v/\z=u):=by
  rcases Cw.mp (p.mem_iff.mp B1) with e | e
  ·subst e
   have:=(F9 y).mp p
   exact .inl ⟨rfl,by simpa using Eh.mp this⟩
  ·have e:=Ck.mp e
   subst e
   have:=(F9 y).mp (p.trans (List.Perm.swap _ _ _))
   exact .inr ⟨rfl,by simpa using Eh.mp this⟩
 unfold jn2
 rcases hy with ⟨rfl,rfl⟩ | ⟨rfl,rfl⟩
 ·rw[if_pos le]
 ·by_cases c:other z x<=other y x
  ·rw[if_pos c]
   exact yW nv nu av au (by omega)
  ·rw[if_neg c]
inductive Stp | one (w:Str) (x:Int) | two (x y:Int)
def Stp.cs:Stp->List Cell
 | .one w x=>[.s w,.i x]
 | .two x y=>[.s "many",.i x,.i y]
structure Sta where
 lf:List Int
 ts:List Tie
 tk:List Int
def StA (K:BM)(H:Hp)(p:Addr)(s:Sta):Prop:=∃(a b c:Addr) (ks:List (Addr×Tie)),SqT K H p [.ref a,.ref b,.ref c]/\SqT K H a (s.lf.map V.int)/\eV K H b ks/\ks.map (·.2)=s.ts/\SqT K H c (s.tk.map V.int)
theorem StA.same {K:BM}{H H':Hp}{p:Addr}{s:Sta}(k:aB H H')(h:StA K H p s):StA K H' p s:=by
 obtain ⟨a,b,c,ks,h1,h2,h3,h4,h5⟩:=h
 exact ⟨a,b,c,ks,ah k h1,ah k h2,h3.same k,h4,ah k h5⟩
def sortI (l:List Int):List Int:=l.mergeSort λa b=>decide (a<=b)
def behind (s:Sta):Stp->Sta
 | .two x y=>⟨s.lf,many s.ts x y,s.tk⟩
 | .one w x=>⟨s.lf.filter λy => !decide (y=x),cQ (s.ts.filter (λt => !isAt x t)++(if w = "two" then [match s.ts.filter (isAt x) with
   | [u,v]=>jn2 u v x
   | _=>(0,0,[])] else [])),if w = "loop" then sortI (s.tk++[x]) else s.tk⟩
open PySem L2
open Srt
def OkS (s:Sta):Stp->Prop
 | .two _ _=>True
 | .one w x=>(w = "lone" \/ w = "loop" \/ w = "two")/\(w = "two" -> ∃u v,s.ts.filter (isAt x)=[u,v]/\u.1≠u.2.1/\v.1≠v.2.1)
structure Sml (s:Sta):Prop where
 lf:s.lf.length<=400
 ts:s.ts.length<=400
 tk:s.tk.length<=400
 ws:∀t∈s.ts,t.2.2.length<=400
theorem AJ:∀{l:List (Addr×Tie)} {u v:Tie},l.map (·.2)=[u,v]->∃u1 v1,l=[u1,v1]/\u1.2=u/\v1.2=v
 | [a,b],u,v,h=>⟨a,b,rfl,(Dd h).1,(Dd (Dd h).2).1⟩
 | [],_,_,h=>by cases h
 | [_],_,_,h=>by cases (Dd h).2
 | _ :: _ :: _ :: _,_,_,h=>by cases (Dd (Dd h).2).2
theorem qj {l m:List Int}(p:l.Perm m)(s:l.Pairwise (· <= ·)):l=sortI m:=by
 have le1:∀{a b:Int},a<=b->HT.lexLt [b] [a]=false:=λ{a b} h=>by
  rw[HT.aY]
  by_cases e:b=a
  ·rw[if_pos e];rfl
  ·rw[if_neg e];exact decide_eq_false (by omega)
 refine dS (λn=>[n]) (p.trans (Dy m _).symm) (λa _ b _ h=>(Dd h).1) (s.imp le1) ?_
 exact (EV (le:=λa b:Int=>decide (a<=b)) (λa b c h1 h2=>decide_eq_true (Int.le_trans (of_decide_eq_true h1) (of_decide_eq_true h2))) (λa b=>by simp only[Es,decide_eq_true_eq];omega) m).imp λ{a b} h=>le1 (of_decide_eq_true h)
theorem dU {K:BM}{H:Hp}{l a:Addr}{xs ys:List V}{cs:List Cell}(hl:H l=some (.lst xs))(h:RowC K H a cs):RowC K (upd H l (.lst ys)) a cs:=by
 have k:∀b us,SqT K H b us->SqT K (upd H l (.lst ys)) b us:=λb us h=>h.imp (λr=>r.elim (λe =>.inl (by rw[ax (λz=>by rw[z,hl] at e;cases e)];exact e)) λ⟨o,e⟩ =>.inr ⟨o,by rw[ax (λz=>by rw[z,hl] at e;cases e)];exact e⟩) id
 obtain ⟨us,h1,h2⟩:=h
 exact ⟨us,k _ _ h1,dJ k h2⟩
@[irreducible] def oO (K:BM):Sp:=λvs H Q _=>∃(p q:Addr) (s:Sta) (st:Stp),vs=[.ref p,.ref q]/\StA K H p s/\RowC K H q st.cs/\H PJ=some (.tbl psJ)/\OkS s st/\Sml s/\∀(p':Addr) (H':Hp),aB H H'->StA K H' p' (behind s st)->Q (.ref p') H'
theorem hW {K:BM}{vs:List V}{H:Hp}{Q:VK}{E:XK}:oO K vs H Q E↔∃(p q:Addr) (s:Sta) (st:Stp),vs=[.ref p,.ref q]/\StA K H p s/\RowC K H q st.cs/\H PJ=some (.tbl psJ)/\OkS s st/\Sml s/\∀(p':Addr) (H':Hp),aB H H'->StA K H' p' (behind s st)->Q (.ref p') H':=by
 delta oO
 exact Eg
section
variable  {P:B7}{w:CJ}{K:BM}{mg:Str->Option BP}{base:Heap}{f T:Addr}{fd:CT}
theorem dN:aV ["state", "step", "left", "ties", "taken"] ["state", "step"] (aA i7):=⟨rfl,rfl,rfl,by decide +kernel,rfl,by decide +kernel,by decide +kernel⟩
theorem fT:(["place", "step"]:List Str).Nodup:=by decide +kernel
theorem gM:(["tie", "step"]:List Str).Nodup:=by decide +kernel
theorem rR (F:Fun K "step_done" "step_done" i7 f fd)(B:Blt mg)(cManyDone:Cal P w K mg base 2 "many_done" ["ties", "one", "other"] (oK K))(cJoinedTie:Cal P w K mg base 5 "joined_tie" ["ties", "place"] (oJ K))(cIsAt:Cal P w K mg base 1 "is_at" ["tie", "place"] (lA K)):bS P w K mg base CX0 6 f fd ["state", "step"] (oO K):=by
 refine F.ok dN (λvs H Q E h =>?_) (λcdv A outer s H vs Q E hr h =>?_)
 ·obtain ⟨_,_,_,_,rfl,_⟩:=hW.mp h
  rfl
 obtain ⟨p,q,z0,st,rfl,hs,hq,hP,ok,sm,k⟩:=hW.mp h
 refine ⟨_,(@aj _ _ _ _ _ (@ba _ _ _ _ _ _ _ _ (aJ bp (@aG _ _ _ _ _ _ _ aM (pv 1) ai (λ_ _=>rfl)) bU (aH _)) (@aq _ _ _ (@aL _ _ _ _ (@aP _ _ _ _ _ (@aa _ _ _ _ _ (@aG _ _ _ _ _ _ _ aM (pv 0) ai (λ_ _=>rfl)) (@aa _ _ _ _ _ (aN cManyDone hr (by decide) rfl (@aa _ _ _ _ _ (@aG _ _ _ _ _ _ _ aM (pv 0) ai (λ_ _=>rfl)) (@aa _ _ _ _ _ (@aG _ _ _ _ _ _ _ aM (pv 1) ai (λ_ _=>rfl)) (@aa _ _ _ _ _ (@aG _ _ _ _ _ _ _ aM (pv 1) ai (λ_ _=>rfl)) ag rfl) rfl) rfl)) (@aa _ _ _ _ _ (@aG _ _ _ _ _ _ _ aM (pv 0) ai (λ_ _=>rfl)) ag rfl) rfl) rfl)))) aK)
  (@aj _ _ _ _ _ (@aU _ _ 2 _ _ _ _ dN.nd rfl (Or.inl rfl) (bh aW rfl B.b_tuple aO (@aa _ _ _ _ _ (cy ["place", "step"] [none,some 1] rfl (@cq _ _ _ _ (@aG _ _ _ _ _ _ _ aM (pv 0) ai (λ_ _=>rfl))) rfl (λ_ _ _ _ _=>(aS (i:=0) fT rfl (Or.inl rfl))) (λ_ _ _ _ _=>(dt (aJ mf (pv 0) (@aG _ _ _ _ _ _ _ (cf (K:=K)) (pv 1) ai (λ_ _=>rfl)) (aH _)))) (λ_ _ _ _ _=>(pv 0))) ag rfl)) rfl (by first | exact .inl rfl | exact .inr rfl | assumption))
  (@aj _ _ _ _ _ (cB (i:=3) ["tie", "step"] [none,some 1] rfl dN.nd rfl rfl (@cq _ _ _ _ (@aG _ _ _ _ _ _ _ aM (pv 0) ai (λ_ _=>rfl))) rfl (λ_ _ _ _ _=>(aS (i:=0) gM rfl (Or.inl rfl))) (λ_ _ _ _ _=>(dt (dF (bV (aN cIsAt hr (by decide) rfl (@aa _ _ _ _ _ (pv 0) (@aa _ _ _ _ _ (@aG _ _ _ _ _ _ _ (cf (K:=K)) (pv 1) ai (λ_ _=>rfl)) ag rfl) rfl)))))) (λ_ _ _ _ _=>(pv 0)))
  (@aj _ _ _ _ _ (@aU _ _ 4 _ _ _ _ dN.nd rfl (Or.inl rfl) (@aG _ _ _ _ _ _ _ aM (pv 0) ai (λ_ _=>rfl)) rfl (by first | exact .inl rfl | exact .inr rfl | assumption))
  (@aj _ _ _ _ _ (@ba _ _ _ _ _ _ _ _ (aJ bp (@aG _ _ _ _ _ _ _ aM (pv 1) ai (λ_ _=>rfl)) bU (aH _)) (@aq _ _ _ (cK (fY C3 CZ C0 cg (pv 3) (@aa _ _ _ _ _ (aN cJoinedTie hr (by decide) rfl (@aa _ _ _ _ _ (@aG _ _ _ _ _ _ _ aM (pv 0) ai (λ_ _=>rfl)) (@aa _ _ _ _ _ (@aG _ _ _ _ _ _ _ aM (pv 1) ai (λ_ _=>rfl)) ag rfl) rfl)) ag rfl)))) aK)
  (@aj _ _ _ _ _ (@ba _ _ _ _ _ _ _ _ (aJ bp (@aG _ _ _ _ _ _ _ aM (pv 1) ai (λ_ _=>rfl)) bU (aH _)) (@aq _ _ _ (@aU _ _ 4 _ _ _ _ dN.nd rfl (Or.inl rfl) (bh aW rfl B.b_tuple aO (@aa _ _ _ _ _ (ak iy rfl B.b_sorted cj (@aa _ _ _ _ _ (@bC _ _ _ _ _ _ _ _ iz (pv 4) (@aP _ _ _ _ _ (@aa _ _ _ _ _ (@aG _ _ _ _ _ _ _ aM (pv 1) ai (λ_ _=>rfl)) ag rfl))) ag rfl)) ag rfl)) rfl (by first | exact .inl rfl | exact .inr rfl | assumption))) aK)
  (@aq _ _ _ (@aL _ _ _ _ (@aP _ _ _ _ _ (@aa _ _ _ _ _ (pv 2) (@aa _ _ _ _ _ (bh aW rfl B.b_tuple aO (@aa _ _ _ _ _ (ak (cv (hu8 hr)) rfl B.b_sorted cj (@aa _ _ _ _ _ (pv 3) ag rfl)) ag rfl)) (@aa _ _ _ _ _ (pv 4) ag rfl) rfl) rfl)))))))))),?_⟩
 obtain ⟨a,b,c,ks,h1,h2,h3,h4,h5⟩:=hs
 have lk:ks.length<=400:=by have:=sm.ts;rw[<- h4,BQ] at this;exact this
 cases st with
 | two x y =>
  have hq':=tI hq
  refine ⟨_,rfl,q,_,0,_,rfl,rfl,hq',rfl,rfl,_,rfl,?_⟩
  rw[decide_eq_true rfl]
  refine bN ⟨_,rfl,p,_,0,_,rfl,rfl,h1,rfl,_,rfl,p,_,1,_,rfl,rfl,h1,rfl,_,rfl,q,_,1,_,rfl,rfl,hq',rfl,_,rfl,q,_,2,_,rfl,rfl,hq',rfl,hU.mpr ⟨b,ks,x,y,rfl,h3,by omega,λpm H1 ks' s1 t1 e1=>⟨_,rfl,p,_,2,_,rfl,rfl,ah s1 h1,rfl,bL,λpr nr=>k pr _ (s1.trans (ae nr _)) ⟨a,pm,c,ks',SqT.of af,ah (s1.trans (ae nr _)) h2,t1.same (ae nr _),by rw[e1,h4];rfl,ah (s1.trans (ae nr _)) h5⟩⟩⟩⟩
 | one w x =>
  have hq':=wN hq
  have wm:¬ w = "many" := by
   rcases ok.1 with e | e | e <;> (rw[e];decide)
  refine ⟨_,rfl,q,_,0,_,rfl,rfl,hq',rfl,rfl,_,rfl,?_⟩
  rw[decide_eq_false (show ¬ V.str w=V.str "many" from λe=>wm (V.str.inj e))]
  refine bK ⟨_,rfl,p,_,0,_,rfl,rfl,h1,rfl,a,rfl,⟨_,h2⟩,cY (λi:Int=>V.int i) (λi=>V.int i) (λy => !decide (y=x)) z0.lf h2 (small (by have:=sm.lf;omega)) (λy hy R r=>⟨_,rfl,_,rfl,q,_,1,_,rfl,rfl,hq',rfl,rfl,_,rfl,by rw[show decide (V.int y=V.int x)=decide (y=x) from decide_eq_decide.mpr ⟨λe=>V.int.inj e,λe=>by rw[e]⟩];exact r⟩) (λy _ _ R r=>⟨_,rfl,r⟩) λla na =>?_⟩
  refine ⟨la,_,rfl,.inl ⟨SqL.of af,λlt nt =>?_⟩⟩
  have s2:=(ae na (.lst ((z0.lf.filter λy => !decide (y=x)).map V.int))).trans (ae nt (.tup ((z0.lf.filter λy => !decide (y=x)).map V.int)))
  have et:(upd (upd H la (.lst ((z0.lf.filter λy => !decide (y=x)).map V.int))) lt (.tup ((z0.lf.filter λy => !decide (y=x)).map V.int))) lt=_:=af
  generalize upd (upd H la (.lst ((z0.lf.filter λy => !decide (y=x)).map V.int))) lt (.tup ((z0.lf.filter λy => !decide (y=x)).map V.int))=H2 at s2 et
  have hq2:=ah s2 hq'
  have h32:=h3.same s2
  refine ⟨_,rfl,p,_,1,_,rfl,rfl,ah s2 h1,rfl,b,rfl,⟨_,h32.1⟩,cY (λk:Addr×Tie=>V.ref k.1) (λk=>V.ref k.1) (λk => !isAt x k.2) ks h32.1 (small (by omega)) (λkk hk R r=>⟨_,rfl,_,rfl,q,_,1,_,rfl,rfl,hq2,rfl,fA.mpr ⟨kk.1,kk.2,x,rfl,h32.2 kk hk,_,rfl,r⟩⟩) (λkk _ _ R r=>⟨_,rfl,r⟩) λlb nb =>?_⟩
  have s3:=s2.trans (ae nb (.lst ((ks.filter λk => !isAt x k.2).map λk=>V.ref k.1)))
  have s23:=ae nb (.lst ((ks.filter λk => !isAt x k.2).map λk=>V.ref k.1))
  have eb:(upd H2 lb (.lst ((ks.filter λk => !isAt x k.2).map λk=>V.ref k.1))) lb=_:=af
  generalize upd H2 lb (.lst ((ks.filter λk => !isAt x k.2).map λk=>V.ref k.1))=H3 at s3 s23 eb
  have hq3:=ah s3 hq'
  refine ⟨_,rfl,p,_,2,_,rfl,rfl,ah s3 h1,rfl,?_⟩
  refine ⟨_,rfl,q,_,0,_,rfl,rfl,hq3,rfl,rfl,_,rfl,?_⟩
  have rows0:∀H',aB H H'->∀k1∈ks,RowC K H' k1.1 (tc k1.2):=λH' s' k1 hk1=>aE s' (h3.2 k1 hk1)
  have fl:(ks.filter λk => !isAt x k.2).map (·.2)=z0.ts.filter λt => !isAt x t:=by rw[<- h4,DW];rfl
  by_cases w2:w = "two"
  ·rw[decide_eq_true (show V.str w=V.str "two" by rw[w2])]
   obtain ⟨u,v,euv,nu,nv⟩:=ok.2 w2
   have e1:(ks.filter λk=>isAt x k.2).map (·.2)=[u,v]:=by rw[<- euv, <- h4,DW];rfl
   obtain ⟨u1,v1,ef,eu,ev⟩:∃u1 v1,(ks.filter λk=>isAt x k.2)=[u1,v1]/\u1.2=u/\v1.2=v:=AJ e1
   have mu:=Co.mp (show u∈z0.ts.filter (isAt x) by rw[euv];exact B1)
   have mv:=Co.mp (show v∈z0.ts.filter (isAt x) by rw[euv];exact B9 _ B1)
   refine bN ⟨_,rfl,.inl ⟨rfl,_,SqL.of eb⟩,_,rfl,p,_,1,_,rfl,rfl,ah s3 h1,rfl,_,rfl,q,_,1,_,rfl,rfl,hq3,rfl,hJ.mpr ⟨b,ks,x,u1,v1,rfl,h3.same s3,by omega,s3 _ _ hP,ef,by rw[eu];exact sm.ws u mu.1,by rw[ev];exact sm.ws v mv.1,λpj H4 y z s4 pm le rj =>?_⟩⟩
   rw[eu,ev] at pm
   rw[w9 nu nv mu.2 mv.2 pm le] at rj
   have l3:(ks.filter λk => !isAt x k.2).length<=400:=Cq (Dm _ _) lk
   refine ⟨lb,_,_,rfl,rfl,s4 _ _ eb,by rw[BQ];exact CG l3 (by decide),?_⟩
   obtain ⟨zs,ez⟩:∃zs,zs=(ks.filter λk => !isAt x k.2)++[(pj,jn2 u v x)]:=⟨_,rfl⟩
   have ex:((ks.filter λk => !isAt x k.2).map λk=>V.ref k.1)++[V.ref pj]=zs.map λk=>V.ref k.1:=by rw[ez,B4];rfl
   rw[ex]
   have hnb:H lb=none:=by
    cases e:H lb with
    | none=>rfl
    | some o=>rw[s2 _ _ e] at nb;cases nb
   have s5:aB H (upd H4 lb (.lst (zs.map λk=>V.ref k.1))):=λb' o e=>by rw[ax (aF e hnb)];exact (s3.trans s4) _ _ e
   have e5:(upd H4 lb (.lst (zs.map λk=>V.ref k.1))) lb=_:=af
   have t5:(upd H4 lb (.lst (zs.map λk=>V.ref k.1))) lt=some (.tup ((z0.lf.filter λy => !decide (y=x)).map V.int)):=by rw[ax (aF et nb)];exact (s23.trans s4) _ _ et
   have r5:∀k1∈zs,RowC K (upd H4 lb (.lst (zs.map λk=>V.ref k.1))) k1.1 (tc k1.2):=λk1 hk1=>by
    rw[ez] at hk1
    rcases B5.mp hk1 with z1 | z1
    ·exact rows0 _ s5 k1 (Co.mp z1).1
    ·rw[Ck.mp z1]
     have e6:H3 lb=some _:=eb
     refine dU (s4 _ _ eb) rj
   generalize upd H4 lb (.lst (zs.map λk=>V.ref k.1))=H5 at s5 e5 t5 r5
   refine ⟨_,rfl,q,_,0,_,rfl,rfl,ah s5 hq',rfl,rfl,_,rfl,?_⟩
   have w3:¬ w = "loop" := by rw[w2];decide
   rw[decide_eq_false (show ¬ V.str w=V.str "loop" from λe=>w3 (V.str.inj e))]
   refine bK ?_
   have ebh:behind z0 (.one w x)=⟨z0.lf.filter λy => !decide (y=x),cQ (zs.map (·.2)),z0.tk⟩:=by unfold behind;simp only[if_pos w2,if_neg w3,euv];rw[ez,B4,fl];rfl
   rw[ebh] at k
   refine ⟨_,rfl,_,rfl,_,lb,zs.map (λk:Addr×Tie=>(k.1,tc k.2)),jg,rfl,.inl (by rw[Cs];exact SqL.of e5),λk1 hk1=>(by obtain ⟨k2,hk2,rfl⟩:=Ce.mp hk1;exact ⟨r5 k2 hk2,k2.2,rfl⟩),λls out ns pm1 pw1 =>?_⟩
   obtain ⟨os,pmo,rfl⟩:=bM pm1
   refine ⟨ls,_,rfl,.inl ⟨SqL.of af,λl5 n5=>⟨_,rfl,bL,λpr nr=>k pr _ (((s5.trans (ae ns _)).trans (ae n5 _)).trans (ae nr _)) ⟨lt,l5,c,os,SqT.of af,ah (((ae ns _).trans (ae n5 _)).trans (ae nr _)) (SqT.of t5),⟨?_,λk1 hk1=>aE (((ae ns _).trans (ae n5 _)).trans (ae nr _)) (r5 k1 (pmo.mem_iff.mp hk1))⟩,?_,ah (((ae ns _).trans (ae n5 _)).trans (ae nr _)) (ah s5 h5)⟩⟩⟩⟩
   ·exact SqT.of ((ae nr _ _ _ af).trans (by rw[Cs];rfl))
   ·refine dM ?_ ?_
    ·exact pmo.map _
    ·rw[CI] at pw1 ⊢
     exact pw1
  ·rw[decide_eq_false (show ¬ V.str w=V.str "two" from λe=>w2 (V.str.inj e))]
   obtain ⟨zs,ez⟩:∃zs,zs=ks.filter λk => !isAt x k.2:=⟨_,rfl⟩
   rw[<- ez] at eb fl
   have rz:∀H',aB H H'->∀k1∈zs,RowC K H' k1.1 (tc k1.2):=λH' s' k1 hk1=>rows0 H' s' k1 (Co.mp (ez ▸ hk1)).1
   refine bK ⟨_,rfl,q,_,0,_,rfl,rfl,hq3,rfl,rfl,_,rfl,?_⟩
   by_cases w3:w = "loop"
   ·rw[decide_eq_true (show V.str w=V.str "loop" by rw[w3])]
    refine bN ?_
    refine ⟨_,rfl,_,rfl,q,_,1,_,rfl,rfl,hq3,rfl,gu,λp6 n6=>tO (ah (s3.trans (ae n6 _)) h5) (SqT.of af) (by simp) (small (by have:=sm.tk;rw[BQ];simp only[B3,Dj];omega)) λp7 H7 s7 w7 =>?_⟩
    refine ⟨p7,z0.tk++[x],rfl,.inr (by rw[B4];exact w7),λl7 out7 n7 pm7 pw7 =>?_⟩
    refine ⟨l7,_,rfl,.inl ⟨SqL.of af,λl8 n8 =>?_⟩⟩
    have s8:=(((ae n6 (.tup [V.int x])).trans s7).trans (ae n7 (.lst (out7.map V.int)))).trans (ae n8 (.tup (out7.map V.int)))
    have e8:(upd (upd H7 l7 (.lst (out7.map V.int))) l8 (.tup (out7.map V.int))) l8=_:=af
    generalize upd (upd H7 l7 (.lst (out7.map V.int))) l8 (.tup (out7.map V.int))=H8 at s8 e8
    rw[qj pm7 pw7] at e8
    have ebh:behind z0 (.one w x)=⟨z0.lf.filter λy => !decide (y=x),cQ (zs.map (·.2)),sortI (z0.tk++[x])⟩:=by unfold behind;simp only[if_neg w2,if_pos w3,CF];rw[fl]
    rw[ebh] at k
    have s38:=s3.trans s8
    refine ⟨_,rfl,_,rfl,_,lb,zs.map (λk:Addr×Tie=>(k.1,tc k.2)),jg,rfl,.inl (by rw[Cs];exact SqL.of (s8 _ _ eb)),λk1 hk1=>(by obtain ⟨k2,hk2,rfl⟩:=Ce.mp hk1;exact ⟨rz _ s38 k2 hk2,k2.2,rfl⟩),λls out ns pm1 pw1 =>?_⟩
    obtain ⟨os,pmo,rfl⟩:=bM pm1
    refine ⟨ls,_,rfl,.inl ⟨SqL.of af,λl5 n5=>⟨_,rfl,bL,λpr nr=>k pr _ (((s38.trans (ae ns _)).trans (ae n5 _)).trans (ae nr _)) ⟨lt,l5,l8,os,SqT.of af,ah (((ae ns _).trans (ae n5 _)).trans (ae nr _)) (SqT.of ((s23.trans s8) _ _ et)),⟨?_,λk1 hk1=>aE (((ae ns _).trans (ae n5 _)).trans (ae nr _)) (rz _ s38 k1 (pmo.mem_iff.mp hk1))⟩,?_,ah (((ae ns _).trans (ae n5 _)).trans (ae nr _)) (SqT.of e8)⟩⟩⟩⟩
    ·exact SqT.of ((ae nr _ _ _ af).trans (by rw[Cs];rfl))
    ·refine dM ?_ ?_
     ·exact pmo.map _
     ·rw[CI] at pw1 ⊢
      exact pw1
   ·rw[decide_eq_false (show ¬ V.str w=V.str "loop" from λe=>w3 (V.str.inj e))]
    refine bK ?_
    have ebh:behind z0 (.one w x)=⟨z0.lf.filter λy => !decide (y=x),cQ (zs.map (·.2)),z0.tk⟩:=by unfold behind;simp only[if_neg w2,if_neg w3,CF];rw[fl]
    rw[ebh] at k
    refine ⟨_,rfl,_,rfl,_,lb,zs.map (λk:Addr×Tie=>(k.1,tc k.2)),jg,rfl,.inl (by rw[Cs];exact SqL.of eb),λk1 hk1=>(by obtain ⟨k2,hk2,rfl⟩:=Ce.mp hk1;exact ⟨rz _ s3 k2 hk2,k2.2,rfl⟩),λls out ns pm1 pw1 =>?_⟩
    obtain ⟨os,pmo,rfl⟩:=bM pm1
    refine ⟨ls,_,rfl,.inl ⟨SqL.of af,λl5 n5=>⟨_,rfl,bL,λpr nr=>k pr _ (((s3.trans (ae ns _)).trans (ae n5 _)).trans (ae nr _)) ⟨lt,l5,c,os,SqT.of af,ah (((ae ns _).trans (ae n5 _)).trans (ae nr _)) (SqT.of (s23 _ _ et)),⟨?_,λk1 hk1=>aE (((ae ns _).trans (ae n5 _)).trans (ae nr _)) (rz _ s3 k1 (pmo.mem_iff.mp hk1))⟩,?_,ah (((ae ns _).trans (ae n5 _)).trans (ae nr _)) (ah s3 h5)⟩⟩⟩⟩
    ·exact SqT.of ((ae nr _ _ _ af).trans (by rw[Cs];rfl))
    ·refine dM ?_ ?_
     ·exact pmo.map _
     ·rw[CI] at pw1 ⊢
      exact pw1
end
open PySem L2
open Srt
def cnt (ts:List Tie)(a b:Int):Nat:=(ts.filter λt=>decide (t.1=a/\t.2.1=b)).length
def kk (q:Int×Int):List Key:=[.inl q.1,.inl q.2]
theorem rS {p q:Int×Int}(h:kk p=kk q):p=q:=by
 obtain ⟨a,b⟩:=p
 obtain ⟨c,d⟩:=q
 simpa [kk] using h
theorem qk (ts:List Tie)(t:Tie)(a b:Int):cnt (ts++[t]) a b=cnt ts a b+(if t.1=a/\t.2.1=b then 1 else 0):=by
 unfold cnt
 rw[Di,BU]
 by_cases c:t.1=a/\t.2.1=b
 ·rw[if_pos c]
  simp[List.filter,c]
 ·rw[if_neg c]
  simp[List.filter,c]
structure vb (kvs:List (List Key×V))(prs:List (Int×Int))(ts:List Tie):Prop where
 keys:kvs.map (·.1)=prs.map kk
 nd:prs.Nodup
 len:kvs.length<=ts.length
 val:∀q,cW kvs (kk q)=if cnt ts q.1 q.2=0 then none else some (.int (cnt ts q.1 q.2))
theorem vb.mem {kvs:List (List Key×V)}{prs:List (Int×Int)}{ts:List Tie}(c:vb kvs prs ts)(q:Int×Int):q∈prs↔cnt ts q.1 q.2≠0:=by
 have e:=c.val q
 constructor
 ·intro m z
  rw[z,if_pos rfl] at e
  exact pD e (by rw[c.keys];exact FA m)
 ·intro n
  rw[if_neg n] at e
  have:=yh e
  rw[c.keys] at this
  obtain ⟨p,hp,ep⟩:=Ce.mp this
  exact rS ep ▸ hp
theorem vb.put {kvs:List (List Key×V)}{prs:List (Int×Int)}{ts:List Tie}(c:vb kvs prs ts)(t:Tie):∃prs',vb (putK kvs (kk (t.1,t.2.1)) (.int (cnt ts t.1 t.2.1+1))) prs' (ts++[t]):=by
 have hv:∀q,cW (putK kvs (kk (t.1,t.2.1)) (.int (cnt ts t.1 t.2.1+1))) (kk q)=if cnt (ts++[t]) q.1 q.2=0 then none else some (.int (cnt (ts++[t]) q.1 q.2)):=λq=>by
  rw[vU]
  by_cases e:kk q=kk (t.1,t.2.1)
  ·have:=rS e
   subst this
   have e1:cnt (ts++[t]) t.1 t.2.1=cnt ts t.1 t.2.1+1:=by rw[qk,if_pos ⟨rfl,rfl⟩]
   rw[if_pos (by rfl)]
   show _=if cnt (ts++[t]) t.1 t.2.1=0 then none else some (V.int (cnt (ts++[t]) t.1 t.2.1))
   rw[e1,if_neg (by omega)];rfl
  ·have e1:cnt (ts++[t]) q.1 q.2=cnt ts q.1 q.2:=by rw[qk,if_neg (λz=>e (by rw[z.1,z.2])),Jr]
   rw[if_neg e,e1]
   exact c.val q
 have hn:=AA (kk (t.1,t.2.1)) (.int (cnt ts t.1 t.2.1+1)) (kvs:=kvs) (by rw[c.keys];exact (CI.mpr (c.nd.imp λh z=>h (rS z))))
 have hm:∀x∈(putK kvs (kk (t.1,t.2.1)) (.int (cnt ts t.1 t.2.1+1))).map (·.1),∃q,x=kk q:=λx hx=>by
  rcases yQ hx with e | e
  ·exact ⟨_,e⟩
  ·rw[c.keys] at e
   obtain ⟨p,_,e⟩:=Ce.mp e
   exact ⟨p,e.symm⟩
 have un:∀l:List (List Key),(∀x∈l,∃q,x=kk q)->∃prs':List (Int×Int),l=prs'.map kk:=by
  intro l
  induction l with
  | nil=>exact λ_=>⟨[],rfl⟩
  | cons x l ih =>
   intro h
   obtain ⟨q,e⟩:=h x B1
   obtain ⟨ps,e2⟩:=ih λy hy=>h y (B9 _ hy)
   exact ⟨q :: ps,by rw[e,e2];rfl⟩
 obtain ⟨prs',e⟩:=un _ hm
 refine ⟨prs',e,?_,?_,hv⟩
 ·rw[e] at hn
  exact (CI.mp hn).imp λh z=>h (by rw[z])
 ·have:=gc kvs (kk (t.1,t.2.1)) (.int (cnt ts t.1 t.2.1+1))
  have:=c.len
  rw[BU,Df]
  omega
@[irreducible] def iI (K:BM):Sp:=λvs H Q _=>∃(l:Addr) (ks:List (Addr×Tie)),vs=[.ref l]/\eV K H l ks/\ks.length<=1000/\∀(p:Addr) (H':Hp) (ps:List (Addr×Int×Int)),aB H H'->H' p=some (.lst (ps.map λk =>.ref k.1))->(∀k∈ps,SqT K H' k.1 [.int k.2.1,.int k.2.2])->(ps.map (·.2)).Nodup->(∀a b,(a,b)∈ps.map (·.2)↔a<b/\2<cnt (ks.map (·.2)) a b)->Q (.ref p) H'
theorem dW {K:BM}{vs:List V}{H:Hp}{Q:VK}{E:XK}:iI K vs H Q E↔∃(l:Addr) (ks:List (Addr×Tie)),vs=[.ref l]/\eV K H l ks/\ks.length<=1000/\∀(p:Addr) (H':Hp) (ps:List (Addr×Int×Int)),aB H H'->H' p=some (.lst (ps.map λk =>.ref k.1))->(∀k∈ps,SqT K H' k.1 [.int k.2.1,.int k.2.2])->(ps.map (·.2)).Nodup->(∀a b,(a,b)∈ps.map (·.2)↔a<b/\2<cnt (ks.map (·.2)) a b)->Q (.ref p) H':=by
 delta iI
 exact Eg
section
variable  {P:B7}{w:CJ}{K:BM}{mg:Str->Option BP}{base:Heap}{f T:Addr}{fd:CT}
theorem dX:aV ["ties", "counts", "tie", "pair"] ["ties"] (aA ft):=⟨rfl,rfl,rfl,by decide +kernel,rfl,by decide +kernel,by decide +kernel⟩
theorem eX:(["pair", "counts"]:List Str).Nodup:=by decide +kernel
theorem ql (F:Fun K "full_pairs" "full_pairs" ft f fd)(B:Blt mg):bS P w K mg base CX0 1 f fd ["ties"] (iI K):=by
 refine F.ok dX (λvs H Q E h =>?_) (λcdv A outer s H vs Q E hr h =>?_)
 ·obtain ⟨_,_,rfl,_⟩:=dW.mp h
  rfl
 obtain ⟨l,ks,rfl,hl,lz,q⟩:=dW.mp h
 have hu:(gW CX0 P w K mg base ["ties", "counts", "tie", "pair"] "full_pairs" (aA ft) f cdv A outer s H E).nox.A.units+1<cLine:=Bf hr
 refine ⟨_,(@aj _ _ _ _ _ (@aU _ _ 1 _ _ _ _ dX.nd rfl (Or.inr rfl) vY rfl (by first | exact .inl rfl | exact .inr rfl | assumption))
  (@aj _ _ _ _ _ (@fe _ _ _ _ _ _ _ _ D8 rfl (@cq _ _ _ _ (pv 0)) (aS (i:=2) dX.nd rfl (Or.inl rfl))
   (@aj _ _ _ _ _ (@aU _ _ 3 _ _ _ _ dX.nd rfl (Or.inl rfl) (@aP _ _ _ _ _ (@aa _ _ _ _ _ (@aG _ _ _ _ _ _ _ aM (pv 2) ai (λ_ _=>rfl)) (@aa _ _ _ _ _ (@aG _ _ _ _ _ _ _ aM (pv 2) ai (λ_ _=>rfl)) ag rfl) rfl)) rfl (by first | exact .inl rfl | exact .inr rfl | assumption))
   (@aq _ _ _ (yg hu (pv 1) (pv 3) (@bC _ _ _ _ _ _ _ _ eB (vZ hu (pv 1) (pv 3) ai ⟨rfl,rfl,rfl,rfl⟩) ai) rfl))) (λ_=>rfl))
  (@aq _ _ _ (@aL _ _ _ _ (cy ["pair", "counts"] [none,some 1] rfl (wO (pv 1)) rfl (λ_ _ _ _ _=>(aS (i:=0) eX rfl (Or.inl rfl))) (λ_ _ _ _ _=>(dt (PW.pt (nJ (aJ vz (@aG _ _ _ _ _ _ _ (cf (K:=K)) (pv 0) ai (λ_ _=>rfl)) (@aG _ _ _ _ _ _ _ (cf (K:=K)) (pv 0) ai (λ_ _=>rfl)) (aH _)) (jY (aJ sr (yf hu (pv 1) (pv 0) (λ_ _=>rfl)) ai (aH _))))))) (λ_ _ _ _ _=>(pv 0))))))),?_⟩
 intro d hd
 have s0:aB H (upd H d (.dT [])):=ae hd _
 refine ⟨_,rfl,l,rfl,⟨_,ah s0 hl.1⟩,sh (xs:=ks.map λk:Addr×Tie=>V.ref k.1) (λi σ H'=>∃kvs prs c2 c3,σ=[some (.ref l),some (.ref d),c2,c3]/\H' d=some (.dT kvs)/\aB H H'/\vb kvs prs ((ks.map (·.2)).take i)) ⟨[],[],_,_,rfl,af,s0,rfl,J0,BV _,λq=>rfl⟩ (λi σ H' _ ⟨_,_,_,_,_,_,s,_⟩=>ah s hl.1) ?_ ?_⟩
 ·rintro i x σ H' hx ⟨kvs,prs,c2,c3,rfl,ed,s,cn⟩
  rw[CA] at hx
  cases ek:ks[i]? with
  | none=>rw[ek] at hx;cases hx
  | some k =>
   rw[ek] at hx
   cases hx
   have hk:=Cy ek
   obtain ⟨b,h1,h2⟩:=fQ (aE s (hl.2 k hk))
   have et:(ks.map (·.2)).take (i+1)=(ks.map (·.2)).take i++[k.2]:=by rw[DA,CA,ek];rfl
   refine ⟨_,rfl,k.1,_,0,_,rfl,rfl,h1,rfl,_,rfl,k.1,_,1,_,rfl,rfl,h1,rfl,bR,λpb nb =>?_⟩
   have sb:=ae nb (.tup [.int k.2.1,.int k.2.2.1])
   have eb:(upd H' pb (.tup [.int k.2.1,.int k.2.2.1])) pb=some (.tup ((kk (k.2.1,k.2.2.1)).map kV)):=af
   generalize upd H' pb (.tup [.int k.2.1,.int k.2.2.1])=H2 at sb eb
   have ed2:=sb _ _ ed
   have lk:kvs.length<Ca:=CG cn.len (CG (Cq (FD _ _) (Cq (FF (Cg.mp ek).1) lz)) (by decide:(1000:Nat)<Ca))
   obtain ⟨prs',cn'⟩:=cn.put k.2
   rw[<- et] at cn'
   have hD:H d=none:=hd
   refine ⟨_,rfl,d,rfl,.inr ⟨kvs,.inl ed2⟩,_,rfl,_,kR.t ed2 eb,?_⟩
   rw[cn.val]
   have eo:((if cnt ((ks.map (·.2)).take i) k.2.1 k.2.2.1=0 then none else some (V.int (cnt ((ks.map (·.2)).take i) k.2.1 k.2.2.1))).getD (V.int 0)) = .int (cnt ((ks.map (·.2)).take i) k.2.1 k.2.2.1):=by
    by_cases z:cnt ((ks.map (·.2)).take i) k.2.1 k.2.2.1=0
    ·rw[if_pos z,z];rfl
    ·rw[if_neg z];rfl
   rw[eo]
   refine ⟨_,_,rfl,rfl,_,rfl,_,rfl,d,_,rfl,vW.t ed2 eb lk,_,prs',_,_,rfl,af,λa o e =>?_,cn'⟩
   rw[ax (aF e hD)]
   exact (s.trans sb) _ _ e
 ·rintro σ H' ⟨kvs,prs,c2,c3,rfl,ed,s,cn⟩
  rw[BQ,CP (by rw[BQ];exact BV _)] at cn
  have hm:∀(i:Nat) (kv:List Key×V),kvs[i]? = some kv->∃pr:Int×Int,prs[i]? = some pr/\kv.1=kk pr:=λi kv e=>by
   have:=congrArg (λz=>z[i]?) cn.keys
   rw[CA,CA,e] at this
   cases ep:prs[i]? with
   | none=>rw[ep] at this;cases this
   | some pr=>rw[ep] at this;exact ⟨pr,rfl,Cv this⟩
  have lp:prs.length=kvs.length:=by have:=congrArg List.length cn.keys;simpa using this.symm
  have lk:kvs.length<=1000:=Cq cn.len (by rw[BQ];exact lz)
  refine ⟨_,rfl,d,kvs,rfl,ed,λob =>?_⟩
  have sF:aB H (upd H' d (.frz ob (.dT kvs))):=λa o e=>by rw[ax (aF e hd)];exact s _ _ e
  have eF:(upd H' d (.frz ob (.dT kvs))) d=some (.frz ob (.dT kvs)):=af
  generalize upd H' d (.frz ob (.dT kvs))=H2 at sF eF
  refine qc (λi ys H3=>H3=H2/\∃ps:List (Addr×Int×Int),ys=ps.map (λk=>V.ref k.1)/\(∀k∈ps,SqT K H2 k.1 [.int k.2.1,.int k.2.2])/\ps.map (·.2)=(prs.take i).filter λq=>decide (q.1<q.2) && decide (2<cnt (ks.map (·.2)) q.1 q.2)) ⟨rfl,[],rfl,λk hk=>(by cases hk),rfl⟩ (small lk) (λi ys H3 _ z=>by rw[z.1];exact eF) ?_ ?_
  ·rintro i b kv ys H3 hkv hb _ ⟨rfl,ps,rfl,hps,eps⟩ R1 R0 r1 r0
   obtain ⟨pr,epr,ekv⟩:=hm i kv hkv
   rw[ekv] at hb
   have hb2:SqT K H3 b [.int pr.1,.int pr.2]:=SqT.of hb
   have et:prs.take (i+1)=prs.take i++[pr]:=by rw[DA,epr];rfl
   have c0:cnt (ks.map (·.2)) pr.1 pr.2≠0:=(cn.mem pr).mp (Cy epr)
   have no:∀c:Bool,(decide (pr.1<pr.2) && decide (2<cnt (ks.map (·.2)) pr.1 pr.2))=false->R0 H3:=λ_ c=>r0 _ ⟨rfl,ps,rfl,hps,by rw[et,Di,eps];simp[List.filter,c]⟩
   refine ⟨_,rfl,b,_,0,_,rfl,rfl,hb2,rfl,_,rfl,b,_,1,_,rfl,rfl,hb2,rfl,_,_,rfl,rfl,_,rfl,?_⟩
   by_cases c1:pr.1<pr.2
   ·rw[decide_eq_true c1]
    refine bN ⟨_,rfl,_,rfl,d,.int (cnt (ks.map (·.2)) pr.1 pr.2),rfl,?_,?_⟩
    ·have:=kR.tF eF hb
     rw[cn.val,if_neg c0] at this
     exact this
    refine ⟨_,_,rfl,rfl,_,rfl,?_⟩
    by_cases c2:2<cnt (ks.map (·.2)) pr.1 pr.2
    ·rw[decide_eq_true (show ((cnt (ks.map (·.2)) pr.1 pr.2:Nat):Int)>2 by omega)]
     refine bN ⟨_,rfl,r1 _ _ ⟨rfl,ps++[(b,pr)],by rw[B4];rfl,λk hk =>?_,?_⟩⟩
     ·rcases B5.mp hk with hk | hk
      ·exact hps k hk
      ·rw[Ck.mp hk];exact hb2
     ·rw[et,Di,B4,eps]
      simp[List.filter,c1,c2]
    ·rw[decide_eq_false (show ¬ ((cnt (ks.map (·.2)) pr.1 pr.2:Nat):Int)>2 by omega)]
     exact bK (no true (by rw[decide_eq_false c2,Ho]))
   ·rw[decide_eq_false c1]
    exact bK (bK (no true (by rw[decide_eq_false c1,IA])))
  ·rintro ys H3 _ ⟨rfl,ps,rfl,hps,eps⟩ p np
   rw[CP (by omega)] at eps
   have sp:=ae np (.lst (ps.map λk=>V.ref k.1))
   refine q p _ ps (sF.trans sp) af (λk hk=>ah sp (hps k hk)) (by rw[eps];exact cn.nd.filter _) λa b =>?_
   rw[eps,Co,cn.mem]
   simp only[CQ,decide_eq_true_eq]
   omega
end
open PySem L2
open Srt
theorem iJ (k:Int):∀ps:List Int,inV (.int k) (ps.map V.int)=decide (k∈ps)
 | []=>by simp[inV]
 | p :: ps=>by
  have ih:=iJ k ps
  unfold inV at ih ⊢
  rw[Ci,ED,ih]
  have e:eqV (.int p) (.int k)=(p == k):=rfl
  rw[e]
  by_cases h:p=k
  ·subst h;simp
  ·rw[beq_eq_false_iff_ne.mpr h,IZ]
   apply decide_eq_decide.mpr
   rw[Cw]
   exact ⟨.inr,λx=>x.elim (λy=>absurd y.symm h) id⟩
theorem nA (ps:List Int):(ps.map V.int).all ik=true:=by
 rw[List.all_map]
 exact EB.mpr λ_ _=>rfl
def eL (s:Sta):List Stp:=s.lf.filterMap λx=>(word s.ts x).map λw=>Stp.one w x
def pairsOf (s:Sta):List Stp:=s.lf.flatMap λa=>(s.lf.filter λb=>decide (a<b) && decide (2<cnt s.ts a b)).map λb=>Stp.two a b
def raw (s:Sta):List Stp:=eL s++pairsOf s
def leS (a b:Stp):Bool := !HT.lexLt (bz b.cs) (bz a.cs)
def cZ (s:Sta):List Stp:=(raw s).mergeSort leS
theorem vd (a b c:Stp)(h1:leS a b=true)(h2:leS b c=true):leS a c=true:=by
 unfold leS at *
 rw[D4] at *
 cases h:HT.lexLt (bz c.cs) (bz a.cs) with
 | false=>rfl
 | true =>
  rcases nW _ (bz b.cs) _ h with z | z
  ·rw[z] at h2;cases h2
  ·rw[z] at h1;cases h1
theorem ve (a b:Stp):(leS a b || leS b a)=true:=by
 unfold leS
 cases h:HT.lexLt (bz b.cs) (bz a.cs) with
 | false=>simp
 | true =>
  cases h2:HT.lexLt (bz a.cs) (bz b.cs) with
  | false=>simp
  | true=>have:=lex_trans _ _ _ h h2;rw[lex_irrefl] at this;cases this
theorem xb:∀a b:Stp,mY a.cs b.cs
 | .one _ _,.one _ _=>⟨rfl,rfl,trivial⟩
 | .one _ _,.two _ _=>⟨rfl,rfl,trivial⟩
 | .two _ _,.one _ _=>⟨rfl,rfl,trivial⟩
 | .two _ _,.two _ _=>⟨rfl,rfl,rfl,trivial⟩
theorem rT:∀{a b:Stp},a.cs=b.cs->a=b
 | .one w x,.one v y,h=>by
  simp only[Stp.cs,Fe,Cell.s.injEq,Cell.i.injEq,and_true] at h
  rw[h.1,h.2]
 | .one w x,.two y z,h=>by simp[Stp.cs] at h
 | .two y z,.one w x,h=>by simp[Stp.cs] at h
 | .two w x,.two v y,h=>by
  simp only[Stp.cs,Fe,Cell.i.injEq,and_true,true_and] at h
  rw[h.1,h.2]
theorem lD {l:List Stp}{s:Sta}(p:l.Perm (raw s))(o:l.Pairwise λa b=>HT.lexLt (bz b.cs) (bz a.cs)=false):l=cZ s:=by
 refine dS (λt:Stp=>bz t.cs) (p.trans (Dy _ leS).symm) (λa _ b _ h=>rT (gm (xb a b) h)) o ?_
 refine (EV vd ve (raw s)).imp λ{a b} h =>?_
 unfold leS at h
 rwa [D4] at h
theorem nB {s:Sta}{t:Stp}:t∈cZ s↔t∈raw s:=(Dy _ leS).mem_iff
theorem xc:Alike (λcs=>∃t:Stp,cs=t.cs):=⟨λa b ⟨t,e1⟩ ⟨u,e2⟩=>by subst e1 e2;exact xb t u,.inr λa ⟨t,e⟩=>by subst e;cases t <;> exact ⟨_,rfl⟩⟩
structure Wf (s:Sta):Prop extends Sml s where
 nd:s.lf.Nodup
 ends:∀t∈s.ts,t.1∈s.lf/\t.2.1∈s.lf
theorem xf {ts:List Tie}{a b:Int}(h:0<cnt ts a b):∃t∈ts,t.1=a/\t.2.1=b:=by
 unfold cnt at h
 obtain ⟨t,ht⟩:=List.exists_mem_of_length_pos h
 have:=Co.mp ht
 exact ⟨t,this.1,of_decide_eq_true this.2⟩
theorem eY {s:Sta}(W:Wf s){a b:Int}:Stp.two a b∈pairsOf s↔a<b/\2<cnt s.ts a b:=by
 unfold pairsOf
 rw[JG]
 constructor
 ·rintro ⟨x,hx,h⟩
  obtain ⟨y,hy,e⟩:=Ce.mp h
  cases e
  have:=(Co.mp hy).2
  rw[CQ,decide_eq_true_iff,decide_eq_true_iff] at this
  exact this
 ·intro h
  obtain ⟨t,ht,e1,e2⟩:=xf (show 0<cnt s.ts a b by omega)
  obtain ⟨m1,m2⟩:=W.ends t ht
  rw[e1] at m1
  rw[e2] at m2
  exact ⟨a,m1,Ce.mpr ⟨b,Co.mpr ⟨m2,by rw[CQ,decide_eq_true_iff,decide_eq_true_iff];exact h⟩,rfl⟩⟩
theorem gG {s:Sta}{t:Stp}(h:t∈pairsOf s):∃a b,t = .two a b:=by
 unfold pairsOf at h
 obtain ⟨x,hx,h⟩:=JG.mp h
 obtain ⟨y,hy,e⟩:=Ce.mp h
 exact ⟨x,y,e.symm⟩
theorem xg {s:Sta}(W:Wf s):(pairsOf s).Nodup:=by
 unfold pairsOf
 refine List.pairwise_flatMap.mpr ⟨λa _ =>?_,W.nd.imp λ{a b} n x hx y hy =>?_⟩
 ·exact CI.mpr ((W.nd.filter _).imp λh z=>h (by cases z;rfl))
 ·obtain ⟨c,_,rfl⟩:=Ce.mp hx
  obtain ⟨d,_,rfl⟩:=Ce.mp hy
  exact λz=>n (by cases z;rfl)
theorem rV {s:Sta}(W:Wf s){l:List (Int×Int)}(n:l.Nodup)(m:∀a b,(a,b)∈l↔a<b/\2<cnt s.ts a b):(l.map λq=>Stp.two q.1 q.2).Perm (pairsOf s):=by
 refine (List.perm_ext_iff_of_nodup ?_ (xg W)).mpr λt =>?_
 ·exact CI.mpr (n.imp λ{p q} h z=>h (by obtain ⟨p1,p2⟩:=p;obtain ⟨q1,q2⟩:=q;cases z;rfl))
 ·constructor
  ·intro h
   obtain ⟨⟨a,b⟩,hq,rfl⟩:=Ce.mp h
   exact (eY W).mpr ((m a b).mp hq)
  ·intro h
   obtain ⟨a,b,rfl⟩:=gG h
   exact Ce.mpr ⟨(a,b),(m a b).mpr ((eY W).mp h),rfl⟩
theorem lE {s:Sta}{w:Str}{x:Int}:Stp.one w x∈eL s↔x∈s.lf/\word s.ts x=some w:=by
 unfold eL
 rw[E5]
 constructor
 ·rintro ⟨y,hy,e⟩
  cases h:word s.ts y with
  | none=>rw[h] at e;cases e
  | some v=>rw[h] at e;cases e;exact ⟨hy,h⟩
 ·rintro ⟨h1,h2⟩
  exact ⟨x,h1,by rw[h2];rfl⟩
theorem qm {s:Sta}{t:Stp}(h:t∈eL s):∃w x,t = .one w x:=by
 unfold eL at h
 obtain ⟨y,hy,e⟩:=E5.mp h
 cases h:word s.ts y with
 | none=>rw[h] at e;cases e
 | some v=>rw[h] at e;cases e;exact ⟨_,_,rfl⟩
theorem yX (ws:List (Option Str×Int)):∀lf:List Int,∀f:Int->Option Str,ws=lf.map (λx=>(f x,x))->lf.filterMap (λx=>(f x).map λw=>Stp.one w x)=(ws.filter λb=>b.1.isSome).map λb=>Stp.one (b.1.getD "") b.2:=by
 intro lf f e
 subst e
 induction lf with
 | nil=>rfl
 | cons x lf ih =>
  rw[Ci,Dw]
  cases h:f x with
  | none =>
   rw[DX (by simp)]
   exact ih
  | some w =>
   rw[DB (by simp),Ci, <- ih]
   rfl
theorem tQ {s:Sta}(W:Wf s):(raw s).length<=200000:=by
 unfold raw eL pairsOf
 have h1:(s.lf.filterMap λx=>(word s.ts x).map λw=>Stp.one w x).length<=s.lf.length:=HD _ _
 have h2:∀l:List Int,(l.flatMap λa=>(s.lf.filter λb=>decide (a<b) && decide (2<cnt s.ts a b)).map λb=>Stp.two a b).length<=l.length*s.lf.length:=by
  intro l
  induction l with
  | nil=>exact CC _
  | cons a l ih =>
   rw[HC,BU,BQ,B3,Nat.succ_mul]
   have:=Dm (λb=>decide (a<b) && decide (2<cnt s.ts a b)) s.lf
   omega
 have h3:=h2 s.lf
 have h4:=W.lf
 have h5:s.lf.length*s.lf.length<=400*400:=Kb h4 h4
 rw[BU]
 omega
theorem big {n:Nat}(h:n<=400000):n<=Ca:=Cq h (by decide)
@[irreducible] def ki (K:BM):Sp:=λvs H Q _=>∃(p:Addr) (s:Sta),vs=[.ref p]/\StA K H p s/\Wf s/\∀(l:Addr) (H':Hp) (os:List (Addr×Stp)),aB H H'->H l=none->H' l=some (.lst (os.map λk =>.ref k.1))->(∀k∈os,RowC K H' k.1 k.2.cs)->os.map (·.2)=cZ s->Q (.ref l) H'
theorem dY {K:BM}{vs:List V}{H:Hp}{Q:VK}{E:XK}:ki K vs H Q E↔∃(p:Addr) (s:Sta),vs=[.ref p]/\StA K H p s/\Wf s/\∀(l:Addr) (H':Hp) (os:List (Addr×Stp)),aB H H'->H l=none->H' l=some (.lst (os.map λk =>.ref k.1))->(∀k∈os,RowC K H' k.1 k.2.cs)->os.map (·.2)=cZ s->Q (.ref l) H':=by
 delta ki
 exact Eg
section
variable  {P:B7}{w:CJ}{K:BM}{mg:Str->Option BP}{base:Heap}{f T:Addr}{fd:CT}
theorem hX:aV ["state", "words", "steps"] ["state"] (aA i4):=⟨rfl,rfl,rfl,by decide +kernel,rfl,by decide +kernel,by decide +kernel⟩
theorem fF:(["place", "state"]:List Str).Nodup:=by decide +kernel
theorem jT:(["step"]:List Str).Nodup:=by decide +kernel
theorem jU:(["pair"]:List Str).Nodup:=by decide +kernel
theorem rW (F:Fun K "steps_now" "steps_now" i4 f fd)(B:Blt mg)(cPlaceWord:Cal P w K mg base 3 "place_word" ["ties", "place"] (lB K))(cFullPairs:Cal P w K mg base 1 "full_pairs" ["ties"] (iI K)):bS P w K mg base CX0 4 f fd ["state"] (ki K):=by
 refine F.ok hX (λvs H Q E h =>?_) (λcdv A outer s H vs Q E hr h =>?_)
 ·obtain ⟨_,_,rfl,_⟩:=dY.mp h
  rfl
 obtain ⟨p,z,rfl,hs,W,q⟩:=dY.mp h
 refine ⟨_,(@aj _ _ _ _ _ (cB (i:=1) ["place", "state"] [none,some 0] rfl hX.nd rfl rfl (@cq _ _ _ _ (@aG _ _ _ _ _ _ _ aM (pv 0) ai (λ_ _=>rfl))) rfl (λ_ _ _ _ _=>(aS (i:=0) fF rfl (Or.inl rfl))) (λ_ _ _ _ _=>eC) (λ_ _ _ _ _=>(@aP _ _ _ _ _ (@aa _ _ _ _ _ (aN cPlaceWord hr (by decide) rfl (@aa _ _ _ _ _ (@aG _ _ _ _ _ _ _ (cf (K:=K)) (pv 1) ai (λ_ _=>rfl)) (@aa _ _ _ _ _ (pv 0) ag rfl) rfl)) (@aa _ _ _ _ _ (pv 0) ag rfl) rfl))))
  (@aj _ _ _ _ _ (cB (i:=2) ["step"] [none] rfl hX.nd rfl rfl (@j6 _ _ _ _ (pv 1)) rfl (λ_ _ _ _ _=>(aS (i:=0) jT rfl (Or.inl rfl))) (λ_ _ _ _ _=>(dt (aJ xH (@aG _ _ _ _ _ _ _ (cf (K:=K)) (pv 0) ai (λ_ _=>rfl)) vn (aH _)))) (λ_ _ _ _ _=>(pv 0)))
  (@aq _ _ _ (@aL _ _ _ _ (ak (cv (hu8 hr)) rfl B.b_sorted cj (@aa _ _ _ _ _ (@bC _ _ _ _ _ _ _ _ j7 (pv 2) (cy ["pair"] [none] rfl (@j6 _ _ _ _ (aN cFullPairs hr (by decide) rfl (@aa _ _ _ _ _ (@aG _ _ _ _ _ _ _ aM (pv 0) ai (λ_ _=>rfl)) ag rfl))) rfl (λ_ _ _ _ _=>(aS (i:=0) jU rfl (Or.inl rfl))) (λ_ _ _ _ _=>eC) (λ_ _ _ _ _=>(@aP _ _ _ _ _ (@aa _ _ _ _ _ bU (@aa _ _ _ _ _ (@aG _ _ _ _ _ _ _ (cf (K:=K)) (pv 0) ai (λ_ _=>rfl)) (@aa _ _ _ _ _ (@aG _ _ _ _ _ _ _ (cf (K:=K)) (pv 0) ai (λ_ _=>rfl)) ag rfl) rfl) rfl))))) ag rfl)))))),?_⟩
 obtain ⟨a,b,c,ks,h1,h2,h3,h4,h5⟩:=hs
 have lk:ks.length<=400:=by have:=W.ts;rw[<- h4,BQ] at this;exact this
 have ll:=W.lf
 refine ⟨_,rfl,p,_,0,_,rfl,rfl,h1,rfl,a,rfl,⟨_,h2⟩,k9 (λH p (u:Option Str×Int)=>SqT K H p [m9 u.1,.int u.2]) (λH1 H2 p b s h=>ah s h) (λi:Int=>V.int i) (λx=>(word z.ts x,x)) (λ_=>true) z.lf h2 (small (by omega)) (λu hm H3 s3 R r=>r H3 (aB.refl _)) (λx hm _ H3 s3 R rr =>?e) λH3 us la s3 ru eu na =>?c⟩
 case e =>
  refine ⟨_,rfl,p,_,1,_,rfl,rfl,ah s3 h1,rfl,_,rfl,fD.mpr ⟨b,ks,x,rfl,h3.same s3,by omega,λH4 s4 =>?_⟩⟩
  rw[h4]
  exact ⟨_,rfl,bR,λpt nt=>rr pt _ (s4.trans (ae nt _)) (SqT.of af)⟩
 case c =>
  rw[EU.mpr (λ_ _=>rfl)] at eu
  have lu:us.length<=400:=by have:=congrArg List.length eu;simp only[BQ] at this;omega
  have hl0:H la=none:=by
   cases e:H la with
   | none=>rfl
   | some o=>rw[s3 _ _ e] at na;cases na
  have s4:=s3.trans (ae na (.lst (us.map λk=>V.ref k.1)))
  have ru4:∀k∈us,SqT K (upd H3 la (.lst (us.map λk=>V.ref k.1))) k.1 [m9 k.2.1,.int k.2.2]:=λk hk=>ah (ae na _) (ru k hk)
  have el:(upd H3 la (.lst (us.map λk=>V.ref k.1))) la=_:=af
  generalize upd H3 la (.lst (us.map λk=>V.ref k.1))=H4 at s4 ru4 el
  refine ⟨_,rfl,la,rfl,⟨_,SqL.of el⟩,k8 (λk:Addr×Option Str×Int=>V.ref k.1) (λk=>V.ref k.1) (λk=>k.2.1.isSome) us (SqL.of el) (small (by omega)) (λk hk R r=>⟨_,rfl,k.1,_,0,_,rfl,rfl,ru4 k hk,rfl,rfl,_,rfl,?t⟩) (λk hk _ R r=>⟨_,rfl,r⟩) λlb nb =>?d⟩
  case t =>
   cases e:k.2.1 with
   | none=>rw[e] at r;exact r
   | some w=>rw[e] at r;exact r
  case d =>
  obtain ⟨vs,evs⟩:∃vs:List (Addr×Stp),vs=(us.filter λk=>k.2.1.isSome).map λk=>(k.1,Stp.one (k.2.1.getD "") k.2.2):=⟨_,rfl⟩
  have ev1:((us.filter λk=>k.2.1.isSome).map λk=>V.ref k.1)=vs.map λk=>V.ref k.1:=by rw[evs,Cs];rfl
  have ev2:vs.map (·.2)=eL z:=by
   have:=yX (us.map (·.2)) z.lf (word z.ts) eu
   unfold eL
   rw[this,evs,DW,Cs,Cs];rfl
  rw[ev1]
  have s5:=s4.trans (ae nb (.lst (vs.map λk=>V.ref k.1)))
  have rv:∀k∈vs,RowC K (upd H4 lb (.lst (vs.map λk=>V.ref k.1))) k.1 k.2.cs:=λk hk=>by
   rw[evs] at hk
   obtain ⟨k1,hk1,rfl⟩:=Ce.mp hk
   obtain ⟨m1,m2⟩:=Co.mp hk1
   have:=ah (ae nb (.lst (vs.map λk=>V.ref k.1))) (ru4 k1 m1)
   obtain ⟨a1,o1,x1⟩:=k1
   cases o1 with
   | none=>cases m2
   | some w=>exact ⟨_,this,rfl,rfl,trivial⟩
  have eb:(upd H4 lb (.lst (vs.map λk=>V.ref k.1))) lb=_:=af
  generalize upd H4 lb (.lst (vs.map λk=>V.ref k.1))=H5 at s5 rv eb
  have lv:vs.length<=400:=by
   rw[evs,BQ]
   exact Cq (Dm _ _) lu
  refine ⟨_,rfl,_,rfl,p,_,1,_,rfl,rfl,ah s5 h1,rfl,dW.mpr ⟨b,ks,rfl,h3.same s5,by omega,λlp H6 ps s6 ep rp np mp =>?_⟩⟩
  rw[h4] at mp
  have pp:=rV W np mp
  have lps:ps.length<=200000:=by
   have e1:=pp.length_eq
   have e2:=tQ W
   unfold raw at e2
   rw[BU] at e2
   rw[BQ,BQ] at e1
   omega
  refine ⟨lp,rfl,⟨_,SqL.of ep⟩,rJ (λH p (u:Stp)=>RowC K H p u.cs) (λH1 H2 p b s h=>aE s h) (λu:Addr×Int×Int=>V.ref u.1) (λu=>Stp.two u.2.1 u.2.2) (λ_=>true) ps (SqL.of ep) (big (by omega)) (λu hm H3 s3 R r=>r H3 (aB.refl _)) (λu hm _ H7 s7 R rr =>?f) λH7 ts lt s7 rt et nt =>?g⟩
  case f =>
   have hu:=ah s7 (rp u hm)
   exact ⟨_,rfl,u.1,_,0,_,rfl,rfl,hu,rfl,_,rfl,u.1,_,1,_,rfl,rfl,hu,rfl,bL,λp1 n1=>rr p1 _ (ae n1 _) ⟨_,SqT.of af,rfl,rfl,rfl,trivial⟩⟩
  case g =>
  rw[EU.mpr (λ_ _=>rfl)] at et
  have s8:=((s5.trans s6).trans s7).trans (ae nt (.lst (ts.map λk=>V.ref k.1)))
  have s58:=(s6.trans s7).trans (ae nt (.lst (ts.map λk=>V.ref k.1)))
  have s78:=ae nt (.lst (ts.map λk=>V.ref k.1))
  have e8:(upd H7 lt (.lst (ts.map λk=>V.ref k.1))) lt=_:=af
  have lts:ts.length=ps.length:=by have:=congrArg List.length et;simpa using this
  generalize upd H7 lt (.lst (ts.map λk=>V.ref k.1))=H8 at s8 s58 s78 e8
  refine ⟨lb,lt,_,_,rfl,rfl,SqL.of (s58 _ _ eb),SqL.of e8,big (by rw[BQ,BQ];omega),λpl nl =>?_⟩
  rw[<- B4]
  have s9:=s8.trans (ae nl (.lst ((vs++ts).map λk=>V.ref k.1)))
  have s89:=ae nl (.lst ((vs++ts).map λk=>V.ref k.1))
  have e9:(upd H8 pl (.lst ((vs++ts).map λk=>V.ref k.1))) pl=_:=af
  generalize upd H8 pl (.lst ((vs++ts).map λk=>V.ref k.1))=H9 at s9 s89 e9
  have r9:∀k∈vs++ts,RowC K H9 k.1 k.2.cs:=λk hk=>by
   rcases B5.mp hk with hk | hk
   ·exact aE (s58.trans s89) (rv k hk)
   ·exact aE (s78.trans s89) (rt k hk)
  refine ⟨_,pl,(vs++ts).map (λk:Addr×Stp=>(k.1,k.2.cs)),xc,rfl,.inl (by rw[Cs];exact SqL.of e9),λk hk =>?_,λls out ns pm pw =>?_⟩
  ·obtain ⟨k',hk',rfl⟩:=Ce.mp hk
   exact ⟨r9 k' hk',k'.2,rfl⟩
  obtain ⟨os,pmo,rfl⟩:=bM pm
  have hs0:H ls=none:=by
   cases e:H ls with
   | none=>rfl
   | some o=>rw[s9 _ _ e] at ns;cases ns
  refine q ls _ os (s9.trans (ae ns _)) hs0 (by rw[Cs];exact af) (λk hk=>aE (ae ns _) (r9 k (pmo.mem_iff.mp hk))) (lD ?_ ?_)
  ·unfold raw
   have e1:(vs++ts).map (·.2)=eL z++ps.map (λu=>Stp.two u.2.1 u.2.2):=by rw[B4,ev2,et]
   refine (pmo.map (·.2)).trans ?_
   rw[e1]
   refine DN _ ?_
   rw[Cs] at pp
   exact pp
  ·rw[CI] at pw ⊢
   exact pw
end
open PySem L2
open Srt
def oc (w:Str)(is:List Int):List Cell :=.s w :: is.map Cell.i
theorem qp {K:BM}{H:Hp}:∀{is:List Int} {xs:List V},cF K H xs (is.map Cell.i)->xs=is.map V.int
 | [],[],_=>rfl
 | [],_ :: _,h=>h.elim
 | _ :: _,[],h=>h.elim
 | i :: is,x :: xs,⟨a,b⟩=>by
  cases (show x=V.int i from a)
  rw[Ci, <- qp b]
theorem qr {K:BM}{H:Hp}:∀is:List Int,cF K H (is.map V.int) (is.map Cell.i)
 | []=>trivial
 | _ :: is=>⟨rfl,qr is⟩
theorem AK {K:BM}{H:Hp}{q:Addr}{w:Str}{is:List Int}(h:RowC K H q (oc w is)):SqT K H q (.str w :: is.map V.int):=by
 obtain ⟨xs,h1,h2⟩:=h
 obtain ⟨x,ys,rfl,e,h3⟩:=cF.cons h2
 cases (show x=V.str w from e)
 rw[qp h3] at h1
 exact h1
theorem xh {K:BM}{H:Hp}{q:Addr}{w:Str}{is:List Int}(h:SqT K H q (.str w :: is.map V.int)):RowC K H q (oc w is):=⟨_,h,rfl,qr is⟩
theorem BF:∀t:Stp,∃w is,t.cs=oc w is
 | .one w x=>⟨w,[x],rfl⟩
 | .two x y=>⟨"many",[x,y],rfl⟩
theorem oP {w v:Str}{is js:List Int}(h:oc w is=oc v js):w=v/\is=js:=by
 unfold oc at h
 rw[Fe,Cell.s.injEq] at h
 refine ⟨h.1,?_⟩
 have:∀as bs:List Int,as.map Cell.i=bs.map Cell.i->as=bs:=by
  intro as
  induction as with
  | nil =>
   intro bs h
   cases bs with
   | nil=>rfl
   | cons b bs=>cases h
  | cons a as ih =>
   intro bs h
   cases bs with
   | nil=>cases h
   | cons b bs =>
    rw[Ci,Ci,Fe,Cell.i.injEq] at h
    rw[h.1,ih bs h.2]
 exact this _ _ h.2
def can (s:Sta)(w:Str)(is:List Int):Bool:=decide (oc w is∈(raw s).map Stp.cs)
theorem fG {s:Sta}{t:Stp}:t∈raw s↔t∈eL s\/t∈pairsOf s:=by
 unfold raw
 exact B5
theorem yY {s:Sta}{w:Str}{x:Int}:oc w [x]∈(raw s).map Stp.cs↔x∈s.lf/\word s.ts x=some w:=by
 rw[<- lE]
 constructor
 ·intro h
  obtain ⟨t,ht,e⟩:=Ce.mp h
  rw[show t = .one w x from rT (e.trans rfl)] at ht
  rcases fG.mp ht with h | h
  ·exact h
  ·obtain ⟨a,b,e⟩:=gG h
   cases e
 ·exact λh=>Ce.mpr ⟨.one w x,fG.mpr (.inl h),rfl⟩
theorem yZ {s:Sta}(W:Wf s){w:Str}{x y:Int}:oc w [x,y]∈(raw s).map Stp.cs↔w = "many" /\ x<y/\2<cnt s.ts x y:=by
 constructor
 ·intro h
  obtain ⟨t,ht,e⟩:=Ce.mp h
  cases t with
  | one v z=>have:=(oP (w:=v) (is:=[z]) e).2;cases this
  | two a b =>
   obtain ⟨e1,e2⟩:=oP (w := "many") (is:=[a,b]) e
   cases e2
   refine ⟨e1.symm,?_⟩
   rcases fG.mp ht with h | h
   ·obtain ⟨v,z,e⟩:=qm h
    cases e
   ·exact (eY W).mp h
 ·rintro ⟨rfl,h⟩
  exact Ce.mpr ⟨.two x y,fG.mpr (.inr ((eY W).mpr h)),rfl⟩
theorem AL {s:Sta}{w:Str}{is:List Int}(h1:is.length≠1)(h2:is.length≠2):can s w is=false:=by
 refine decide_eq_false λh =>?_
 obtain ⟨t,ht,e⟩:=Ce.mp h
 cases t with
 | one v z=>have:=(oP (w:=v) (is:=[z]) e).2;subst this;exact h1 rfl
 | two a b=>have:=(oP (w := "many") (is:=[a,b]) e).2;subst this;exact h2 rfl
@[irreducible] def tR (K:BM):Sp:=λvs H Q _=>∃(p q:Addr) (s:Sta) (w:Str) (is:List Int),vs=[.ref p,.ref q]/\StA K H p s/\Wf s/\SqT K H q (.str w :: is.map V.int)/\∀H',aB H H'->Q (.bl (can s w is)) H'
theorem ji {K:BM}{vs:List V}{H:Hp}{Q:VK}{E:XK}:tR K vs H Q E↔∃(p q:Addr) (s:Sta) (w:Str) (is:List Int),vs=[.ref p,.ref q]/\StA K H p s/\Wf s/\SqT K H q (.str w :: is.map V.int)/\∀H',aB H H'->Q (.bl (can s w is)) H':=by
 delta tR
 exact Eg
section
variable  {P:B7}{w:CJ}{K:BM}{mg:Str->Option BP}{base:Heap}{f T:Addr}{fd:CT}
theorem y3:aV ["state", "step"] ["state", "step"] (aA rL):=⟨rfl,rfl,rfl,by decide +kernel,rfl,by decide +kernel,by decide +kernel⟩
theorem y6 (F:Fun K "can_do" "can_do" rL f fd)(B:Blt mg)(cPlaceWord:Cal P w K mg base 3 "place_word" ["ties", "place"] (lB K))(cFullPairs:Cal P w K mg base 1 "full_pairs" ["ties"] (iI K)):bS P w K mg base CX0 4 f fd ["state", "step"] (tR K):=by
 refine F.ok y3 (λvs H Q E h =>?_) (λcdv A outer s H vs Q E hr h =>?_)
 ·obtain ⟨_,_,_,_,_,rfl,_⟩:=ji.mp h
  rfl
 obtain ⟨p,r,z,wd,is,rfl,hs,W,hq,q⟩:=ji.mp h
 refine ⟨_,(@aj _ _ _ _ _ (@ba _ _ _ _ _ _ _ _ (aJ bp (ak aX rfl B.b_len cU (@aa _ _ _ _ _ (pv 1) ag rfl)) ai (aH _)) (@aq _ _ _ (@aL _ _ _ _ (bP (bD mC (@aG _ _ _ _ _ _ _ aM (pv 1) ai (λ_ _=>rfl)) (@aG _ _ _ _ _ _ _ aM (pv 0) ai (λ_ _=>rfl)) rfl) (cp (bD bp (@aG _ _ _ _ _ _ _ aM (pv 1) ai (λ_ _=>rfl)) (aN cPlaceWord hr (by decide) rfl (@aa _ _ _ _ _ (@aG _ _ _ _ _ _ _ aM (pv 0) ai (λ_ _=>rfl)) (@aa _ _ _ _ _ (@aG _ _ _ _ _ _ _ aM (pv 1) ai (λ_ _=>rfl)) ag rfl) rfl)) (aH _)))))) aK)
  (@aj _ _ _ _ _ (@ba _ _ _ _ _ _ _ _ (aJ bp (ak aX rfl B.b_len cU (@aa _ _ _ _ _ (pv 1) ag rfl)) ai (aH _)) (@aq _ _ _ (@aL _ _ _ _ (bP (bD bp (@aG _ _ _ _ _ _ _ aM (pv 1) ai (λ_ _=>rfl)) bU (aH _)) (cp (bD (Ax (K:=K) (hu8 hr)) (@aP _ _ _ _ _ (@aa _ _ _ _ _ (@aG _ _ _ _ _ _ _ aM (pv 1) ai (λ_ _=>rfl)) (@aa _ _ _ _ _ (@aG _ _ _ _ _ _ _ aM (pv 1) ai (λ_ _=>rfl)) ag rfl) rfl)) (aN cFullPairs hr (by decide) rfl (@aa _ _ _ _ _ (@aG _ _ _ _ _ _ _ aM (pv 0) ai (λ_ _=>rfl)) ag rfl)) rfl))))) aK)
  (@aq _ _ _ (@aL _ _ _ _ ku)))),?_⟩
 obtain ⟨a,b,c,ks,h1,h2,h3,h4,h5⟩:=hs
 have lk:ks.length<=400:=by have:=W.ts;rw[<- h4,BQ] at this;exact this
 have ln:∀n:Int,(is.length:Int)+1≠n->decide (V.int (((V.str wd :: is.map V.int).length:Nat):Int)=V.int n)=false:=λn h=>decide_eq_false λe=>h (by have:=V.int.inj e;rw[B3,BQ] at this;omega)
 refine ⟨_,rfl,r,_,rfl,.inr hq,rfl,_,rfl,?_⟩
 by_cases l1:is.length=1
 ·obtain ⟨x,rfl⟩:∃x,is=[x]:=by
   match is,l1 with
   | [x],_=>exact ⟨x,rfl⟩
  rw[decide_eq_true (by rfl)]
  refine bN ⟨_,rfl,r,_,1,_,rfl,rfl,hq,rfl,_,rfl,p,_,0,_,rfl,rfl,h1,rfl,a,_,rfl,.inr h2,rfl,nA z.lf,?_⟩
  rw[if_neg B2,iJ]
  refine ⟨_,rfl,?_⟩
  have qq:∀H',aB H H'->Q (.bl (decide (x∈z.lf/\word z.ts x=some wd))) H':=λH' s=>by
   have:=q H' s
   unfold can at this
   rwa [decide_eq_decide.mpr yY] at this
  by_cases c1:x∈z.lf
  ·rw[decide_eq_true c1]
   refine bN ⟨_,rfl,r,_,0,_,rfl,rfl,hq,rfl,_,rfl,p,_,1,_,rfl,rfl,h1,rfl,_,rfl,r,_,1,_,rfl,rfl,hq,rfl,fD.mpr ⟨b,ks,x,rfl,h3,by omega,λH1 s1 =>?_⟩⟩
   rw[h4]
   have q1:=qq H1 s1
   refine ⟨by cases word z.ts x <;> rfl,?_⟩
   rw[show decide (V.str wd=m9 (word z.ts x))=decide (x∈z.lf/\word z.ts x=some wd) from decide_eq_decide.mpr ?_]
   ·exact q1
   cases e:word z.ts x with
   | none=>exact ⟨λy=>(by cases y),λy=>(by cases y.2)⟩
   | some v=>exact ⟨λe=>⟨c1,by rw[V.str.inj e]⟩,λe=>by rw[Cv e.2];rfl⟩
  ·rw[decide_eq_false c1]
   have:=qq H (aB.refl _)
   rw[decide_eq_false (λh=>c1 h.1)] at this
   exact bK this
 ·rw[ln 2 (by omega)]
  refine bK ⟨_,rfl,r,_,rfl,.inr hq,rfl,_,rfl,?_⟩
  by_cases l2:is.length=2
  ·obtain ⟨x,y,rfl⟩:∃x y,is=[x,y]:=by
    match is,l2 with
    | [x,y],_=>exact ⟨x,y,rfl⟩
   rw[decide_eq_true (by rfl)]
   have qq:∀H',aB H H'->Q (.bl (decide (wd = "many" /\ x<y/\2<cnt z.ts x y))) H':=λH' s=>by
    have:=q H' s
    unfold can at this
    rwa [decide_eq_decide.mpr (yZ W)] at this
   refine bN ⟨_,rfl,r,_,0,_,rfl,rfl,hq,rfl,rfl,_,rfl,?_⟩
   by_cases c1:wd = "many"
   ·rw[decide_eq_true (show V.str wd=V.str "many" by rw[c1])]
    refine bN ⟨_,rfl,r,_,1,_,rfl,rfl,hq,rfl,_,rfl,r,_,2,_,rfl,rfl,hq,rfl,bR,λpt nt=>⟨_,rfl,p,_,1,_,rfl,rfl,ah (ae nt _) h1,rfl,dW.mpr ⟨b,ks,rfl,h3.same (ae nt _),by omega,λlp H1 ps s1 ep rp np mp =>?_⟩⟩⟩
    have et:=s1 _ _ (af:(upd H pt (.tup [.int x,.int y])) pt=_)
    rw[h4] at mp
    refine ⟨lp,pt,ps.map (λk:Addr×Int×Int=>(k.1,[Cell.i k.2.1,Cell.i k.2.2])),[.i x,.i y],rfl,rfl,.inl (by rw[Cs];exact SqL.of ep),λk hk =>?_,⟨_,SqT.of et,rfl,rfl,trivial⟩,?_⟩
    ·obtain ⟨k',hk',rfl⟩:=Ce.mp hk
     exact ⟨_,rp k' hk',rfl,rfl,trivial⟩
    have:=qq H1 ((ae nt _).trans s1)
    have e:decide ([Cell.i x,Cell.i y]∈(ps.map (λk:Addr×Int×Int=>(k.1,[Cell.i k.2.1,Cell.i k.2.2]))).map (·.2))=decide (wd = "many" /\ x<y/\2<cnt z.ts x y):=by
     refine decide_eq_decide.mpr ?_
     rw[and_iff_right c1, <- mp,Cs,Ce,Ce]
     constructor
     ·rintro ⟨k,hk,e⟩
      have e:[Cell.i k.2.1,Cell.i k.2.2]=[Cell.i x,Cell.i y]:=e
      simp only[Fe,Cell.i.injEq,and_true] at e
      exact ⟨k,hk,Prod.ext e.1 e.2⟩
     ·rintro ⟨k,hk,e⟩
      exact ⟨k,hk,by show [Cell.i k.2.1,Cell.i k.2.2]=_;rw[e]⟩
    rw[e]
    exact this
   ·rw[decide_eq_false (show ¬ V.str wd=V.str "many" from λe=>c1 (V.str.inj e))]
    have:=qq H (aB.refl _)
    rw[decide_eq_false (λh=>c1 h.1)] at this
    exact bK this
  ·rw[ln 3 (by omega)]
   have:=q H (aB.refl _)
   rw[AL l1 l2] at this
   exact bK this
end
open PySem L2
open Srt
def inDef:Stmt->Stmt
 | .ClassDef _ _ _ b _ _ _ _ _ _ _=>b.getD 0 (.Pass ⟨0,0,0,0⟩)
 | s=>s
abbrev hZ:Stmt:=inDef (top 2)
structure Exs (K:BM)(mg:Str->Option BP)(c_WebError c_NoStep c_NoText c_TooMany c_NotClear:Addr):Prop where
 x_WebError:mg "WebError" = some (.ref c_WebError)
 x_NoStep:mg "NoStep" = some (.ref c_NoStep)
 x_NoText:mg "NoText" = some (.ref c_NoText)
 x_TooMany:mg "TooMany" = some (.ref c_TooMany)
 x_NotClear:mg "NotClear" = some (.ref c_NotClear)
 xi_NoStep:L2.yA K c_NoStep=true
 xn_NoStep:L2.yB K c_NoStep "at" = true
 k_self:PySem.W.kitOne K (.ref c_NoStep) (.ref c_NoStep)=some true
 k_val:PySem.W.kitOne K (.ref c_NoStep) (.type "ValueError")=some true
 xm_NoStep:PySem.W.exmOne K (.ref c_NoStep) (.ref c_WebError)=some true
 xo_NoStep:PySem.W.kitAny K (.ref c_NoStep) [.ref c_NoText,.ref c_NotClear,.ref c_TooMany]=some false
 w_ga:PySem.W.specialIn K (.ref c_WebError) "__getattribute__" = some (some (.builtin "type.__getattribute__"))
 w_rd:PySem.W.readsIn K c_WebError (.type "type")=true
 w_fd:PySem.W.findCls K (.ref c_WebError) (.type "type") "__init__" = some (.val (.builtin "ValueError.__init__"))
theorem Exs.w {K:BM}{mg:Str->Option BP}{c_WebError c_NoStep c_NoText c_TooMany c_NotClear:Addr}(Z:Exs K mg c_WebError c_NoStep c_NoText c_TooMany c_NotClear):ExW K mg "WebError" c_WebError:=⟨Z.x_WebError,Z.w_ga,Z.w_rd,Z.w_fd⟩
abbrev nT (i:Int):Str:=Str.ofString (toString i)
theorem BG:(nT 0).length<=5:=by decide +kernel
theorem y7 {i:Int}(h0 : -1<=i)(h1:i<=400):shown (.int i)=some (nT i):=if_pos (CG (Nat.log2_le_self _) (by omega))
theorem shown_int:shown (.int 0)=some (nT 0):=y7 (by decide) (by decide)
theorem iK (x y:Str):(x++y).length=x.length+y.length:=by
 show (x.cps++y.cps).size=_
 rw[EM];rfl
theorem y8 {H1:Hp}{ea dx:Addr}{o1 o2 o3:HO}(h:H1 ea=none)(hd:upd H1 ea o1 dx=none)(n:dx≠ea):aB H1 (rm (upd (upd (upd H1 ea o1) dx o2) ea o3) ea)/\rm (upd (upd (upd H1 ea o1) dx o2) ea o3) ea dx=some o2:=by
 refine ⟨λb u e =>?_,?_⟩
 ·have n1:b≠ea:=aF e h
  have n2:b≠dx:=λz=>by
   rw[ax n] at hd
   rw[z,hd] at e;cases e
  rw[gR n1,ax n1,ax n2,ax n1];exact e
 ·rw[gR n,ax n,af]
@[irreducible] def qu (C:Addr):Sp:=λvs H Q E=>∃(ea:Addr),vs=[.ref ea,.int 0]/\H ea=some (cX ea C none)/\∀dx,H dx=none->dx≠ea->Q .non (upd (upd H dx (.xd [("at",.int 0)])) ea (cX ea C (some dx)))
theorem jj {C:Addr}{vs:List V}{H:Hp}{Q:VK}{E:XK}:qu C vs H Q E↔∃(ea:Addr),vs=[.ref ea,.int 0]/\H ea=some (cX ea C none)/\∀dx,H dx=none->dx≠ea->Q .non (upd (upd H dx (.xd [("at",.int 0)])) ea (cX ea C (some dx))):=by
 delta qu
 exact Eg
section
variable  {P:B7}{w:CJ}{K:BM}{mg:Str->Option BP}{base:Heap}{f:Addr}{fd:CT}{c_WebError c_NoStep c_NoText c_TooMany c_NotClear:Addr}
theorem qv:aV ["self", "at"] ["self", "at"] (aA hZ):=⟨rfl,rfl,rfl,by decide +kernel,rfl,by decide +kernel,by decide +kernel⟩
theorem qw (F:Fun K "__init__" "NoStep.__init__" hZ f fd)(Z:Exs K mg c_WebError c_NoStep c_NoText c_TooMany c_NotClear):bS P w K mg base CX0 1 f fd ["self", "at"] (qu c_NoStep):=by
 refine F.ok qv (λvs H Q E h =>?_) (λcdv A outer s H vs Q E hr h =>?_)
 ·obtain ⟨_,rfl,_⟩:=jj.mp h
  rfl
 obtain ⟨ea,rfl,he,q⟩:=jj.mp h
 obtain ⟨N,S⟩:=rg Z.xn_NoStep
 have l0:=BG
 refine ⟨_,@aj _ _ _ _ _ (cK (uP (x := "WebError") Z.w rfl (@aa _ _ _ _ _ (pv 0) (@aa _ _ _ _ _ (yS (qd bU (qd (wQ (pv 1)) yR))) ag rfl) rfl))) (@aq _ _ _ (Ap (pv 0) (pv 1) rfl)),?_⟩
 refine ⟨_,rfl,_,rfl,(by rw[iK];exact small (by decide)),_,rfl,nT 0,shown_int,small (by omega),nT 0,rfl,(by rw[iK,iK];exact Cq (Er l0 _) (small (by decide))),(by rw[iK,iK];exact Cq (Er l0 _) (small (by decide))),ea,_,none,_,rfl,he,N,(by show 1<=Ca;decide),?_⟩
 exact ⟨_,rfl,_,rfl,ea,_,rfl,he,N,S,q⟩
end
theorem xi {C:Addr}{H1:Hp}{E:XK}{ea:Addr}(be:∀dx H',aB H1 H'->H' dx=some (.xd [("at",.int 0)])->E (.ref C) (some dx) H')(he:H1 ea=none):qu C [.ref ea,.int 0] (upd H1 ea (cX ea C none)) (λv H2=>v = .non/\∃a d,V.ref ea = .ref a/\H2 a=some (cX a C d)/\E (.ref C) d (rm H2 a)) E :=
 jj.mpr ⟨ea,rfl,af,λdx hdx nx=>by
  obtain ⟨s2,ed⟩:=y8 (o1:=cX ea C none) (o2 :=.xd [("at",.int 0)]) (o3:=cX ea C (some dx)) he hdx nx
  exact ⟨rfl,ea,some dx,rfl,af,be dx _ s2 ed⟩⟩
theorem lF {ts:List Tie}{x:Int}{w:Str}(h:word ts x=some w):(w = "lone" \/ w = "loop" \/ w = "two")/\(w = "two" -> ∃u v,ts.filter (isAt x)=[u,v]/\u.1≠u.2.1/\v.1≠v.2.1):=by
 unfold word at h
 by_cases c1:(ts.filter (isAt x)).any (λt=>decide (t.1=t.2.1))=true
 ·rw[if_pos c1] at h
  cases h
  exact ⟨.inr (.inl rfl),λz=>absurd z (by decide)⟩
 rw[if_neg c1] at h
 by_cases c2:(ts.filter (isAt x)).length<=1
 ·rw[if_pos c2] at h
  cases h
  exact ⟨.inl rfl,λz=>absurd z (by decide)⟩
 rw[if_neg c2] at h
 by_cases c3:(ts.filter (isAt x)).length=2
 ·rw[if_pos c3] at h
  cases h
  refine ⟨.inr (.inr rfl),λ_ =>?_⟩
  generalize ts.filter (isAt x)=l at c1 c3
  match l,c3 with
  | [u,v],_ =>
   rw[Bool.not_eq_true,Je] at c1
   exact ⟨u,v,rfl,λe=>c1 u B1 (decide_eq_true e),λe=>c1 v (B9 _ B1) (decide_eq_true e)⟩
 ·rw[if_neg c3] at h
  cases h
theorem xj {s:Sta}{t:Stp}(h:t∈raw s):OkS s t:=by
 cases t with
 | two a b=>trivial
 | one w x =>
  rcases fG.mp h with h | h
  ·exact lF (lE.mp h).2
  ·obtain ⟨a,b,e⟩:=gG h
   cases e
@[irreducible] def lG (K:BM)(cN:Addr):Sp:=λvs H Q E=>∃(p q:Addr) (s:Sta) (wd:Str) (is:List Int),vs=[.ref p,.ref q]/\StA K H p s/\Wf s/\SqT K H q (.str wd :: is.map V.int)/\H PJ=some (.tbl psJ)/\(can s wd is=false->∀dx H',aB H H'->H' dx=some (.xd [("at",.int 0)])->E (.ref cN) (some dx) H')/\(∀st∈raw s,st.cs=oc wd is->∀(p':Addr) (H':Hp),aB H H'->StA K H' p' (behind s st)->Q (.ref p') H')
theorem fH {K:BM}{cN:Addr}{vs:List V}{H:Hp}{Q:VK}{E:XK}:lG K cN vs H Q E↔∃(p q:Addr) (s:Sta) (wd:Str) (is:List Int),vs=[.ref p,.ref q]/\StA K H p s/\Wf s/\SqT K H q (.str wd :: is.map V.int)/\H PJ=some (.tbl psJ)/\(can s wd is=false->∀dx H',aB H H'->H' dx=some (.xd [("at",.int 0)])->E (.ref cN) (some dx) H')/\(∀st∈raw s,st.cs=oc wd is->∀(p':Addr) (H':Hp),aB H H'->StA K H' p' (behind s st)->Q (.ref p') H'):=by
 delta lG
 exact Eg
section
variable  {P:B7}{w:CJ}{K:BM}{mg:Str->Option BP}{base:Heap}{f:Addr}{fd:CT}{c_WebError c_NoStep c_NoText c_TooMany c_NotClear:Addr}
theorem rX:aV ["state", "step"] ["state", "step"] (aA i8):=⟨rfl,rfl,rfl,by decide +kernel,rfl,by decide +kernel,by decide +kernel⟩
theorem rY (F:Fun K "rule_step" "rule_step" i8 f fd)(B:Blt mg)(Z:Exs K mg c_WebError c_NoStep c_NoText c_TooMany c_NotClear)(iB:Bz P w K mg base 1 c_NoStep ["self", "at"] (qu c_NoStep))(cStepDone:Cal P w K mg base 6 "step_done" ["state", "step"] (oO K))(cCanDo:Cal P w K mg base 4 "can_do" ["state", "step"] (tR K)):bS P w K mg base (CX2 P w) 7 f fd ["state", "step"] (lG K c_NoStep):=by
 refine F.okX2 rX (λvs H Q E h =>?_) (λcdv A outer s H vs Q E hr h =>?_)
 ·obtain ⟨_,_,_,_,_,rfl,_⟩:=fH.mp h
  rfl
 obtain ⟨p,r,z,wd,is,rfl,hs,W,hq,hP,no,yes⟩:=fH.mp h
 obtain ⟨fB,fdB,MB,FB,bB⟩:=iB.ex
 refine ⟨_,(@aj _ _ _ _ _ (@ba _ _ _ _ _ _ _ _ (dF (bV (aN cCanDo hr (by decide) rfl (@aa _ _ _ _ _ (pv 0) (@aa _ _ _ _ _ (pv 1) ag rfl) rfl)))) (@aq _ _ _ (uS (x := "NoStep") Bx MB (oq Z.xi_NoStep).1.sb (oq Z.xi_NoStep).2.2 FB (hr.mono (by decide)) rfl Z.x_NoStep bB Bq (@aa _ _ _ _ _ ai ag rfl))) aK)
  (@aq _ _ _ (@aL _ _ _ _ (aN cStepDone hr (by decide) rfl (@aa _ _ _ _ _ (pv 0) (@aa _ _ _ _ _ (pv 1) ag rfl) rfl))))),?_⟩
 refine ⟨_,rfl,_,rfl,ji.mpr ⟨p,r,z,wd,is,rfl,hs,W,hq,λH1 s1=>⟨_,rfl,?_⟩⟩⟩
 cases hc:can z wd is with
 | false=>exact bN ⟨gu,λea he=>xi (λdx H' s e=>no hc dx H' (s1.trans s) e) he⟩
 | true =>
  obtain ⟨st,hst,e⟩:=Ce.mp (of_decide_eq_true hc)
  refine bK ⟨_,rfl,_,rfl,hW.mpr ⟨p,r,z,st,rfl,hs.same s1,by rw[e];exact xh (ah s1 hq),s1 _ _ hP,xj hst,W.toSml,λp' H' s' h'=>yes st hst e p' H' (s1.trans s') h'⟩⟩
end
open PySem L2
def dv (K:BM)(H:Hp):Nat->V->V->Prop
 | 0,x,y=>(∃z:Str,x = .str z/\y = .str z)\/∃i:Int,x = .int i/\y = .int i
 | n+1,x,y=>(∃z:Str,x = .str z/\y = .str z)\/(∃i:Int,x = .int i/\y = .int i)\/∃(a b:Addr) (xs ys:List V),x = .ref a/\y = .ref b/\((SqT K H a xs/\SqT K H b ys)\/(SqL K H a xs/\SqL K H b ys))/\xs.length=ys.length/\xs.length<=400000/\∀(i:Nat) (u v:V),xs[i]? = some u->ys[i]? = some v->dv K H n u v
theorem dv.same {K:BM}{H H':Hp}(s:aB H H'):∀{n:Nat} {x y:V},dv K H n x y->dv K H' n x y
 | 0,_,_,h=>h
 | n+1,_,_,h=>by
  rcases h with h | h | ⟨a,b,xs,ys,rfl,rfl,e,l1,l2,h⟩
  ·exact .inl h
  ·exact .inr (.inl h)
  ·exact .inr (.inr ⟨a,b,xs,ys,rfl,rfl,e.imp (λe=>⟨ah s e.1,ah s e.2⟩) (λe=>⟨cG s e.1,cG s e.2⟩),l1,l2,λi u v hu hv=>dv.same s (h i u v hu hv)⟩)
@[irreducible] def spS (K:BM):Nat->Sp
 | 0=>λ_ _ _ _=>False
 | n+1=>λvs H Q _=>∃x y:V,vs=[x,y]/\dv K H n x y/\∀H',aB H H'->Q (.bl true) H'
theorem dZ {K:BM}{n:Nat}{vs:List V}{H:Hp}{Q:VK}{E:XK}:spS K (n+1) vs H Q E↔∃x y:V,vs=[x,y]/\dv K H n x y/\∀H',aB H H'->Q (.bl true) H':=by
 unfold spS
 exact Eg
theorem AM {K:BM}{vs:List V}{H:Hp}{Q:VK}{E:XK}:¬ spS K 0 vs H Q E:=by
 unfold spS
 exact id
section
variable  {P:B7}{w:CJ}{K:BM}{mg:Str->Option BP}{base:Heap}{f T:Addr}{fd:CT}
theorem tS:aV ["found", "due"] ["found", "due"] (aA oB):=⟨rfl,rfl,rfl,by decide +kernel,rfl,by decide +kernel,by decide +kernel⟩
theorem cz:(["one", "other"]:List Str).Nodup:=by decide +kernel
theorem y9 (F:Fun K "_law_same" "_law_same" oB f fd)(B:Blt mg)(n:Nat)(cLSame:Cal P w K mg base n "_law_same" ["found", "due"] (spS K n)):bS P w K mg base CX0 (n+1) f fd ["found", "due"] (spS K (n+1)):=by
 refine F.ok tS (λvs H Q E h =>?_) (λcdv A outer s H vs Q E hr h =>?_)
 ·obtain ⟨_,_,rfl,_⟩:=dZ.mp h
  rfl
 obtain ⟨x,y,rfl,sd,q⟩:=dZ.mp h
 have S:(∃z:Str,x = .str z/\y = .str z)\/(∃i:Int,x = .int i/\y = .int i)\/∃k,n=k+1/\∃(a b:Addr) (xs ys:List V),x = .ref a/\y = .ref b/\((SqT K H a xs/\SqT K H b ys)\/(SqL K H a xs/\SqL K H b ys))/\xs.length=ys.length/\xs.length<=400000/\∀(i:Nat) (u v:V),xs[i]? = some u->ys[i]? = some v->dv K H k u v:=by
  cases n with
  | zero=>exact sd.imp id .inl
  | succ k=>exact sd.imp id λh=>h.imp id λh=>⟨k,rfl,h⟩
 rcases S with ⟨z,rfl,rfl⟩ | ⟨i,rfl,rfl⟩ | ⟨k,rfl,a,b,xs,ys,rfl,rfl,⟨ea,eb⟩ | ⟨ea,eb⟩,l1,l3,hs⟩
 ·refine ⟨_,(@aj _ _ _ _ _ (@ba _ _ _ _ _ _ _ _ (bV (ak bI rfl B.b_isinstance ao (@aa _ _ _ _ _ (pv 1) (@aa _ _ _ _ _ (@aP _ _ _ _ _ (@aa _ _ _ _ _ (aI (v :=.ty "tuple") rfl B.b_tuple aO rfl) (@aa _ _ _ _ _ (aI (v :=.ty "list") rfl B.b_list dD rfl) ag rfl) rfl)) ag rfl) rfl))) (@aj _ _ _ _ _ (@ba _ _ _ _ _ _ _ _ (PW.pt (l9 (aJ mf (ak aD rfl B.b_isinstance ao (@aa _ _ _ _ _ (pv 0) (@aa _ _ _ _ _ (aI (v :=.ty "tuple") rfl B.b_tuple aO rfl) ag rfl) rfl)) (ak aD rfl B.b_isinstance ao (@aa _ _ _ _ _ (pv 1) (@aa _ _ _ _ _ (aI (v :=.ty "tuple") rfl B.b_tuple aO rfl) ag rfl) rfl)) (aH _)) (iP (dF (bV (ak bI rfl B.b_isinstance ao (@aa _ _ _ _ _ (pv 0) (@aa _ _ _ _ _ (@aP _ _ _ _ _ (@aa _ _ _ _ _ (aI (v :=.ty "tuple") rfl B.b_tuple aO rfl) (@aa _ _ _ _ _ (aI (v :=.ty "list") rfl B.b_list dD rfl) ag rfl) rfl)) ag rfl) rfl))))))) eO aK)
   (@aq _ _ _ (@aL _ _ _ _ (bP (bD bp (ak aX rfl B.b_len cU (@aa _ _ _ _ _ (pv 0) ag rfl)) (ak aX rfl B.b_len cU (@aa _ _ _ _ _ (pv 1) ag rfl)) (aH _)) (cp (ak (ip rfl) rfl B.b_all oF (@aa _ _ _ _ _ (cy ["one", "other"] [none,none] rfl (j8 false false rfl B.b_zip (@aa _ _ _ _ _ (pv 0) (@aa _ _ _ _ _ (pv 1) ag rfl) rfl)) rfl (λ_ _ _ _ _=>(f9 (K:=K) (i:=0) (j:=1) cz rfl rfl (Or.inl rfl) (Or.inl rfl))) (λ_ _ _ _ _=>eC) (λ_ _ _ _ _=>(aN cLSame hr (BV _) rfl (@aa _ _ _ _ _ (pv 0) (@aa _ _ _ _ _ (pv 1) ag rfl) rfl)))) ag rfl))))))) aK)
  (@aj _ _ _ _ _ (@ba _ _ _ _ _ _ _ _ (bV (ak aD rfl B.b_isinstance ao (@aa _ _ _ _ _ (pv 1) (@aa _ _ _ _ _ (aI (v :=.ty "str") rfl B.b_str eI rfl) ag rfl) rfl))) (@aq _ _ _ (@aL _ _ _ _ (bP (ak aD rfl B.b_isinstance ao (@aa _ _ _ _ _ (pv 0) (@aa _ _ _ _ _ (aI (v :=.ty "str") rfl B.b_str eI rfl) ag rfl) rfl)) (cp (bD bp (pv 0) (pv 1) (aH _)))))) aK)
  (@aq _ _ _ (@aL _ _ _ _ (bP (ak aD rfl B.b_isinstance ao (@aa _ _ _ _ _ (pv 0) (@aa _ _ _ _ _ (aI (v :=.ty "int") rfl B.b_int g6 rfl) ag rfl) rfl)) (bP (iQ (ak aD rfl B.b_isinstance ao (@aa _ _ _ _ _ (pv 0) (@aa _ _ _ _ _ (aI (v :=.ty "bool") rfl B.b_bool iH rfl) ag rfl) rfl))) (cp (bD bp (pv 0) (pv 1) (aH _))))))))),?_⟩
  refine ⟨_,rfl,bR,λtp htp=>⟨.str z,tp,["tuple", "list"],_,false,rfl,SqT.of af,.str z,rfl,_,rfl,bK ?_⟩⟩
  have g1:=ae htp (.tup [.ty "tuple",.ty "list"])
  refine ⟨_,rfl,.str z, "str",_,true,rfl,.str z,rfl,_,rfl,bN ?_⟩
  refine ⟨_,rfl,.str z, "str",_,true,rfl,.str z,rfl,_,rfl,bN ?_⟩
  refine ⟨_,rfl,_,rfl,rfl,?_⟩
  rw[decide_eq_true (rfl:V.str z=V.str z)]
  exact q _ g1
 ·refine ⟨_,(@aj _ _ _ _ _ (@ba _ _ _ _ _ _ _ _ (bV (ak bI rfl B.b_isinstance ao (@aa _ _ _ _ _ (pv 1) (@aa _ _ _ _ _ (@aP _ _ _ _ _ (@aa _ _ _ _ _ (aI (v :=.ty "tuple") rfl B.b_tuple aO rfl) (@aa _ _ _ _ _ (aI (v :=.ty "list") rfl B.b_list dD rfl) ag rfl) rfl)) ag rfl) rfl))) (@aj _ _ _ _ _ (@ba _ _ _ _ _ _ _ _ (PW.pt (l9 (aJ mf (ak aD rfl B.b_isinstance ao (@aa _ _ _ _ _ (pv 0) (@aa _ _ _ _ _ (aI (v :=.ty "tuple") rfl B.b_tuple aO rfl) ag rfl) rfl)) (ak aD rfl B.b_isinstance ao (@aa _ _ _ _ _ (pv 1) (@aa _ _ _ _ _ (aI (v :=.ty "tuple") rfl B.b_tuple aO rfl) ag rfl) rfl)) (aH _)) (iP (dF (bV (ak bI rfl B.b_isinstance ao (@aa _ _ _ _ _ (pv 0) (@aa _ _ _ _ _ (@aP _ _ _ _ _ (@aa _ _ _ _ _ (aI (v :=.ty "tuple") rfl B.b_tuple aO rfl) (@aa _ _ _ _ _ (aI (v :=.ty "list") rfl B.b_list dD rfl) ag rfl) rfl)) ag rfl) rfl))))))) eO aK)
   (@aq _ _ _ (@aL _ _ _ _ (bP (bD bp (ak aX rfl B.b_len cU (@aa _ _ _ _ _ (pv 0) ag rfl)) (ak aX rfl B.b_len cU (@aa _ _ _ _ _ (pv 1) ag rfl)) (aH _)) (cp (ak (ip rfl) rfl B.b_all oF (@aa _ _ _ _ _ (cy ["one", "other"] [none,none] rfl (j8 false false rfl B.b_zip (@aa _ _ _ _ _ (pv 0) (@aa _ _ _ _ _ (pv 1) ag rfl) rfl)) rfl (λ_ _ _ _ _=>(f9 (K:=K) (i:=0) (j:=1) cz rfl rfl (Or.inl rfl) (Or.inl rfl))) (λ_ _ _ _ _=>eC) (λ_ _ _ _ _=>(aN cLSame hr (BV _) rfl (@aa _ _ _ _ _ (pv 0) (@aa _ _ _ _ _ (pv 1) ag rfl) rfl)))) ag rfl))))))) aK)
  (@aj _ _ _ _ _ (@ba _ _ _ _ _ _ _ _ (bV (ak aD rfl B.b_isinstance ao (@aa _ _ _ _ _ (pv 1) (@aa _ _ _ _ _ (aI (v :=.ty "str") rfl B.b_str eI rfl) ag rfl) rfl))) (@aq _ _ _ (@aL _ _ _ _ (bP (ak aD rfl B.b_isinstance ao (@aa _ _ _ _ _ (pv 0) (@aa _ _ _ _ _ (aI (v :=.ty "str") rfl B.b_str eI rfl) ag rfl) rfl)) (cp (bD bp (pv 0) (pv 1) (aH _)))))) aK)
  (@aq _ _ _ (@aL _ _ _ _ (bP (ak aD rfl B.b_isinstance ao (@aa _ _ _ _ _ (pv 0) (@aa _ _ _ _ _ (aI (v :=.ty "int") rfl B.b_int g6 rfl) ag rfl) rfl)) (bP (iQ (ak aD rfl B.b_isinstance ao (@aa _ _ _ _ _ (pv 0) (@aa _ _ _ _ _ (aI (v :=.ty "bool") rfl B.b_bool iH rfl) ag rfl) rfl))) (cp (bD bp (pv 0) (pv 1) (aH _))))))))),?_⟩
  refine ⟨_,rfl,bR,λtp htp=>⟨.int i,tp,["tuple", "list"],_,false,rfl,SqT.of af,.int i,rfl,_,rfl,bK ?_⟩⟩
  have g1:=ae htp (.tup [.ty "tuple",.ty "list"])
  refine ⟨_,rfl,.int i, "str",_,false,rfl,.int i,rfl,_,rfl,bK ?_⟩
  refine ⟨_,rfl,.int i, "int",_,true,rfl,.int i,rfl,_,rfl,bN ?_⟩
  refine ⟨_,rfl,.int i, "bool",_,false,rfl,.int i,rfl,_,rfl,_,rfl,bN ?_⟩
  refine ⟨_,rfl,_,rfl,rfl,?_⟩
  rw[decide_eq_true (rfl:V.int i=V.int i)]
  exact q _ g1
 ·refine ⟨_,(@aj _ _ _ _ _ (@ba _ _ _ _ _ _ _ _ (bV (ak bI rfl B.b_isinstance ao (@aa _ _ _ _ _ (pv 1) (@aa _ _ _ _ _ (@aP _ _ _ _ _ (@aa _ _ _ _ _ (aI (v :=.ty "tuple") rfl B.b_tuple aO rfl) (@aa _ _ _ _ _ (aI (v :=.ty "list") rfl B.b_list dD rfl) ag rfl) rfl)) ag rfl) rfl))) (@aj _ _ _ _ _ (@ba _ _ _ _ _ _ _ _ (PW.pt (l9 (aJ mf (ak aD rfl B.b_isinstance ao (@aa _ _ _ _ _ (pv 0) (@aa _ _ _ _ _ (aI (v :=.ty "tuple") rfl B.b_tuple aO rfl) ag rfl) rfl)) (ak aD rfl B.b_isinstance ao (@aa _ _ _ _ _ (pv 1) (@aa _ _ _ _ _ (aI (v :=.ty "tuple") rfl B.b_tuple aO rfl) ag rfl) rfl)) (aH _)) (iP (dF (bV (ak bI rfl B.b_isinstance ao (@aa _ _ _ _ _ (pv 0) (@aa _ _ _ _ _ (@aP _ _ _ _ _ (@aa _ _ _ _ _ (aI (v :=.ty "tuple") rfl B.b_tuple aO rfl) (@aa _ _ _ _ _ (aI (v :=.ty "list") rfl B.b_list dD rfl) ag rfl) rfl)) ag rfl) rfl))))))) eO aK)
   (@aq _ _ _ (@aL _ _ _ _ (bP (bD bp (ak aX rfl B.b_len cU (@aa _ _ _ _ _ (pv 0) ag rfl)) (ak aX rfl B.b_len cU (@aa _ _ _ _ _ (pv 1) ag rfl)) (aH _)) (cp (ak (ip rfl) rfl B.b_all oF (@aa _ _ _ _ _ (cy ["one", "other"] [none,none] rfl (j8 false false rfl B.b_zip (@aa _ _ _ _ _ (pv 0) (@aa _ _ _ _ _ (pv 1) ag rfl) rfl)) rfl (λ_ _ _ _ _=>(f9 (K:=K) (i:=0) (j:=1) cz rfl rfl (Or.inl rfl) (Or.inl rfl))) (λ_ _ _ _ _=>eC) (λ_ _ _ _ _=>(aN cLSame hr (BV _) rfl (@aa _ _ _ _ _ (pv 0) (@aa _ _ _ _ _ (pv 1) ag rfl) rfl)))) ag rfl))))))) aK)
  (@aj _ _ _ _ _ (@ba _ _ _ _ _ _ _ _ (bV (ak aD rfl B.b_isinstance ao (@aa _ _ _ _ _ (pv 1) (@aa _ _ _ _ _ (aI (v :=.ty "str") rfl B.b_str eI rfl) ag rfl) rfl))) (@aq _ _ _ (@aL _ _ _ _ (bP (ak aD rfl B.b_isinstance ao (@aa _ _ _ _ _ (pv 0) (@aa _ _ _ _ _ (aI (v :=.ty "str") rfl B.b_str eI rfl) ag rfl) rfl)) (cp (bD bp (pv 0) (pv 1) (aH _)))))) aK)
  (@aq _ _ _ (@aL _ _ _ _ (bP (ak aD rfl B.b_isinstance ao (@aa _ _ _ _ _ (pv 0) (@aa _ _ _ _ _ (aI (v :=.ty "int") rfl B.b_int g6 rfl) ag rfl) rfl)) (bP (iQ (ak aD rfl B.b_isinstance ao (@aa _ _ _ _ _ (pv 0) (@aa _ _ _ _ _ (aI (v :=.ty "bool") rfl B.b_bool iH rfl) ag rfl) rfl))) (cp (bD bp (pv 0) (pv 1) (aH _))))))))),?_⟩
  refine ⟨_,rfl,bR,λtp htp=>⟨.ref b,tp,["tuple", "list"],_,true,rfl,SqT.of af,.tup (ah (ae htp _) eb),rfl,_,rfl,bN ?_⟩⟩
  have g1:=ae htp (.tup [.ty "tuple",.ty "list"])
  have ea1:=ah g1 ea
  have eb1:=ah g1 eb
  generalize upd H tp (.tup [.ty "tuple",.ty "list"])=H1 at g1 ea1 eb1
  refine ⟨_,rfl,.ref a, "tuple",_,true,rfl,.tup ea1,rfl,_,rfl,.ref b, "tuple",_,true,rfl,.tup eb1,rfl,rfl,_,rfl,bK ?_⟩
  refine ⟨_,rfl,bR,λtq htq=>⟨.ref a,tq,["tuple", "list"],_,true,rfl,SqT.of af,.tup (ah (ae htq _) ea1),rfl,_,rfl,bK ?_⟩⟩
  have g2:=ae htq (.tup [.ty "tuple",.ty "list"])
  have ea2:=ah g2 ea1
  have eb2:=ah g2 eb1
  have s2:=g1.trans g2
  generalize upd H1 tq (.tup [.ty "tuple",.ty "list"])=H2 at g2 ea2 eb2 s2
  refine ⟨_,rfl,a,_,rfl,.inr ea2,_,rfl,b,_,rfl,.inr eb2,rfl,_,rfl,?_⟩
  rw[decide_eq_true (by rw[l1])]
  have al:∀j:Nat,(Ga j true).all id=true:=λj=>by simp
  refine bN ⟨_,rfl,_,rfl,a,b,rfl,⟨_,ea2⟩,⟨_,eb2⟩,zq xs.length (BV _) (by omega) (.inl rfl) (λi zs H'=>aB H2 H'/\zs=(Ga i true).map V.bl) (by decide) ⟨aB.refl _,rfl⟩ (big (by omega)) (λi zs H' _ k=>⟨ah k.1 ea2,ah k.1 eb2⟩) ?_ ?_⟩
  ·rintro i u v zs H' T' hu hv lz hT' ⟨s',rfl⟩ R1 R0 r1 r0
   have sT:=s'.trans (ae hT' (.tup [u,v]))
   refine bN ⟨_,rfl,_,rfl,(dZ (E:=E0)).mpr ⟨u,v,rfl,(hs i u v hu hv).same (s2.trans sT),λH5 s5=>r1 _ _ ⟨sT.trans s5,?_⟩⟩⟩
   rw[Iv,B4];rfl
  ·rintro zs H' lz ⟨s',rfl⟩ c5 hc5
   refine ⟨c5,_,rfl,SqL.of af,?_⟩
   rw[al]
   exact q _ (s2.trans (s'.trans (ae hc5 _)))
 ·refine ⟨_,(@aj _ _ _ _ _ (@ba _ _ _ _ _ _ _ _ (bV (ak bI rfl B.b_isinstance ao (@aa _ _ _ _ _ (pv 1) (@aa _ _ _ _ _ (@aP _ _ _ _ _ (@aa _ _ _ _ _ (aI (v :=.ty "tuple") rfl B.b_tuple aO rfl) (@aa _ _ _ _ _ (aI (v :=.ty "list") rfl B.b_list dD rfl) ag rfl) rfl)) ag rfl) rfl))) (@aj _ _ _ _ _ (@ba _ _ _ _ _ _ _ _ (PW.pt (l9 (aJ mf (ak aD rfl B.b_isinstance ao (@aa _ _ _ _ _ (pv 0) (@aa _ _ _ _ _ (aI (v :=.ty "tuple") rfl B.b_tuple aO rfl) ag rfl) rfl)) (ak aD rfl B.b_isinstance ao (@aa _ _ _ _ _ (pv 1) (@aa _ _ _ _ _ (aI (v :=.ty "tuple") rfl B.b_tuple aO rfl) ag rfl) rfl)) (aH _)) (iP (dF (bV (ak bI rfl B.b_isinstance ao (@aa _ _ _ _ _ (pv 0) (@aa _ _ _ _ _ (@aP _ _ _ _ _ (@aa _ _ _ _ _ (aI (v :=.ty "tuple") rfl B.b_tuple aO rfl) (@aa _ _ _ _ _ (aI (v :=.ty "list") rfl B.b_list dD rfl) ag rfl) rfl)) ag rfl) rfl))))))) eO aK)
   (@aq _ _ _ (@aL _ _ _ _ (bP (bD bp (ak aX rfl B.b_len cU (@aa _ _ _ _ _ (pv 0) ag rfl)) (ak aX rfl B.b_len cU (@aa _ _ _ _ _ (pv 1) ag rfl)) (aH _)) (cp (ak (ip rfl) rfl B.b_all oF (@aa _ _ _ _ _ (cy ["one", "other"] [none,none] rfl (j8 true true rfl B.b_zip (@aa _ _ _ _ _ (pv 0) (@aa _ _ _ _ _ (pv 1) ag rfl) rfl)) rfl (λ_ _ _ _ _=>(f9 (K:=K) (i:=0) (j:=1) cz rfl rfl (Or.inl rfl) (Or.inl rfl))) (λ_ _ _ _ _=>eC) (λ_ _ _ _ _=>(aN cLSame hr (BV _) rfl (@aa _ _ _ _ _ (pv 0) (@aa _ _ _ _ _ (pv 1) ag rfl) rfl)))) ag rfl))))))) aK)
  (@aj _ _ _ _ _ (@ba _ _ _ _ _ _ _ _ (bV (ak aD rfl B.b_isinstance ao (@aa _ _ _ _ _ (pv 1) (@aa _ _ _ _ _ (aI (v :=.ty "str") rfl B.b_str eI rfl) ag rfl) rfl))) (@aq _ _ _ (@aL _ _ _ _ (bP (ak aD rfl B.b_isinstance ao (@aa _ _ _ _ _ (pv 0) (@aa _ _ _ _ _ (aI (v :=.ty "str") rfl B.b_str eI rfl) ag rfl) rfl)) (cp (bD bp (pv 0) (pv 1) (aH _)))))) aK)
  (@aq _ _ _ (@aL _ _ _ _ (bP (ak aD rfl B.b_isinstance ao (@aa _ _ _ _ _ (pv 0) (@aa _ _ _ _ _ (aI (v :=.ty "int") rfl B.b_int g6 rfl) ag rfl) rfl)) (bP (iQ (ak aD rfl B.b_isinstance ao (@aa _ _ _ _ _ (pv 0) (@aa _ _ _ _ _ (aI (v :=.ty "bool") rfl B.b_bool iH rfl) ag rfl) rfl))) (cp (bD bp (pv 0) (pv 1) (aH _))))))))),?_⟩
  refine ⟨_,rfl,bR,λtp htp=>⟨.ref b,tp,["tuple", "list"],_,true,rfl,SqT.of af,.lst (cG (ae htp _) eb),rfl,_,rfl,bN ?_⟩⟩
  have g1:=ae htp (.tup [.ty "tuple",.ty "list"])
  have ea1:=cG g1 ea
  have eb1:=cG g1 eb
  generalize upd H tp (.tup [.ty "tuple",.ty "list"])=H1 at g1 ea1 eb1
  refine ⟨_,rfl,.ref a, "tuple",_,false,rfl,.lst ea1,rfl,_,rfl,.ref b, "tuple",_,false,rfl,.lst eb1,rfl,rfl,_,rfl,bK ?_⟩
  refine ⟨_,rfl,bR,λtq htq=>⟨.ref a,tq,["tuple", "list"],_,true,rfl,SqT.of af,.lst (cG (ae htq _) ea1),rfl,_,rfl,bK ?_⟩⟩
  have g2:=ae htq (.tup [.ty "tuple",.ty "list"])
  have ea2:=cG g2 ea1
  have eb2:=cG g2 eb1
  have s2:=g1.trans g2
  generalize upd H1 tq (.tup [.ty "tuple",.ty "list"])=H2 at g2 ea2 eb2 s2
  refine ⟨_,rfl,a,_,rfl,.inl ea2,_,rfl,b,_,rfl,.inl eb2,rfl,_,rfl,?_⟩
  rw[decide_eq_true (by rw[l1])]
  have al:∀j:Nat,(Ga j true).all id=true:=λj=>by simp
  refine bN ⟨_,rfl,_,rfl,a,b,rfl,⟨_,ea2⟩,⟨_,eb2⟩,zq xs.length (BV _) (by omega) (.inl rfl) (λi zs H'=>aB H2 H'/\zs=(Ga i true).map V.bl) (by decide) ⟨aB.refl _,rfl⟩ (big (by omega)) (λi zs H' _ k=>⟨cG k.1 ea2,cG k.1 eb2⟩) ?_ ?_⟩
  ·rintro i u v zs H' T' hu hv lz hT' ⟨s',rfl⟩ R1 R0 r1 r0
   have sT:=s'.trans (ae hT' (.tup [u,v]))
   refine bN ⟨_,rfl,_,rfl,(dZ (E:=E0)).mpr ⟨u,v,rfl,(hs i u v hu hv).same (s2.trans sT),λH5 s5=>r1 _ _ ⟨sT.trans s5,?_⟩⟩⟩
   rw[Iv,B4];rfl
  ·rintro zs H' lz ⟨s',rfl⟩ c5 hc5
   refine ⟨c5,_,rfl,SqL.of af,?_⟩
   rw[al]
   exact q _ (s2.trans (s'.trans (ae hc5 _)))
end
open PySem L2
open Srt
theorem BH {d:Int}(h0:0<=d)(h1:d<8):∃N:Int,atI ([.int 0,.int 1,.int 3,.int 5,.int 7,.int 9,.int 11,.int 14]:List V) d=some (.int N)/\0<=N/\N<=14:=by
 have:d=0\/d=1\/d=2\/d=3\/d=4\/d=5\/d=6\/d=7:=by omega
 rcases this with rfl | rfl | rfl | rfl | rfl | rfl | rfl | rfl <;> exact ⟨_,rfl,by decide,by decide⟩
theorem three {d a b c:Int}(h0:0<=d)(h1:d<=2):∃y:Int,atI ([.int a,.int b,.int c]:List V) d=some (.int y)/\(y=a\/y=b\/y=c):=by
 have:d=0\/d=1\/d=2:=by omega
 rcases this with rfl | rfl | rfl
 ·exact ⟨a,rfl,.inl rfl⟩
 ·exact ⟨b,rfl,.inr (.inl rfl)⟩
 ·exact ⟨c,rfl,.inr (.inr rfl)⟩
theorem b7 {m:Int}(h0:0<m)(h1:m<1000):Wd m:=CG (show m.natAbs<=1000 by omega) (by decide +kernel)
structure Tw (H:Hp)(n:Int)(us:List (Addr×List Int)):Prop where
 at':∀u∈us,H u.1=some (.tup (u.2.map V.int))
 two:∀u∈us,∃a b,u.2=[a,b]/\0<=a/\a<=b/\b<n
theorem Tw.tup {H H':Hp}{n:Int}{us:List (Addr×List Int)}(h:Tw H n us)(k:∀a ys,H a=some (.tup ys)->H' a=some (.tup ys)):Tw H' n us:=⟨λu hu=>k _ _ (h.at' u hu),h.two⟩
theorem Tw.add {H:Hp}{n:Int}{us:List (Addr×List Int)}(h:Tw H n us){t:Addr}{a b:Int}(e:H t=some (.tup [.int a,.int b]))(h0:0<=a)(h1:a<=b)(h2:b<n):Tw H n (us++[(t,[a,b])]):=by
 refine ⟨λu hu =>?_,λu hu =>?_⟩
 ·rcases B5.mp hu with z | z
  ·exact h.at' u z
  ·rw[Ck.mp z];exact e
 ·rcases B5.mp hu with z | z
  ·exact h.two u z
  ·rw[Ck.mp z];exact ⟨a,b,rfl,h0,h1,h2⟩
abbrev xk:Sp:=λvs H Q _=>∃(p:Addr) (m:Int),vs=[.ref p,.int m]/\Pt 1 H p/\0<=m/\m<=40/\∀(r t:Addr) (n:Nat) (us:List (Addr×List Int)) (H':Hp),Bu 1 p H H'->H' r=some (.tup [.int n,.ref t])->H' t=some (.tup (us.map λu =>.ref u.1))->Tw H' n us->(n:Int)<=m->us.length<=28->us.Pairwise (λa b=>HT.lexLt b.2 a.2=false)->Q (.ref r) H'
@[irreducible] def tT:Sp:=xk
theorem jk {vs:List V}{H:Hp}{Q:VK}{E:XK}:tT vs H Q E↔xk vs H Q E:=by
 delta tT
 exact Eg
section
variable  {P:B7}{w:CJ}{K:BM}{mg:Str->Option BP}{base:Heap}{f T:Addr}{fd:CT}
theorem jl:aV ["pot", "most", "many", "ties", "k", "one", "other"] ["pot", "most"] (aA wV):=⟨rfl,rfl,rfl,by decide +kernel,rfl,by decide +kernel,by decide +kernel⟩
theorem AN (F:Fun K "_law_web" "_law_web" wV f fd)(B:Blt mg)(cLTake:Cal P w K mg base 1 "_law_take" ["pot", "many"] jf):bS P w K mg base CX0 2 f fd ["pot", "most"] tT:=by
 refine F.ok jl (λvs H Q E h =>?_) (λcdv A outer s H vs Q E hr h =>?_)
 ·obtain ⟨_,_,rfl,_⟩:=jk.mp h
  rfl
 obtain ⟨p,m,rfl,hp,m0,m4,q⟩:=jk.mp h
 refine ⟨_,(@aj _ _ _ _ _ (@aU _ _ 2 _ _ _ _ jl.nd rfl (Or.inl rfl) (aN cLTake hr (by decide) rfl (@aa _ _ _ _ _ (pv 0) (@aa _ _ _ _ _ (@bC _ _ _ _ _ _ _ _ eB (pv 1) ai) ag rfl) rfl)) rfl (by first | exact .inl rfl | exact .inr rfl | assumption))
  (@aj _ _ _ _ _ (@aU _ _ 3 _ _ _ _ jl.nd rfl (Or.inl rfl) (@dH _ _ _ _ ag) rfl (by first | exact .inl rfl | exact .inr rfl | assumption))
  (@aj _ _ _ _ _ (@fe _ _ _ _ _ _ _ _ D8 rfl (iR rfl B.b_range (@aa _ _ _ _ _ (@aG _ _ _ _ _ _ _ bQ (@dH _ _ _ _ (@aa _ _ _ _ _ ai (@aa _ _ _ _ _ ai (@aa _ _ _ _ _ ai (@aa _ _ _ _ _ ai (@aa _ _ _ _ _ ai (@aa _ _ _ _ _ ai (@aa _ _ _ _ _ ai (@aa _ _ _ _ _ ai ag rfl) rfl) rfl) rfl) rfl) rfl) rfl) rfl)) (aN cLTake hr (by decide) rfl (@aa _ _ _ _ _ (pv 0) (@aa _ _ _ _ _ ai ag rfl) rfl)) (λ_ _=>rfl)) ag rfl)) (aS (i:=4) jl.nd rfl (Or.inl rfl))
   (@aq _ _ _ (@ba _ _ _ _ _ _ _ _ (aJ sr (pv 2) ai (aH _)) (@aj _ _ _ _ _ (@aU _ _ 5 _ _ _ _ jl.nd rfl (Or.inl rfl) (aN cLTake hr (by decide) rfl (@aa _ _ _ _ _ (pv 0) (@aa _ _ _ _ _ (pv 2) ag rfl) rfl)) rfl (by first | exact .inl rfl | exact .inr rfl | assumption))
    (@aj _ _ _ _ _ (@aU _ _ 6 _ _ _ _ jl.nd rfl (Or.inl rfl) (@aG _ _ _ _ _ _ _ bQ (@dH _ _ _ _ (@aa _ _ _ _ _ (aN cLTake hr (by decide) rfl (@aa _ _ _ _ _ (pv 0) (@aa _ _ _ _ _ (pv 2) ag rfl) rfl)) (@aa _ _ _ _ _ (@bC _ _ _ _ _ _ _ _ iT (@bC _ _ _ _ _ _ _ _ eB (pv 5) ai) (pv 2)) (@aa _ _ _ _ _ (pv 5) ag rfl) rfl) rfl)) (ak (iU rfl) rfl B.b_min lq (@aa _ _ _ _ _ ai (@aa _ _ _ _ _ (@bC _ _ _ _ _ _ _ _ nM (aN cLTake hr (by decide) rfl (@aa _ _ _ _ _ (pv 0) (@aa _ _ _ _ _ ai ag rfl) rfl)) ai) ag rfl) rfl)) (λ_ _=>rfl)) rfl (by first | exact .inl rfl | exact .inr rfl | assumption))
    (@aj _ _ _ _ _ (cK (fY C3 CZ C0 cg (pv 3) (@aa _ _ _ _ _ (@aP _ _ _ _ _ (@aa _ _ _ _ _ (ak (iU rfl) rfl B.b_min lq (@aa _ _ _ _ _ (pv 5) (@aa _ _ _ _ _ (pv 6) ag rfl) rfl)) (@aa _ _ _ _ _ (ak (mh rfl) rfl B.b_max wX (@aa _ _ _ _ _ (pv 5) (@aa _ _ _ _ _ (pv 6) ag rfl) rfl)) ag rfl) rfl)) ag rfl)))
    (@aq _ _ _ (@ba _ _ _ _ _ _ _ _ (aJ bp (aN cLTake hr (by decide) rfl (@aa _ _ _ _ _ (pv 0) (@aa _ _ _ _ _ ai ag rfl) rfl)) ai (aH _)) (@aq _ _ _ (cK (fY C3 CZ C0 cg (pv 3) (@aa _ _ _ _ _ (@aG _ _ _ _ _ _ _ bQ (pv 3) (ze vx ai) (λ_ _=>rfl)) ag rfl)))) aK))))) aK)) (λ_=>rfl))
  (@aq _ _ _ (@aL _ _ _ _ (@aP _ _ _ _ _ (@aa _ _ _ _ _ (pv 2) (@aa _ _ _ _ _ (bh aW rfl B.b_tuple aO (@aa _ _ _ _ _ (ak oa rfl B.b_sorted cj (@aa _ _ _ _ _ (pv 3) ag rfl)) ag rfl)) ag rfl) rfl))))))),?_⟩
 refine ⟨_,rfl,_,rfl,_,_,rfl,rfl,aZ.mpr ⟨p,m+1,rfl,hp,by omega,b7 (by omega) (by omega),λn0 H1 h0 h1 b1 =>?_⟩⟩
 obtain ⟨n,rfl⟩:∃n:Nat,n0=n:=⟨n0.toNat,by omega⟩
 refine ⟨CC _,λl hl =>?_⟩
 have nl:l≠p:=b1.pot.ne hl
 have hl0:H l=none:=by
  cases e:H l with
  | none=>rfl
  | some o=>rw[b1.st l o nl e] at hl;cases hl
 have b2:Bu 1 p H (upd H1 l (.lst [])):=b1.qU hl0 nl _
 have e2:(upd H1 l (.lst [])) l=some (.lst []):=af
 generalize upd H1 l (.lst [])=H2 at b2 e2
 refine ⟨(by decide:8<=Ca),λq8 n8 =>?_⟩
 have s3:=ae n8 (.lst [.int 0,.int 1,.int 3,.int 5,.int 7,.int 9,.int 11,.int 14])
 have b3:=b2.same s3
 have e3:(upd H2 q8 (.lst [.int 0,.int 1,.int 3,.int 5,.int 7,.int 9,.int 11,.int 14])) q8=_:=af
 have l3:=s3 _ _ e2
 have nq8:q8≠p:=b2.pot.ne n8
 generalize upd H2 q8 (.lst [.int 0,.int 1,.int 3,.int 5,.int 7,.int 9,.int 11,.int 14])=H3 at b3 e3 l3
 refine ⟨_,rfl,aZ.mpr ⟨p,8,rfl,b3.pot,by decide,b7 (by decide) (by decide),λd H4 d0 d1 b4 =>?_⟩⟩
 obtain ⟨N,eN,N0,N1⟩:=BH d0 d1
 refine ⟨q8,_,d,_,rfl,rfl,SqL.of (b4.st _ _ nq8 e3),eN,N,rfl,by omega,by omega,iS (λi σ H'=>(∃c4 c5 c6,σ=[some (.ref p),some (.int m),some (.int n),some (.ref l),c4,c5,c6])/\Bu 1 p H H'/\∃us:List (Addr×List Int),H' l=some (.lst (us.map λu =>.ref u.1))/\Tw H' n us/\us.length<=2*i) ⟨⟨_,_,_,rfl⟩,b3.trans b4,[],b4.st _ _ nl l3,⟨λu hu=>(by cases hu),λu hu=>(by cases hu)⟩,CC _⟩ ?_ ?_⟩
 ·rintro i σ J hi ⟨⟨c4,c5,c6,rfl⟩,bJ,us,el,tw,lu⟩
  refine ⟨_,rfl,_,_,rfl,rfl,_,rfl,zR (λz =>?_) λ_=>⟨⟨_,_,_,rfl⟩,bJ,us,el,tw,by omega⟩⟩
  have n1:(0:Int)<n:=of_decide_eq_true z
  refine ⟨_,rfl,_,rfl,aZ.mpr ⟨p,n,rfl,bJ.pot,n1,b7 n1 (by omega),λx J1 x0 x1 w1 =>?_⟩⟩
  have v1:=bJ.trans w1
  refine ⟨_,rfl,_,rfl,aZ.mpr ⟨p,n,rfl,v1.pot,n1,b7 n1 (by omega),λy J2 y0 y1 w2 =>?_⟩⟩
  have v2:=v1.trans w2
  refine ⟨_,rfl,_,_,rfl,rfl,_,rfl,_,_,rfl,rfl,n1,_,rfl,(by decide:3<=Ca),λq3 n3 =>?_⟩
  have m0:=GQ (x+1) (show (n:Int)≠0 by omega)
  have m1:=FP (x+1) n1
  have g3:=ae n3 (.lst [.int y,.int ((x+1)%n),.int x])
  have eq3:(upd J2 q3 (.lst [.int y,.int ((x+1)%n),.int x])) q3=_:=af
  have v3:=v2.same g3
  have el3:=g3 _ _ ((w1.trans w2).st _ _ nl el)
  have tw3:=tw.tup (H':=upd J2 q3 (.lst [.int y,.int ((x+1)%n),.int x])) λa ys e=>g3 _ _ ((w1.trans w2).tup bJ.pot e)
  have nq3:q3≠p:=v2.pot.ne n3
  generalize upd J2 q3 (.lst [.int y,.int ((x+1)%n),.int x])=J3 at eq3 v3 el3 tw3
  refine ⟨_,rfl,aZ.mpr ⟨p,8,rfl,v3.pot,by decide,b7 (by decide) (by decide),λd3 J4 k0 k1 w4 =>?_⟩⟩
  have v4:=v3.trans w4
  have el4:=w4.st _ _ nl el3
  have tw4:=tw3.tup (H':=J4) λa ys e=>w4.tup v3.pot e
  have eq4:=w4.st _ _ nq3 eq3
  have a0:0<=d3/3:=JQ k0 (by decide)
  have a1:d3/3<3:=Ij (by decide) (by omega)
  refine ⟨_,_,rfl,rfl,⟨by decide,by decide⟩,_,_,rfl,?_⟩
  obtain ⟨o,eo,ho⟩:=three (d:=if d3/3<2 then d3/3 else 2) (a:=y) (b:=(x+1)%n) (c:=x) (by split <;> omega) (by split <;> omega)
  refine ⟨q3,_,_,_,rfl,rfl,SqL.of eq4,eo,?_⟩
  have o0:0<=o/\o<n:=by rcases ho with rfl | rfl | rfl <;> omega
  refine ⟨_,rfl,.inl ⟨rfl,_,SqL.of el4⟩,_,rfl,_,rfl,_,_,rfl,_,rfl,_,rfl,_,_,rfl,bR,λpt nt =>?_⟩
  have b0:0<=(if o<x then o else x):=by split <;> omega
  have b1':(if o<x then o else x)<=(if o>x then o else x):=by split <;> split <;> omega
  have b2':(if o>x then o else x)<(n:Int):=by split <;> omega
  have g5:=ae nt (.tup [.int (if o<x then o else x),.int (if o>x then o else x)])
  have et:(upd J4 pt (.tup [.int (if o<x then o else x),.int (if o>x then o else x)])) pt=_:=af
  have v5:=v4.same g5
  have el5:=g5 _ _ el4
  have tw5:=(tw4.tup (H':=upd J4 pt (.tup [.int (if o<x then o else x),.int (if o>x then o else x)])) λa ys e=>g5 _ _ e).add et b0 b1' b2'
  generalize upd J4 pt (.tup [.int (if o<x then o else x),.int (if o>x then o else x)])=J5 at et v5 el5 tw5
  generalize (if o<x then o else x)=ta at *
  generalize (if o>x then o else x)=tb at *
  have keep:∀{J:Hp} {xs ys:List V},J l=some (.lst xs)->∀a zs,J a=some (.tup zs)->(upd J l (.lst ys)) a=some (.tup zs):=λ{J xs ys} e1 a zs e=>by
   rw[ax (oW e e1 nofun)];exact e
  refine ⟨l,_,_,rfl,rfl,el5,by rw[BQ];exact CG (show us.length<=1000 by omega) (by decide),?_⟩
  have v6:Bu 1 p H (upd J5 l (.lst ((us.map λu=>V.ref u.1)++[.ref pt]))):=v5.qU hl0 nl _
  have el6:(upd J5 l (.lst ((us.map λu=>V.ref u.1)++[.ref pt]))) l=some (.lst ((us++[(pt,[ta,tb])]).map λu=>V.ref u.1)):=by rw[af,B4];rfl
  have tw6:=tw5.tup (H':=upd J5 l (.lst ((us.map λu=>V.ref u.1)++[.ref pt]))) (keep el5)
  generalize upd J5 l (.lst ((us.map λu=>V.ref u.1)++[.ref pt]))=J6 at v6 el6 tw6
  refine ⟨_,rfl,aZ.mpr ⟨p,4,rfl,v6.pot,by decide,b7 (by decide) (by decide),λd6 J7 k6 k7 w7=>⟨rfl,_,rfl,?_⟩⟩⟩
  have v7:=v6.trans w7
  have el7:=w7.st _ _ nl el6
  have tw7:=tw6.tup (H':=J7) λa ys e=>w7.tup v6.pot e
  have l7:(us++[(pt,[ta,tb])]).length<=2*i+1:=by rw[BU,Df];omega
  refine zR (λz =>?_) λ_=>⟨⟨_,_,_,rfl⟩,v7,_,el7,tw7,by omega⟩
  have em:((us++[(pt,[ta,tb])]).map λu=>V.ref u.1)=(us.map λu=>V.ref u.1)++[.ref pt]:=by rw[B4];rfl
  refine ⟨_,rfl,.inl ⟨rfl,_,SqL.of el7⟩,_,rfl,_,rfl,l,_, -1,_,rfl,rfl,SqL.of el7,by rw[em];exact vE _ _,l,_,_,rfl,rfl,el7,by rw[BQ];exact CG (show _<=1000 by omega) (by decide),?_⟩
  have e8:((us++[(pt,[ta,tb])]).map λu=>V.ref u.1)++[V.ref pt]=((us++[(pt,[ta,tb])])++[(pt,[ta,tb])]).map λu=>V.ref u.1:=by rw[B4 (l₁:=us++[(pt,[ta,tb])])];rfl
  rw[e8]
  have ept:=tw7.at' (pt,[ta,tb]) (Cu _ B1)
  exact ⟨⟨_,_,_,rfl⟩,v7.qU hl0 nl _,_,af,(tw7.add ept b0 b1' b2').tup (keep el7),by rw[BU,Df];omega⟩
 ·rintro σ J ⟨⟨c4,c5,c6,rfl⟩,bJ,us,el,tw,lu⟩
  refine ⟨_,rfl,_,rfl,l,us,rfl,.inl (SqL.of el),λu hu=>⟨SqT.of (tw.at' u hu),by obtain ⟨a,b,e,_⟩:=tw.two u hu;rw[e];exact nofun⟩,λls out ns pm pw =>?_⟩
  refine ⟨ls,_,rfl,.inl ⟨SqL.of af,λlt nt=>⟨bR,λlr nr =>?_⟩⟩⟩
  have s1:=ae ns (.lst (out.map λt=>V.ref t.1))
  have s2:=s1.trans (ae nt (.tup (out.map λt=>V.ref t.1)))
  have s3':=s2.trans (ae nr (.tup [.int n,.ref lt]))
  refine q lr lt n out _ (bJ.same s3') af (ae nr _ _ _ af) ⟨λu hu=>s3' _ _ (tw.at' u (pm.mem_iff.mp hu)),λu hu=>tw.two u (pm.mem_iff.mp hu)⟩ (by omega) (by rw[pm.length_eq];omega) pw
end
open PySem L2
open Srt
def endsN (x:Int)(t:Tie):Int:=(if t.1=x then 1 else 0)+(if t.2.1=x then 1 else 0)
theorem qx {ts:List Tie}{x:Int}:(2:Int)∈ts.map (endsN x)↔(ts.filter (isAt x)).any (λt=>decide (t.1=t.2.1))=true:=by
 rw[Ce,Fx]
 constructor
 ·rintro ⟨t,ht,e⟩
  unfold endsN at e
  by_cases c1:t.1=x
  ·by_cases c2:t.2.1=x
   ·exact ⟨t,Co.mpr ⟨ht,by unfold isAt;rw[decide_eq_true c1];rfl⟩,decide_eq_true (c1.trans c2.symm)⟩
   ·rw[if_pos c1,if_neg c2] at e;omega
  ·rw[if_neg c1] at e
   split at e <;> omega
 ·rintro ⟨t,ht,e⟩
  have m:=Co.mp ht
  have e:=of_decide_eq_true e
  refine ⟨t,m.1,?_⟩
  have h2:=m.2
  unfold isAt at h2
  rw[Es,decide_eq_true_iff,decide_eq_true_iff] at h2
  unfold endsN
  have c1:t.1=x:=h2.elim id λz=>e.trans z
  have c2:t.2.1=x:=e.symm.trans c1
  rw[if_pos c1,if_pos c2];rfl
theorem qy:∀{ts:List Tie} {x:Int},¬ ((ts.filter (isAt x)).any (λt=>decide (t.1=t.2.1))=true)->(ts.map (endsN x)).sum=((ts.filter (isAt x)).length:Int)
 | [],_,_=>rfl
 | t :: ts,x,h=>by
  have h':¬ ((ts.filter (isAt x)).any (λt=>decide (t.1=t.2.1))=true):=λz=>h (by
   cases c:isAt x t with
   | true=>rw[DB c,ED,z,Kq]
   | false=>rw[DX (by rw[c];exact B2)];exact z)
  have ih:=qy h'
  rw[Ci,Gz,ih]
  cases c:isAt x t with
  | true =>
   rw[DB c,B3]
   rw[DB c,ED,Es,decide_eq_true_iff] at h
   have ne:t.1≠t.2.1:=λz=>h (.inl z)
   have h2:=c
   unfold isAt at h2
   rw[Es,decide_eq_true_iff,decide_eq_true_iff] at h2
   unfold endsN
   rcases h2 with z | z
   ·rw[if_pos z,if_neg (λy=>ne (z.trans y.symm))];omega
   ·rw[if_pos z,if_neg (λy=>ne (y.trans z.symm))];omega
  | false =>
   rw[DX (by rw[c];exact B2)]
   unfold isAt at c
   rw[Iw,decide_eq_false_iff_not,decide_eq_false_iff_not] at c
   unfold endsN
   rw[if_neg c.1,if_neg c.2];omega
structure Rws (K:BM)(H:Hp)(l:Addr)(st:List Stp):Prop where
 ex:∃vs:List (Addr×Stp),H l=some (.lst (vs.map λk =>.ref k.1))/\(∀k∈vs,RowC K H k.1 k.2.cs)/\vs.map (·.2)=st
theorem Rws.nil {K:BM}{H:Hp}{l:Addr}(e:H l=some (.lst [])):Rws K H l []:=⟨[],e,λk hk=>(by cases hk),rfl⟩
theorem Rws.same {K:BM}{H H':Hp}{l:Addr}{st:List Stp}(h:Rws K H l st)(s:aB H H'):Rws K H' l st:=by
 obtain ⟨vs,e,r,m⟩:=h.ex
 exact ⟨vs,s _ _ e,λk hk=>aE s (r k hk),m⟩
theorem Rws.add {K:BM}{H:Hp}{l p:Addr}{st:List Stp}{t:Stp}{xs:List V}(h:Rws K H l st)(el:H l=some (.lst xs))(r:RowC K H p t.cs):Rws K (upd H l (.lst (xs++[.ref p]))) l (st++[t]):=by
 obtain ⟨vs,e,rr,m⟩:=h.ex
 rw[el] at e
 cases e
 refine ⟨vs++[(p,t)],by rw[af,B4];rfl,λk hk =>?_,by rw[B4,m];rfl⟩
 rcases B5.mp hk with z | z
 ·exact dU el (rr k z)
 ·rw[Ck.mp z];exact dU el r
theorem Rws.len {K:BM}{H:Hp}{l:Addr}{st:List Stp}(h:Rws K H l st):∃xs,H l=some (.lst xs)/\xs.length=st.length:=by
 obtain ⟨vs,e,r,m⟩:=h.ex
 exact ⟨_,e,by rw[<- m,BQ,BQ]⟩
theorem cH {H H1:Hp}{l:Addr}{o:HO}(hl:H l=none)(s:aB H H1):aB H (upd H1 l o):=λa u e=>by rw[ax (aF e hl)];exact s _ _ e
theorem none_of {H H':Hp}{l:Addr}(s:aB H H')(h:H' l=none):H l=none:=by
 cases e:H l with
 | none=>rfl
 | some o=>rw[s _ _ e] at h;cases h
def gw (s:Sta)(p:List Int):List Stp:=p.filterMap λx=>(word s.ts x).map λw=>Stp.one w x
def iL (s:Sta)(a:Int)(p:List Int):List Stp:=(p.filter λb=>decide (a<b) && decide (2<cnt s.ts a b)).map λb=>Stp.two a b
def d7 (s:Sta)(p:List Int):List Stp:=p.flatMap λa=>iL s a s.lf
theorem d9 (s:Sta)(p:List Int)(x:Int):gw s (p++[x])=gw s p++(match word s.ts x with
 | some w=>[Stp.one w x]
 | none=>[]):=by
 unfold gw
 rw[List.filterMap_append]
 cases h:word s.ts x with
 | none=>simp[List.filterMap,h]
 | some w=>simp[List.filterMap,h]
theorem lH (s:Sta)(a b:Int)(p:List Int):iL s a (p++[b])=iL s a p++(if decide (a<b) && decide (2<cnt s.ts a b) then [Stp.two a b] else []):=by
 unfold iL
 rw[Di,B4]
 cases c:decide (a<b) && decide (2<cnt s.ts a b) with
 | true=>simp[List.filter,c]
 | false=>simp[List.filter,c]
theorem oQ (s:Sta)(a:Int)(p:List Int):d7 s (p++[a])=d7 s p++iL s a s.lf:=by
 unfold d7
 rw[List.flatMap_append]
 simp
theorem lI (s:Sta)(p:List Int):(gw s p).length<=p.length:=HD _ _
theorem nC (s:Sta)(a:Int)(p:List Int):(iL s a p).length<=p.length:=by
 unfold iL
 rw[BQ]
 exact Dm _ _
theorem jH (s:Sta):∀p:List Int,(d7 s p).length<=p.length*s.lf.length
 | []=>CC _
 | a :: p=>by
  have h1:=jH s p
  have h2:=nC s a s.lf
  unfold d7 at *
  rw[HC,BU,B3,Nat.succ_mul]
  omega
@[irreducible] def iM (K:BM):Sp:=λvs H Q _=>∃(p:Addr) (s:Sta),vs=[.ref p]/\StA K H p s/\Wf s/\∀(l:Addr) (H':Hp) (os:List (Addr×Stp)),aB H H'->H' l=some (.lst (os.map λk =>.ref k.1))->(∀k∈os,RowC K H' k.1 k.2.cs)->os.map (·.2)=cZ s->Q (.ref l) H'
theorem fJ {K:BM}{vs:List V}{H:Hp}{Q:VK}{E:XK}:iM K vs H Q E↔∃(p:Addr) (s:Sta),vs=[.ref p]/\StA K H p s/\Wf s/\∀(l:Addr) (H':Hp) (os:List (Addr×Stp)),aB H H'->H' l=some (.lst (os.map λk =>.ref k.1))->(∀k∈os,RowC K H' k.1 k.2.cs)->os.map (·.2)=cZ s->Q (.ref l) H':=by
 delta iM
 exact Eg
section
variable  {P:B7}{w:CJ}{K:BM}{mg:Str->Option BP}{base:Heap}{f T:Addr}{fd:CT}
theorem cV:aV ["state", "left", "ties", "taken", "found", "place", "ends", "one", "other"] ["state"] (aA oE):=⟨rfl,rfl,rfl,by decide +kernel,rfl,by decide +kernel,by decide +kernel⟩
theorem ib:(["tie", "place"]:List Str).Nodup:=by decide +kernel
theorem fK:(["tie", "one", "other"]:List Str).Nodup:=by decide +kernel
theorem xn (F:Fun K "_law_steps" "_law_steps" oE f fd)(B:Blt mg):bS P w K mg base CX0 1 f fd ["state"] (iM K):=by
 refine F.ok cV (λvs H Q E h =>?_) (λcdv A outer s H vs Q E hr h =>?_)
 ·obtain ⟨_,_,rfl,_⟩:=fJ.mp h
  rfl
 obtain ⟨p,z,rfl,hs,W,q⟩:=fJ.mp h
 refine ⟨_,(@aj _ _ _ _ _ (@qD _ _ _ _ _ _ (pv 0) (nK rfl (cA (aS (i:=1) cV.nd rfl (Or.inl rfl)) (cA (aS (i:=2) cV.nd rfl (Or.inl rfl)) (cA (aS (i:=3) cV.nd rfl (Or.inl rfl)) jZ)))) rfl rfl rfl)
  (@aj _ _ _ _ _ (@aU _ _ 4 _ _ _ _ cV.nd rfl (Or.inl rfl) (@dH _ _ _ _ ag) rfl (by first | exact .inl rfl | exact .inr rfl | assumption))
  (@aj _ _ _ _ _ (@fe _ _ _ _ _ _ _ _ D8 rfl (@cq _ _ _ _ (pv 1)) (aS (i:=5) cV.nd rfl (Or.inr rfl))
   (@aj _ _ _ _ _ (cB (i:=6) ["tie", "place"] [none,some 5] rfl cV.nd rfl rfl (@cq _ _ _ _ (pv 2)) rfl (λ_ _ _ _ _=>(aS (i:=0) ib rfl (Or.inl rfl))) (λ_ _ _ _ _=>eC) (λ_ _ _ _ _=>(@bC _ _ _ _ _ _ _ _ eB (bh mi rfl B.b_int g6 (@aa _ _ _ _ _ (bD bp (@aG _ _ _ _ _ _ _ (cf (K:=K)) (pv 0) ai (λ_ _=>rfl)) (pv 1) (aH _)) ag rfl)) (bh mi rfl B.b_int g6 (@aa _ _ _ _ _ (bD bp (@aG _ _ _ _ _ _ _ (cf (K:=K)) (pv 0) ai (λ_ _=>rfl)) (pv 1) (aH _)) ag rfl)))))
   (@aq _ _ _ (@ba _ _ _ _ _ _ _ _ (aJ mC ai (pv 6) rfl) (@aq _ _ _ (cK (fY C3 CZ C0 cg (pv 4) (@aa _ _ _ _ _ (@aP _ _ _ _ _ (@aa _ _ _ _ _ bU (@aa _ _ _ _ _ (pv 5) ag rfl) rfl)) ag rfl)))) (@aq _ _ _ (@ba _ _ _ _ _ _ _ _ (aJ vz (ak (px hr.hd) rfl B.b_sum wY (@aa _ _ _ _ _ (pv 6) ag rfl)) ai (aH _)) (@aq _ _ _ (cK (fY C3 CZ C0 cg (pv 4) (@aa _ _ _ _ _ (@aP _ _ _ _ _ (@aa _ _ _ _ _ bU (@aa _ _ _ _ _ (pv 5) ag rfl) rfl)) ag rfl)))) (@aq _ _ _ (@ba _ _ _ _ _ _ _ _ (aJ bp (ak (px hr.hd) rfl B.b_sum wY (@aa _ _ _ _ _ (pv 6) ag rfl)) ai (aH _)) (@aq _ _ _ (cK (fY C3 CZ C0 cg (pv 4) (@aa _ _ _ _ _ (@aP _ _ _ _ _ (@aa _ _ _ _ _ bU (@aa _ _ _ _ _ (pv 5) ag rfl) rfl)) ag rfl)))) aK))))))) (λ_=>rfl))
  (@aj _ _ _ _ _ (@fe _ _ _ _ _ _ _ _ D8 rfl (@cq _ _ _ _ (pv 1)) (aS (i:=7) cV.nd rfl (Or.inr rfl))
   (@aq _ _ _ (@fe _ _ _ _ _ _ _ _ D8 rfl (@cq _ _ _ _ (pv 1)) (aS (i:=8) cV.nd rfl (Or.inr rfl))
    (@aq _ _ _ (@ba _ _ _ _ _ _ _ _ (PW.pt (nJ (aJ vz (pv 7) (pv 8) (aH _)) (jY (aJ sr (ak aX rfl B.b_len cU (@aa _ _ _ _ _ (cy ["tie", "one", "other"] [none,some 7,some 8] rfl (@cq _ _ _ _ (pv 2)) rfl (λ_ _ _ _ _=>(aS (i:=0) fK rfl (Or.inl rfl))) (λ_ _ _ _ _=>(dt (aJ (rF (K:=K) (hu8 hr)) (cR (gC (K:=K)) (pv 0) dw (dy ai)) (@aP _ _ _ _ _ (@aa _ _ _ _ _ (pv 1) (@aa _ _ _ _ _ (pv 2) ag rfl) rfl)) (aH _)))) (λ_ _ _ _ _=>(pv 0))) ag rfl)) ai (aH _))))) (@aq _ _ _ (cK (fY C3 CZ C0 cg (pv 4) (@aa _ _ _ _ _ (@aP _ _ _ _ _ (@aa _ _ _ _ _ bU (@aa _ _ _ _ _ (pv 7) (@aa _ _ _ _ _ (pv 8) ag rfl) rfl) rfl)) ag rfl)))) aK)) (λ_=>rfl))) (λ_=>rfl))
  (@aq _ _ _ (@aL _ _ _ _ (ak (cv (hu8 hr)) rfl B.b_sorted cj (@aa _ _ _ _ _ (pv 4) ag rfl)))))))),?_⟩
 obtain ⟨a,b,c,ks,h1,h2,h3,h4,h5⟩:=hs
 have lk:ks.length<=400:=by have:=W.ts;rw[<- h4,BQ] at this;exact this
 have ll:=W.lf
 refine ⟨_,rfl,p,_,rfl,h1,rfl,_,_,rfl,_,_,rfl,_,_,rfl,rfl,?_⟩
 refine ⟨CC _,λl hl =>?_⟩
 have s0:aB H (upd H l (.lst [])):=ae hl _
 have e0:(upd H l (.lst [])) l=some (.lst []):=af
 generalize upd H l (.lst [])=H1 at s0 e0
 refine ⟨_,rfl,a,rfl,⟨_,ah s0 h2⟩,iG V.int z.lf (λpr σ H'=>(∃c5 c6 c7 c8,σ=[some (.ref p),some (.ref a),some (.ref b),some (.ref c),some (.ref l),c5,c6,c7,c8])/\aB H H'/\Rws K H' l (gw z pr)) ⟨⟨_,_,_,_,rfl⟩,s0,Rws.nil e0⟩ (λpr σ H' h=>ah h.2.1 h2) ?_ ?_⟩
 ·rintro pr x r σ J hx ⟨⟨c5,c6,c7,c8,rfl⟩,sJ,rw1⟩
  have lpr:pr.length<=400:=by have:=congrArg List.length hx;rw[BU] at this;omega
  refine ⟨_,rfl,b,rfl,⟨_,ah sJ h3.1⟩,cY (λk:Addr×Tie=>V.ref k.1) (λk=>V.int (endsN x k.2)) (λ_=>true) ks (ah sJ h3.1) (small (by omega)) (λk hk R r=>r) (λk hk _ R r =>?e) λle ne =>?c⟩
  case e =>
   obtain ⟨wb,w1,w2⟩:=fQ (aE sJ (h3.2 k hk))
   refine ⟨_,rfl,k.1,_,0,_,rfl,rfl,w1,rfl,_,rfl,rfl,.inr ⟨_,rfl,_,rfl,k.1,_,1,_,rfl,rfl,w1,rfl,_,rfl,rfl,.inr ⟨_,rfl,_,_,rfl,rfl,?_⟩⟩⟩
   have di:∀i:Int,(if decide (V.int i=V.int x)=true then (1:Int) else 0)=if i=x then 1 else 0:=λi=>by
    by_cases c:i=x
    ·rw[if_pos c,decide_eq_true (by rw[c])];rfl
    ·rw[if_neg c,decide_eq_false (λy=>c (V.int.inj y))];rfl
   have r':R (V.int (endsN x k.2)) J:=r
   unfold endsN at r'
   rw[di,di]
   exact r'
  case c =>
  rw[EU.mpr (λ_ _=>rfl)]
  have em:(ks.map λk=>V.int (endsN x k.2))=(z.ts.map (endsN x)).map V.int:=by rw[<- h4,Cs,Cs];rfl
  rw[em]
  have s2:=sJ.trans (ae ne (.lst ((z.ts.map (endsN x)).map V.int)))
  have rw2:=rw1.same (ae ne (.lst ((z.ts.map (endsN x)).map V.int)))
  have ee:(upd J le (.lst ((z.ts.map (endsN x)).map V.int))) le=_:=af
  generalize upd J le (.lst ((z.ts.map (endsN x)).map V.int))=J2 at s2 rw2 ee
  obtain ⟨fs,el,lf⟩:=rw2.len
  have lfs:fs.length<Ca:=by
   have:=lI z pr
   exact CG (show fs.length<=400 by omega) (by decide)
  refine ⟨_,rfl,le,_,rfl,.inl (SqL.of ee),rfl,nA _,?_⟩
  rw[if_neg B2,iJ]
  refine ⟨_,rfl,?_⟩
  by_cases c1:(z.ts.filter (isAt x)).any (λt=>decide (t.1=t.2.1))=true
  ·have ew:word z.ts x=some ("loop" : Str):=by unfold word;rw[if_pos c1]
   rw[decide_eq_true (qx.mpr c1)]
   refine bN ?_
   refine ⟨_,rfl,.inl ⟨rfl,_,SqL.of el⟩,_,rfl,bR,λpt nt=>⟨l,_,_,rfl,rfl,ae nt _ _ _ el,by omega,?_⟩⟩
   have s3:=s2.trans (ae nt (.tup [.str "loop",.int x]))
   refine ⟨⟨_,_,_,_,rfl⟩,cH hl s3,?_⟩
   rw[d9,ew]
   exact (rw2.same (ae nt _)).add (ae nt _ _ _ el) ⟨_,SqT.of af,rfl,rfl,trivial⟩
  ·rw[decide_eq_false (λh=>c1 (qx.mp h))]
   have sm:=qy c1
   refine bK ⟨_,rfl,le,_,rfl,ee,_,_,rfl,rfl,_,rfl,?_⟩
   rw[sm]
   by_cases c2:(z.ts.filter (isAt x)).length<=1
   ·have ew:word z.ts x=some ("lone" : Str):=by unfold word;rw[if_neg c1,if_pos c2]
    rw[decide_eq_true (show (((z.ts.filter (isAt x)).length:Nat):Int)<2 by omega)]
    refine bN ?_
    refine ⟨_,rfl,.inl ⟨rfl,_,SqL.of el⟩,_,rfl,bR,λpt nt=>⟨l,_,_,rfl,rfl,ae nt _ _ _ el,by omega,?_⟩⟩
    have s3:=s2.trans (ae nt (.tup [.str "lone",.int x]))
    refine ⟨⟨_,_,_,_,rfl⟩,cH hl s3,?_⟩
    rw[d9,ew]
    exact (rw2.same (ae nt _)).add (ae nt _ _ _ el) ⟨_,SqT.of af,rfl,rfl,trivial⟩
   ·rw[decide_eq_false (show ¬ (((z.ts.filter (isAt x)).length:Nat):Int)<2 by omega)]
    refine bK ⟨_,rfl,le,_,rfl,ee,rfl,_,rfl,?_⟩
    rw[sm]
    by_cases c3:(z.ts.filter (isAt x)).length=2
    ·have ew:word z.ts x=some ("two" : Str):=by unfold word;rw[if_neg c1,if_neg c2,if_pos c3]
     rw[decide_eq_true (show V.int (((z.ts.filter (isAt x)).length:Nat):Int)=V.int 2 by rw[c3];rfl)]
     refine bN ?_
     refine ⟨_,rfl,.inl ⟨rfl,_,SqL.of el⟩,_,rfl,bR,λpt nt=>⟨l,_,_,rfl,rfl,ae nt _ _ _ el,by omega,?_⟩⟩
     have s3:=s2.trans (ae nt (.tup [.str "two",.int x]))
     refine ⟨⟨_,_,_,_,rfl⟩,cH hl s3,?_⟩
     rw[d9,ew]
     exact (rw2.same (ae nt _)).add (ae nt _ _ _ el) ⟨_,SqT.of af,rfl,rfl,trivial⟩
    ·have ew:word z.ts x=none:=by unfold word;rw[if_neg c1,if_neg c2,if_neg c3]
     rw[decide_eq_false (show ¬ V.int (((z.ts.filter (isAt x)).length:Nat):Int)=V.int 2 from λy=>c3 (by have:=V.int.inj y;omega))]
     refine bK ⟨⟨_,_,_,_,rfl⟩,s2,?_⟩
     rw[d9,ew,CF]
     exact rw2
 ·rintro σ J ⟨⟨c5,c6,c7,c8,rfl⟩,sJ,rw1⟩
  refine ⟨_,rfl,a,rfl,⟨_,ah sJ h2⟩,iG V.int z.lf (λpr σ H'=>(∃c5 c6 c7 c8,σ=[some (.ref p),some (.ref a),some (.ref b),some (.ref c),some (.ref l),c5,c6,c7,c8])/\aB H H'/\Rws K H' l (gw z z.lf++d7 z pr)) ⟨⟨_,_,_,_,rfl⟩,sJ,by show Rws K J l (_++[]);rw[CF];exact rw1⟩ (λpr σ H' h=>ah h.2.1 h2) ?_ ?_⟩
  ·rintro pr x r σ J1 hx ⟨⟨c5,c6,c7,c8,rfl⟩,sJ1,rwA⟩
   refine ⟨_,rfl,a,rfl,⟨_,ah sJ1 h2⟩,iG V.int z.lf (λpq σ H'=>(∃c5 c6 c8,σ=[some (.ref p),some (.ref a),some (.ref b),some (.ref c),some (.ref l),c5,c6,some (.int x),c8])/\aB H H'/\Rws K H' l (gw z z.lf++d7 z pr++iL z x pq)) ⟨⟨_,_,_,rfl⟩,sJ1,by show Rws K J1 l (_++[]);rw[CF];exact rwA⟩ (λpr σ H' h=>ah h.2.1 h2) ?_ ?_⟩
   ·rintro pq y r' σ J2 hy ⟨⟨c5,c6,c8,rfl⟩,sJ2,rwB⟩
    obtain ⟨fs,el,lf⟩:=rwB.len
    have lfs:fs.length<Ca:=by
     have e1:=lI z z.lf
     have e2:=jH z pr
     have e3:=nC z x pq
     have e4:pr.length<=400:=by have:=congrArg List.length hx;rw[BU] at this;omega
     have e5:pq.length<=400:=by have:=congrArg List.length hy;rw[BU] at this;omega
     have e6:pr.length*z.lf.length<=400*400:=Kb e4 ll
     rw[BU,BU] at lf
     exact CG (show fs.length<=400000 by omega) (by decide)
    have no:∀J',aB J2 J'->(decide (x<y) && decide (2<cnt z.ts x y))=false->Rws K J' l (gw z z.lf++d7 z pr++iL z x (pq++[y])):=λJ' s' c=>by
     rw[lH,c]
     show Rws K J' l (_++(_++[]))
     rw[CF]
     exact rwB.same s'
    refine ⟨_,rfl,_,rfl,_,_,rfl,rfl,_,rfl,?_⟩
    by_cases c1:x<y
    ·rw[decide_eq_true c1]
     refine bN ⟨_,rfl,b,rfl,⟨_,ah sJ2 h3.1⟩,dj (λk:Addr×Tie=>V.ref k.1) (λk=>V.ref k.1) (λk=>decide (k.2.1=x/\k.2.2.1=y)) ks (ah sJ2 h3.1) (small (by omega)) (λk hk J3 s3 R r =>?t) (λk hk _ J3 s3 R r=>⟨_,rfl,r⟩) λJ3 lc s3 nc =>?c⟩
     case t =>
      obtain ⟨wb,w1,w2⟩:=fQ (aE (sJ2.trans s3) (h3.2 k hk))
      refine ⟨_,rfl,_,rfl,k.1,_,rfl,w1,λp4 J4 s4 e4 =>?_⟩
      rw[gF] at e4
      refine ⟨_,rfl,_,rfl,bR,λp5 n5=>⟨p4,p5,[.i k.2.1,.i k.2.2.1],[.i x,.i y],rfl,rfl,⟨_,ah (ae n5 _) e4,rfl,rfl,trivial⟩,⟨_,SqT.of af,rfl,rfl,trivial⟩,_,rfl,?_⟩⟩
      have e:decide ([Cell.i k.2.1,Cell.i k.2.2.1]=[Cell.i x,Cell.i y])=decide (k.2.1=x/\k.2.2.1=y):=decide_eq_decide.mpr (by simp)
      rw[e]
      exact r _ (s4.trans (ae n5 _))
     case c =>
      have ec:(ks.filter λk=>decide (k.2.1=x/\k.2.2.1=y)).length=cnt z.ts x y:=by
       unfold cnt
       rw[<- h4,DW,BQ];rfl
      have s4:=s3.trans (ae nc (.lst ((ks.filter λk=>decide (k.2.1=x/\k.2.2.1=y)).map λk=>V.ref k.1)))
      refine ⟨lc,_,rfl,.inl (SqL.of af),_,_,rfl,rfl,_,rfl,?_⟩
      rw[BQ,ec]
      have el4:=s4 _ _ el
      have rw4:=rwB.same s4
      generalize upd J3 lc (.lst ((ks.filter λk=>decide (k.2.1=x/\k.2.2.1=y)).map λk=>V.ref k.1))=J4 at s4 el4 rw4
      by_cases c2:2<cnt z.ts x y
      ·rw[decide_eq_true (show ((cnt z.ts x y:Nat):Int)>2 by omega)]
       refine bN ⟨_,rfl,.inl ⟨rfl,_,SqL.of el4⟩,_,rfl,_,rfl,bL,λpt nt=>⟨l,_,_,rfl,rfl,ae nt _ _ _ el4,lfs,⟨_,_,_,rfl⟩,cH hl ((sJ2.trans s4).trans (ae nt _)),?_⟩⟩
       rw[lH,decide_eq_true c1,decide_eq_true c2,if_pos (by rfl), <- CL]
       have g5:=ae nt (.tup [.str "many",.int x,.int y])
       exact (rw4.same g5).add (t :=.two x y) (g5 _ _ el4) ⟨_,SqT.of af,rfl,rfl,rfl,trivial⟩
      ·rw[decide_eq_false (show ¬ ((cnt z.ts x y:Nat):Int)>2 by omega)]
       exact bK ⟨⟨_,_,_,rfl⟩,sJ2.trans s4,no J4 s4 (by rw[decide_eq_false c2,Ho])⟩
    ·rw[decide_eq_false c1]
     exact bK (bK ⟨⟨_,_,_,rfl⟩,sJ2,no J2 (aB.refl _) (by rw[decide_eq_false c1,IA])⟩)
   ·rintro σ J2 ⟨⟨c5,c6,c8,rfl⟩,sJ2,rwB⟩
    refine ⟨⟨_,_,_,_,rfl⟩,sJ2,?_⟩
    rw[oQ, <- CL]
    exact rwB
  ·rintro σ J1 ⟨⟨c5,c6,c7,c8,rfl⟩,sJ1,rwA⟩
   obtain ⟨vs,ev,rv,mv⟩:=rwA.ex
   refine ⟨_,rfl,_,l,vs.map (λk:Addr×Stp=>(k.1,k.2.cs)),xc,rfl,.inl (by rw[Cs];exact SqL.of ev),λk hk =>?_,λls out ns pm pw =>?_⟩
   ·obtain ⟨k',hk',rfl⟩:=Ce.mp hk
    exact ⟨rv k' hk',k'.2,rfl⟩
   obtain ⟨os,pmo,rfl⟩:=bM pm
   refine q ls _ os (sJ1.trans (ae ns _)) (by rw[Cs];exact af) (λk hk=>aE (ae ns _) (rv k (pmo.mem_iff.mp hk))) (lD ?_ ?_)
   ·refine (pmo.map (·.2)).trans ?_
    rw[mv]
    exact E1 _
   ·rw[CI] at pw ⊢
    exact pw
end
open PySem L2
open Srt
theorem nD (a b c:V):gI [a,b,c] (some 1) none=[b,c]:=rfl
def TsS (l:List Tie):Prop:=l.Pairwise λa b=>HT.lexLt (bz (tc b)) (bz (tc a))=false
theorem rZ {l:List Tie}(h:TsS l):cQ l=l:=(dM (E1 l) h).symm
theorem lJ (l:List Tie):TsS (cQ l):=by
 refine (EV ng ni l).imp λ{a b} h =>?_
 unfold leT at h
 rwa [D4] at h
theorem r6 {l:List Tie}(h:TsS l)(p:Tie->Bool):TsS (l.filter p):=Kr p h
abbrev wc (u:Int×List Int):List Cell:=[.i u.1,.t u.2]
theorem AO (a b:Int×List Int):mY (wc a) (wc b):=⟨rfl,rfl,trivial⟩
theorem AQ:Alike (λcs=>∃u,cs=wc u):=⟨λa b ⟨t,e1⟩ ⟨u,e2⟩=>by subst e1 e2;exact AO t u,.inl λa ⟨t,e⟩=>⟨t.1,by rw[e];rfl⟩⟩
theorem xo {K:BM}{H:Hp}{p:Addr}{u:Int×List Int}(h:RowC K H p (wc u)):∃b,SqT K H p [.int u.1,.ref b]/\SqT K H b (u.2.map V.int):=by
 obtain ⟨xs,h1,h2⟩:=h
 obtain ⟨x1,ys,rfl,e1,h3⟩:=h2.cons
 obtain ⟨x2,zs,rfl,⟨b,e2,k⟩,h4⟩:=h3.cons
 subst e2
 obtain rfl:=h4.nil
 cases (show x1=V.int u.1 from e1)
 exact ⟨b,h1,k⟩
theorem xp {K:BM}{H:Hp}{p b:Addr}{u:Int×List Int}(h1:SqT K H p [.int u.1,.ref b])(h2:SqT K H b (u.2.map V.int)):RowC K H p (wc u):=⟨_,h1,rfl,⟨b,rfl,h2⟩,trivial⟩
def ck (x:Int)(t:Tie):Int×List Int:=(other t x,(bT t x).reverse)
theorem BI {a b:Int×List Int}(h:HT.lexLt (bz (wc b)) (bz (wc a))=false):a.1<=b.1:=by
 by_cases c:b.1=a.1
 ·omega
 ·have:bz (wc b)=b.1 :: bz [Cell.t b.2]:=rfl
  have e2:bz (wc a)=a.1 :: bz [Cell.t a.2]:=rfl
  rw[this,e2,HT.aY,if_neg c] at h
  have:=of_decide_eq_false h
  omega
theorem xq {α:Type}{a b:α}{l:List α}(h:l.Perm [a,b]):l=[a,b]\/l=[b,a]:=by
 match l,h.length_eq with
 | [y,z],_ =>
  rcases Cw.mp (h.mem_iff.mp B1) with e | e
  ·subst e
   exact .inl (by rw[Eh.mp ((F9 y).mp h)])
  ·have e:=Ck.mp e
   subst e
   exact .inr (by rw[Eh.mp ((F9 y).mp (h.trans (List.Perm.swap _ _ _)))])
theorem zc {u:Tie}{x:Int}(nl:u.1≠u.2.1)(ha:isAt x u=true):(ck x u).2=bT u (other u x):=(hV nl ha).symm
theorem xr {a b:Int}(h:a<b)(t:Tie):btw a b t=decide (t.1=a/\t.2.1=b):=by
 unfold btw
 rw[if_neg (show ¬ b<a by omega),if_pos (show b>a by omega)]
 exact decide_eq_decide.mpr (by simp[Ko])
@[irreducible] def gH (K:BM):Sp:=λvs H Q _=>∃(p r:Addr) (s:Sta) (st:Stp),vs=[.ref p,.ref r]/\StA K H p s/\RowC K H r st.cs/\st∈raw s/\Wf s/\TsS s.ts/\∀(p':Addr) (H':Hp),aB H H'->StA K H' p' (behind s st)->Q (.ref p') H'
theorem eM {K:BM}{vs:List V}{H:Hp}{Q:VK}{E:XK}:gH K vs H Q E↔∃(p r:Addr) (s:Sta) (st:Stp),vs=[.ref p,.ref r]/\StA K H p s/\RowC K H r st.cs/\st∈raw s/\Wf s/\TsS s.ts/\∀(p':Addr) (H':Hp),aB H H'->StA K H' p' (behind s st)->Q (.ref p') H':=by
 delta gH
 exact Eg
section
variable  {P:B7}{w:CJ}{K:BM}{mg:Str->Option BP}{base:Heap}{f T:Addr}{fd:CT}
theorem bG:aV ["state", "step", "left", "ties", "taken", "some", "stay", "place", "rest", "ways", "one", "other", "way"] ["state", "step"] (aA lj):=⟨rfl,rfl,rfl,by decide +kernel,rfl,by decide +kernel,by decide +kernel⟩
theorem dO:(["tie", "step"]:List Str).Nodup:=by decide +kernel
theorem fU:(["other", "place"]:List Str).Nodup:=by decide +kernel
theorem gN:(["tie", "place"]:List Str).Nodup:=by decide +kernel
theorem vf (F:Fun K "_law_behind" "_law_behind" lj f fd)(B:Blt mg):bS P w K mg base CX0 1 f fd ["state", "step"] (gH K):=by
 refine F.ok bG (λvs H Q E h =>?_) (λcdv A outer s H vs Q E hr h =>?_)
 ·obtain ⟨_,_,_,_,rfl,_⟩:=eM.mp h
  rfl
 obtain ⟨p,r,z,st,rfl,hs,hq,hst,W,ss,k⟩:=eM.mp h
 refine ⟨_,(@aj _ _ _ _ _ (@qD _ _ _ _ _ _ (pv 0) (nK rfl (cA (aS (i:=2) bG.nd rfl (Or.inl rfl)) (cA (aS (i:=3) bG.nd rfl (Or.inl rfl)) (cA (aS (i:=4) bG.nd rfl (Or.inl rfl)) jZ)))) rfl rfl rfl)
  (@aj _ _ _ _ _ (@ba _ _ _ _ _ _ _ _ (aJ bp (@aG _ _ _ _ _ _ _ aM (pv 1) ai (λ_ _=>rfl)) bU (aH _)) (@aj _ _ _ _ _ (cB (i:=5) ["tie", "step"] [none,some 1] rfl bG.nd rfl rfl (@cq _ _ _ _ (pv 3)) rfl (λ_ _ _ _ _=>(aS (i:=0) dO rfl (Or.inl rfl))) (λ_ _ _ _ _=>(dt (aJ (rF (K:=K) (hu8 hr)) (cR (gC (K:=K)) (pv 0) dw (dy ai)) (cR (gC (K:=K)) (pv 1) (dy ai) dw) (aH _)))) (λ_ _ _ _ _=>(pv 0)))
   (@aj _ _ _ _ _ (cB (i:=6) ["tie", "step"] [none,some 1] rfl bG.nd rfl rfl (@cq _ _ _ _ (pv 3)) rfl (λ_ _ _ _ _=>(aS (i:=0) dO rfl (Or.inl rfl))) (λ_ _ _ _ _=>(dt (aJ (wq (K:=K) (hu8 hr)) (cR (gC (K:=K)) (pv 0) dw (dy ai)) (cR (gC (K:=K)) (pv 1) (dy ai) dw) (aH _)))) (λ_ _ _ _ _=>(pv 0)))
   (@aq _ _ _ (@aL _ _ _ _ (@aP _ _ _ _ _ (@aa _ _ _ _ _ (pv 2) (@aa _ _ _ _ _ (bh aW rfl B.b_tuple aO (@aa _ _ _ _ _ (ak (cv (hu8 hr)) rfl B.b_sorted cj (@aa _ _ _ _ _ (@bC _ _ _ _ _ _ _ _ j7 (pv 6) (cR nQ (pv 5) dw (dy ai))) ag rfl)) ag rfl)) (@aa _ _ _ _ _ (pv 4) ag rfl) rfl) rfl)))))) aK)
  (@aj _ _ _ _ _ (@aU _ _ 7 _ _ _ _ bG.nd rfl (Or.inr rfl) (@aG _ _ _ _ _ _ _ aM (pv 1) ai (λ_ _=>rfl)) rfl (by first | exact .inl rfl | exact .inr rfl | assumption))
  (@aj _ _ _ _ _ (cB (i:=8) ["other", "place"] [none,some 7] rfl bG.nd rfl rfl (@cq _ _ _ _ (pv 2)) rfl (λ_ _ _ _ _=>(aS (i:=0) fU rfl (Or.inl rfl))) (λ_ _ _ _ _=>(dt (aJ mf (pv 0) (pv 1) (aH _)))) (λ_ _ _ _ _=>(pv 0)))
  (@aj _ _ _ _ _ (cB (i:=6) ["tie", "place"] [none,some 7] rfl bG.nd rfl rfl (@cq _ _ _ _ (pv 3)) rfl (λ_ _ _ _ _=>(aS (i:=0) gN rfl (Or.inl rfl))) (λ_ _ _ _ _=>(dt (aJ (uf (K:=K)) (pv 1) (cR (gC (K:=K)) (pv 0) dw (dy ai)) rfl))) (λ_ _ _ _ _=>(pv 0)))
  (@aj _ _ _ _ _ (@ba _ _ _ _ _ _ _ _ (aJ bp (@aG _ _ _ _ _ _ _ aM (pv 1) ai (λ_ _=>rfl)) bU (aH _)) (@aq _ _ _ (@aL _ _ _ _ (@aP _ _ _ _ _ (@aa _ _ _ _ _ (bh aW rfl B.b_tuple aO (@aa _ _ _ _ _ (pv 8) ag rfl)) (@aa _ _ _ _ _ (bh aW rfl B.b_tuple aO (@aa _ _ _ _ _ (pv 6) ag rfl)) (@aa _ _ _ _ _ (bh aW rfl B.b_tuple aO (@aa _ _ _ _ _ (ak iy rfl B.b_sorted cj (@aa _ _ _ _ _ (@bC _ _ _ _ _ _ _ _ iz (pv 4) (@aP _ _ _ _ _ (@aa _ _ _ _ _ (pv 7) ag rfl))) ag rfl)) ag rfl)) ag rfl) rfl) rfl)))) aK)
  (@aj _ _ _ _ _ (@ba _ _ _ _ _ _ _ _ (aJ bp (@aG _ _ _ _ _ _ _ aM (pv 1) ai (λ_ _=>rfl)) bU (aH _)) (@aj _ _ _ _ _ (@aU _ _ 9 _ _ _ _ bG.nd rfl (Or.inl rfl) (@dH _ _ _ _ ag) rfl (by first | exact .inl rfl | exact .inr rfl | assumption))
   (@aj _ _ _ _ _ (@fe _ _ _ _ _ _ _ _ D8 rfl (@cq _ _ _ _ (pv 3)) (nK rfl (cA (aS (i:=10) bG.nd rfl (Or.inl rfl)) (cA (aS (i:=11) bG.nd rfl (Or.inl rfl)) (cA (aS (i:=12) bG.nd rfl (Or.inl rfl)) jZ))))
    (@aq _ _ _ (@ba _ _ _ _ _ _ _ _ (aJ bp (pv 10) (pv 7) (aH _)) (@aq _ _ _ (cK (fY C3 CZ C0 cg (pv 9) (@aa _ _ _ _ _ (@aP _ _ _ _ _ (@aa _ _ _ _ _ (pv 11) (@aa _ _ _ _ _ (oh (pv 12)) ag rfl) rfl)) ag rfl)))) (@aq _ _ _ (@ba _ _ _ _ _ _ _ _ (aJ bp (pv 11) (pv 7) (aH _)) (@aq _ _ _ (cK (fY C3 CZ C0 cg (pv 9) (@aa _ _ _ _ _ (@aP _ _ _ _ _ (@aa _ _ _ _ _ (pv 10) (@aa _ _ _ _ _ (pv 12) ag rfl) rfl)) ag rfl)))) aK)))) (λ_=>rfl))
   (@aj _ _ _ _ _ (@aU _ _ 9 _ _ _ _ bG.nd rfl (Or.inl rfl) (ak (cv (hu8 hr)) rfl B.b_sorted cj (@aa _ _ _ _ _ (pv 9) ag rfl)) rfl (by first | exact .inl rfl | exact .inr rfl | assumption))
   (@aj _ _ _ _ _ (@aU _ _ 12 _ _ _ _ bG.nd rfl (Or.inl rfl) (@bC _ _ _ _ _ _ _ _ pH (@bC _ _ _ _ _ _ _ _ iz (@aG _ _ _ _ _ _ _ aM (@aG _ _ _ _ _ _ _ bQ (pv 9) ai (λ_ _=>rfl)) ai (λ_ _=>rfl)) (@aP _ _ _ _ _ (@aa _ _ _ _ _ (pv 7) ag rfl))) (oh (@aG _ _ _ _ _ _ _ aM (@aG _ _ _ _ _ _ _ bQ (pv 9) ai (λ_ _=>rfl)) ai (λ_ _=>rfl)))) rfl (by first | exact .inl rfl | exact .inr rfl | assumption))
   (@aj _ _ _ _ _ (@ba _ _ _ _ _ _ _ _ (aJ bp (@aG _ _ _ _ _ _ _ aM (@aG _ _ _ _ _ _ _ bQ (pv 9) ai (λ_ _=>rfl)) ai (λ_ _=>rfl)) (@aG _ _ _ _ _ _ _ aM (@aG _ _ _ _ _ _ _ bQ (pv 9) ai (λ_ _=>rfl)) ai (λ_ _=>rfl)) (aH _)) (@aq _ _ _ (@aU _ _ 12 _ _ _ _ bG.nd rfl (Or.inl rfl) (ak (kT rfl (hu8 hr)) rfl B.b_min lq (@aa _ _ _ _ _ (pv 12) (@aa _ _ _ _ _ (oh (pv 12)) ag rfl) rfl)) rfl (by first | exact .inl rfl | exact .inr rfl | assumption))) aK)
   (@aq _ _ _ (cK (fY C3 CZ C0 cg (pv 6) (@aa _ _ _ _ _ (@aP _ _ _ _ _ (@aa _ _ _ _ _ (@aG _ _ _ _ _ _ _ aM (@aG _ _ _ _ _ _ _ bQ (pv 9) ai (λ_ _=>rfl)) ai (λ_ _=>rfl)) (@aa _ _ _ _ _ (@aG _ _ _ _ _ _ _ aM (@aG _ _ _ _ _ _ _ bQ (pv 9) ai (λ_ _=>rfl)) ai (λ_ _=>rfl)) (@aa _ _ _ _ _ (pv 12) ag rfl) rfl) rfl)) ag rfl))))))))) aK)
  (@aq _ _ _ (@aL _ _ _ _ (@aP _ _ _ _ _ (@aa _ _ _ _ _ (bh aW rfl B.b_tuple aO (@aa _ _ _ _ _ (pv 8) ag rfl)) (@aa _ _ _ _ _ (bh aW rfl B.b_tuple aO (@aa _ _ _ _ _ (ak (cv (hu8 hr)) rfl B.b_sorted cj (@aa _ _ _ _ _ (pv 6) ag rfl)) ag rfl)) (@aa _ _ _ _ _ (pv 4) ag rfl) rfl) rfl))))))))))),?_⟩
 obtain ⟨a,b,c,ks,h1,h2,h3,h4,h5⟩:=hs
 have lk:ks.length<=400:=by have:=W.ts;rw[<- h4,BQ] at this;exact this
 have ll:=W.lf
 have ok:=xj hst
 refine ⟨_,rfl,p,_,rfl,h1,rfl,_,_,rfl,_,_,rfl,_,_,rfl,rfl,?_⟩
 cases st with
 | two x y =>
  have hq':=tI hq
  have xy:x<y:=by
   rcases fG.mp hst with h | h
   ·obtain ⟨_,_,e⟩:=qm h
    cases e
   ·exact ((eY W).mp h).1
  refine ⟨_,rfl,r,_,0,_,rfl,rfl,hq',rfl,rfl,_,rfl,?_⟩
  rw[decide_eq_true (by rfl)]
  refine bN ⟨_,rfl,b,rfl,⟨_,h3.1⟩,dj (λk:Addr×Tie=>V.ref k.1) (λk=>V.ref k.1) (λk=>btw x y k.2) ks h3.1 (small (by omega)) (λk1 hk J3 s3 R rr =>?t) (λk hk _ J3 s3 R r=>⟨_,rfl,r⟩) λJ3 lc s3 nc =>?c⟩
  case t =>
   obtain ⟨wb,w1,w2⟩:=fQ (aE s3 (h3.2 k1 hk))
   refine ⟨_,rfl,_,rfl,k1.1,_,rfl,w1,λp4 J4 s4 e4 =>?_⟩
   rw[gF] at e4
   refine ⟨_,rfl,_,rfl,r,_,rfl,ah (s3.trans s4) hq',λp5 J5 s5 e5 =>?_⟩
   rw[nD] at e5
   refine ⟨p4,p5,[.i k1.2.1,.i k1.2.2.1],[.i x,.i y],rfl,rfl,⟨_,ah s5 e4,rfl,rfl,trivial⟩,⟨_,e5,rfl,rfl,trivial⟩,_,rfl,?_⟩
   have e:decide ([Cell.i k1.2.1,Cell.i k1.2.2.1]=[Cell.i x,Cell.i y])=btw x y k1.2:=by rw[xr xy];exact decide_eq_decide.mpr (by simp)
   rw[e]
   exact rr _ (s4.trans s5)
  case c =>
  have s4:=s3.trans (ae nc (.lst ((ks.filter λk=>btw x y k.2).map λk=>V.ref k.1)))
  have ec:(upd J3 lc (.lst ((ks.filter λk=>btw x y k.2).map λk=>V.ref k.1))) lc=_:=af
  generalize upd J3 lc (.lst ((ks.filter λk=>btw x y k.2).map λk=>V.ref k.1))=J4 at s4 ec
  refine ⟨_,rfl,b,rfl,⟨_,ah s4 h3.1⟩,dj (λk:Addr×Tie=>V.ref k.1) (λk=>V.ref k.1) (λk => !btw x y k.2) ks (ah s4 h3.1) (small (by omega)) (λk1 hk J5 s5 R rr =>?t) (λk hk _ J3 s3 R r=>⟨_,rfl,r⟩) λJ5 ld s5 nd =>?c⟩
  case t =>
   obtain ⟨wb,w1,w2⟩:=fQ (aE (s4.trans s5) (h3.2 k1 hk))
   refine ⟨_,rfl,_,rfl,k1.1,_,rfl,w1,λp4 J6 s6 e4 =>?_⟩
   rw[gF] at e4
   refine ⟨_,rfl,_,rfl,r,_,rfl,ah ((s4.trans s5).trans s6) hq',λp5 J7 s7 e5 =>?_⟩
   rw[nD] at e5
   refine ⟨p4,p5,[k1.2.1,k1.2.2.1],[x,y],rfl,rfl,ah s7 e4,e5,_,rfl,?_⟩
   have e:decide ([k1.2.1,k1.2.2.1]=[x,y])=btw x y k1.2:=by rw[xr xy];exact decide_eq_decide.mpr (by simp)
   rw[e]
   exact rr _ (s6.trans s7)
  case c =>
  have s6:=s4.trans (s5.trans (ae nd (.lst ((ks.filter λk => !btw x y k.2).map λk=>V.ref k.1))))
  have ec6:=(s5.trans (ae nd (.lst ((ks.filter λk => !btw x y k.2).map λk=>V.ref k.1)))) _ _ ec
  have ed:(upd J5 ld (.lst ((ks.filter λk => !btw x y k.2).map λk=>V.ref k.1))) ld=_:=af
  generalize upd J5 ld (.lst ((ks.filter λk => !btw x y k.2).map λk=>V.ref k.1))=J6 at s6 ec6 ed
  refine ⟨_,rfl,_,rfl,_,rfl,_,rfl,lc,_,rfl,SqL.of ec6,λpc nc =>?_⟩
  obtain ⟨fu,ef⟩:∃fu,fu=ks.filter λk=>btw x y k.2:=⟨_,rfl⟩
  rw[<- ef]
  have e2:gI (fu.map λk:Addr×Tie=>V.ref k.1) none (some 2)=(fu.take 2).map λk=>V.ref k.1:=by rw[Gy];exact gF _
  rw[e2]
  have s7:=s6.trans (ae nc (.lst ((fu.take 2).map λk=>V.ref k.1)))
  have ed7:=(ae nc (.lst ((fu.take 2).map λk=>V.ref k.1))) _ _ ed
  have e7:(upd J6 pc (.lst ((fu.take 2).map λk=>V.ref k.1))) pc=_:=af
  generalize upd J6 pc (.lst ((fu.take 2).map λk=>V.ref k.1))=J7 at s7 ed7 e7
  have l1:(ks.filter λk => !btw x y k.2).length<=500:=Cq (Dm _ _) (by omega)
  have l2:(fu.take 2).length<=2:=FD _ _
  refine ⟨ld,pc,_,_,rfl,rfl,SqL.of ed7,SqL.of e7,small (by rw[BQ,BQ];omega),λpl nl =>?_⟩
  rw[<- B4]
  obtain ⟨zs,ez⟩:∃zs,zs=(ks.filter λk => !btw x y k.2)++fu.take 2:=⟨_,rfl⟩
  rw[<- ez]
  have inZ:∀k∈zs,k∈ks:=λk hk=>by
   rw[ez] at hk
   rcases B5.mp hk with z | z
   ·exact (Co.mp z).1
   ·exact (Co.mp (ef ▸ DF z)).1
  have s8:=s7.trans (ae nl (.lst (zs.map λk=>V.ref k.1)))
  have e8:(upd J7 pl (.lst (zs.map λk=>V.ref k.1))) pl=_:=af
  generalize upd J7 pl (.lst (zs.map λk=>V.ref k.1))=J8 at s8 e8
  refine ⟨_,pl,zs.map (λk:Addr×Tie=>(k.1,tc k.2)),jg,rfl,.inl (by rw[Cs];exact SqL.of e8),λk hk =>?_,λls out ns pm pw =>?_⟩
  ·obtain ⟨k',hk',rfl⟩:=Ce.mp hk
   exact ⟨aE s8 (h3.2 k' (inZ k' hk')),k'.2,rfl⟩
  obtain ⟨os,pmo,rfl⟩:=bM pm
  refine ⟨ls,_,rfl,.inl ⟨SqL.of af,λlt nt=>⟨_,rfl,bL,λpr nr =>?_⟩⟩⟩
  have s9:=(s8.trans (ae ns _)).trans (ae nt (.tup ((os.map (λk:Addr×Tie=>(k.1,tc k.2))).map λt=>V.ref t.1)))
  have s10:=s9.trans (ae nr (.tup [.ref a,.ref lt,.ref c]))
  refine k pr _ s10 ⟨a,lt,c,os,SqT.of af,ah s10 h2,⟨?_,λk hk=>aE s10 (h3.2 k (inZ k (pmo.mem_iff.mp hk)))⟩,?_,ah s10 h5⟩
  ·rw[show (os.map λk=>V.ref k.1)=(os.map (λk:Addr×Tie=>(k.1,tc k.2))).map λt=>V.ref t.1 by rw[Cs];rfl]
   exact SqT.of (ae nr _ _ _ af)
  ·show os.map (·.2)=many z.ts x y
   unfold many
   refine dM ?_ ?_
   ·rw[<- h4,show (ks.map (·.2)).filter (λt => !btw x y t)++((ks.map (·.2)).filter (btw x y)).take 2=zs.map (·.2) by rw[ez,ef,B4,Gy,DW,DW];rfl]
    exact pmo.map _
   ·rw[CI] at pw ⊢
    exact pw
 | one wd x =>
  have hq':=wN hq
  have wm:¬ wd = "many" := by
   rcases ok.1 with e | e | e <;> (rw[e];decide)
  refine ⟨_,rfl,r,_,0,_,rfl,rfl,hq',rfl,rfl,_,rfl,?_⟩
  rw[decide_eq_false (show ¬ V.str wd=V.str "many" from λe=>wm (V.str.inj e))]
  refine bK ?_
  refine ⟨_,rfl,r,_,1,_,rfl,rfl,hq',rfl,?_⟩
  refine ⟨_,rfl,a,rfl,⟨_,h2⟩,cY (λi:Int=>V.int i) (λi=>V.int i) (λy => !decide (y=x)) z.lf h2 (small (by omega)) (λy hy R rr=>⟨_,rfl,_,rfl,rfl,_,rfl,by rw[show decide (V.int y=V.int x)=decide (y=x) from decide_eq_decide.mpr ⟨λe=>V.int.inj e,λe=>by rw[e]⟩];exact rr⟩) (λy _ _ R rr=>⟨_,rfl,rr⟩) λla na =>?_⟩
  have s2:=ae na (.lst ((z.lf.filter λy => !decide (y=x)).map V.int))
  have ea:(upd H la (.lst ((z.lf.filter λy => !decide (y=x)).map V.int))) la=_:=af
  generalize upd H la (.lst ((z.lf.filter λy => !decide (y=x)).map V.int))=H2 at s2 ea
  refine ⟨_,rfl,b,rfl,⟨_,ah s2 h3.1⟩,dj (λk:Addr×Tie=>V.ref k.1) (λk=>V.ref k.1) (λk => !isAt x k.2) ks (ah s2 h3.1) (small (by omega)) (λk1 hk J3 s3 R rr =>?t) (λk hk _ J3 s3 R r=>⟨_,rfl,r⟩) λH3 lb s3 nb =>?c⟩
  case t =>
   obtain ⟨wb,w1,w2⟩:=fQ (aE (s2.trans s3) (h3.2 k1 hk))
   refine ⟨_,rfl,_,rfl,_,rfl,k1.1,_,rfl,w1,λp4 J4 s4 e4 =>?_⟩
   rw[gF] at e4
   have e4:SqT K J4 p4 [.int k1.2.1,.int k1.2.2.1]:=e4
   refine ⟨p4,_,rfl,.inr e4,rfl,rfl,_,rfl,?_⟩
   rw[if_pos rfl]
   have e:(!inV (V.int x) [V.int k1.2.1,V.int k1.2.2.1]) = !isAt x k1.2:=by
    rw[show [V.int k1.2.1,V.int k1.2.2.1]=[k1.2.1,k1.2.2.1].map V.int from rfl,iJ]
    unfold isAt
    refine congrArg Bool.not ?_
    rw[Dx,Es,decide_eq_true_iff,decide_eq_true_iff,decide_eq_true_iff]
    simp only[Cw,List.not_mem_nil,or_false]
    exact or_congr eq_comm eq_comm
   rw[e]
   exact rr _ s4
  case c =>
  obtain ⟨zs,ez⟩:∃zs,zs=ks.filter λk => !isAt x k.2:=⟨_,rfl⟩
  rw[<- ez]
  have fl:zs.map (·.2)=z.ts.filter λt => !isAt x t:=by rw[ez, <- h4,DW];rfl
  have inZ:∀k∈zs,k∈ks:=λk hk=>(Co.mp (ez ▸ hk)).1
  have lzs:zs.length<=400:=by rw[ez];exact Cq (Dm _ _) lk
  have s4:=s2.trans (s3.trans (ae nb (.lst (zs.map λk=>V.ref k.1))))
  have ea4:=(s3.trans (ae nb (.lst (zs.map λk=>V.ref k.1)))) _ _ ea
  have eb:(upd H3 lb (.lst (zs.map λk=>V.ref k.1))) lb=_:=af
  have hlb:H lb=none:=none_of (s2.trans s3) nb
  have nab:la≠lb:=λe=>by rw[<- e,s3 _ _ ea] at nb;cases nb
  generalize upd H3 lb (.lst (zs.map λk=>V.ref k.1))=H4 at s4 ea4 eb
  have fin:∀(us:List (Addr×Tie)) (J:Hp) (m:List Tie),aB H J->J la=some (.lst ((z.lf.filter λy => !decide (y=x)).map V.int))->J lb=some (.lst (us.map λk=>V.ref k.1))->(∀k∈us,RowC K J k.1 (tc k.2))->us.map (·.2)=m->behind z (.one wd x)=⟨z.lf.filter λy => !decide (y=x),cQ m,z.tk⟩->∀ra,J ra=none->∀G,G=upd J ra (.tup ((z.lf.filter λy => !decide (y=x)).map V.int))->∃(Gc:List Cell->Prop) (p1:Addr) (ks1:List (Addr×List Cell)),Alike Gc/\[V.ref lb]=[.ref p1]/\(SqL K G p1 (ks1.map λk =>.ref k.1)\/SqT K G p1 (ks1.map λk =>.ref k.1))/\(∀k∈ks1,RowC K G k.1 k.2/\Gc k.2)/\∀(l:Addr) (out:List (Addr×List Cell)),G l=none->out.Perm ks1->out.Pairwise (λa b=>HT.lexLt (bz b.2) (bz a.2)=false)->∀lt,(upd G l (.lst (out.map λt =>.ref t.1))) lt=none->∀pr,(upd (upd G l (.lst (out.map λt =>.ref t.1))) lt (.tup (out.map λt =>.ref t.1))) pr=none->Q (.ref pr) (upd (upd (upd G l (.lst (out.map λt =>.ref t.1))) lt (.tup (out.map λt =>.ref t.1))) pr (.tup [.ref ra,.ref lt,.ref c])):=by
   rintro us J m sJ ja jb ju um eb' ra hra G rfl
   have g1:=ae hra (.tup ((z.lf.filter λy => !decide (y=x)).map V.int))
   refine ⟨_,lb,us.map (λk:Addr×Tie=>(k.1,tc k.2)),jg,rfl,.inl (by rw[Cs];exact SqL.of (g1 _ _ jb)),λk1 hk1=>(by obtain ⟨k2,hk2,rfl⟩:=Ce.mp hk1;exact ⟨aE g1 (ju k2 hk2),k2.2,rfl⟩),λls out ns pm1 pw1 lt nt pr nr =>?_⟩
   obtain ⟨os,pmo,rfl⟩:=bM pm1
   have g2:=(ae ns (.lst ((os.map (λk:Addr×Tie=>(k.1,tc k.2))).map λt=>V.ref t.1))).trans (ae nt (.tup ((os.map (λk:Addr×Tie=>(k.1,tc k.2))).map λt=>V.ref t.1)))
   have g3:=ae nr (.tup [.ref ra,.ref lt,.ref c])
   have g4:=g1.trans (g2.trans g3)
   refine k pr _ (sJ.trans g4) ?_
   rw[eb']
   refine ⟨ra,lt,c,os,SqT.of af,SqT.of ((g2.trans g3) _ _ af),⟨?_,λk1 hk1=>aE g4 (ju k1 (pmo.mem_iff.mp hk1))⟩,?_,ah (sJ.trans g4) h5⟩
   ·rw[show (os.map λk=>V.ref k.1)=(os.map (λk:Addr×Tie=>(k.1,tc k.2))).map λt=>V.ref t.1 by rw[Cs];rfl]
    exact SqT.of (g3 _ _ af)
   ·refine dM ?_ ?_
    ·rw[<- um]
     exact pmo.map _
    ·rw[CI] at pw1 ⊢
     exact pw1
  have hq4:=ah s4 hq'
  refine ⟨_,rfl,r,_,0,_,rfl,rfl,hq4,rfl,rfl,_,rfl,?_⟩
  by_cases w3:wd = "loop"
  ·rw[decide_eq_true (show V.str wd=V.str "loop" by rw[w3])]
   have w2:¬ wd = "two" := by rw[w3];decide
   have ebh:behind z (.one wd x)=⟨z.lf.filter λy => !decide (y=x),zs.map (·.2),sortI (z.tk++[x])⟩:=by
    unfold behind
    simp only[if_neg w2,if_pos w3,CF]
    rw[fl,rZ (r6 ss _)]
   rw[ebh] at k
   refine bN ⟨_,rfl,la,_,rfl,.inl ⟨SqL.of ea4,λra hra =>?_⟩⟩
   have g1:=ae hra (.tup ((z.lf.filter λy => !decide (y=x)).map V.int))
   refine ⟨_,rfl,lb,_,rfl,.inl ⟨SqL.of (g1 _ _ eb),λrb hrb =>?_⟩⟩
   have g2:=ae hrb (.tup (zs.map λk=>V.ref k.1))
   refine ⟨_,rfl,_,rfl,gu,λp6 n6=>tO (ah (((s4.trans g1).trans g2).trans (ae n6 _)) h5) (SqT.of af) (by simp) (small (by have:=W.tk;rw[BQ];simp only[B3,Dj];omega)) λp7 H7 s7 w7 =>?_⟩
   refine ⟨p7,z.tk++[x],rfl,.inr (by rw[B4];exact w7),λl7 out7 n7 pm7 pw7 =>?_⟩
   refine ⟨l7,_,rfl,.inl ⟨SqL.of af,λl8 n8=>⟨bL,λpr nr =>?_⟩⟩⟩
   have g8:=(((ae n6 (.tup [V.int x])).trans s7).trans (ae n7 (.lst (out7.map V.int)))).trans (ae n8 (.tup (out7.map V.int)))
   have g9:=ae nr (.tup [.ref ra,.ref rb,.ref l8])
   refine k pr _ ((((s4.trans g1).trans g2).trans g8).trans g9) ⟨ra,rb,l8,zs,SqT.of af,SqT.of (((g2.trans g8).trans g9) _ _ af),⟨SqT.of ((g8.trans g9) _ _ af),λk1 hk1=>aE ((((s4.trans g1).trans g2).trans g8).trans g9) (h3.2 k1 (inZ k1 hk1))⟩,rfl,?_⟩
   rw[<- qj pm7 pw7]
   exact SqT.of (g9 _ _ af)
  ·rw[decide_eq_false (show ¬ V.str wd=V.str "loop" from λe=>w3 (V.str.inj e))]
   refine bK ⟨_,rfl,r,_,0,_,rfl,rfl,hq4,rfl,rfl,_,rfl,?_⟩
   by_cases w2:wd = "two"
   ·rw[decide_eq_true (show V.str wd=V.str "two" by rw[w2])]
    obtain ⟨u,v,euv,nu,nv⟩:=ok.2 w2
    have mu:=Co.mp (show u∈z.ts.filter (isAt x) by rw[euv];exact B1)
    have mv:=Co.mp (show v∈z.ts.filter (isAt x) by rw[euv];exact B9 _ B1)
    have ebh:∀pj:Addr,behind z (.one wd x)=⟨z.lf.filter λy => !decide (y=x),cQ ((zs++[(pj,jn2 u v x)]).map (·.2)),z.tk⟩:=λpj=>by
     unfold behind
     simp only[if_pos w2,if_neg w3,euv]
     rw[B4,fl];rfl
    refine bN ⟨CC _,λl hl =>?_⟩
    have g5:=ae hl (.lst [])
    have el:(upd H4 l (.lst [])) l=some (.lst []):=af
    have hl0:=none_of s4 hl
    generalize upd H4 l (.lst [])=H5 at g5 el
    have s5:=s4.trans g5
    refine ⟨_,rfl,b,rfl,⟨_,ah s5 h3.1⟩,iG (λk:Addr×Tie=>V.ref k.1) ks (λpr σ H'=>(∃c5 c10 c11 c12,σ=[some (.ref p),some (.ref r),some (.ref a),some (.ref b),some (.ref c),c5,some (.ref lb),some (.int x),some (.ref la),some (.ref l),c10,c11,c12])/\aB H4 H'/\∃vs:List (Addr×Int×List Int),H' l=some (.lst (vs.map λk =>.ref k.1))/\(∀k∈vs,RowC K H' k.1 (wc k.2))/\vs.map (·.2)=((pr.map (·.2)).filter (isAt x)).map (ck x)/\vs.length<=pr.length) ⟨⟨_,_,_,_,rfl⟩,g5,[],el,λk hk=>(by cases hk),rfl,BV _⟩ (λpr σ H' h=>ah (s4.trans h.2.1) h3.1) ?_ ?_⟩
    ·rintro pr kt rr σ J hx ⟨⟨c5,c10,c11,c12,rfl⟩,sJ,vs,ev,rv,mv',lv⟩
     have hkt:kt∈ks:=by rw[hx];exact Cu _ B1
     have lpr:vs.length<=400:=by have:=congrArg List.length hx;rw[BU] at this;omega
     obtain ⟨wb,r1,r2⟩:=fQ (aE (s4.trans sJ) (h3.2 kt hkt))
     have em:∀(q:Addr) (J1 J2:Hp) (uu:Int×List Int),aB J J1->J1 l=some (.lst (vs.map λk =>.ref k.1))->RowC K J1 q (wc uu)->isAt x kt.2=true->uu=ck x kt.2->J2=upd J1 l (.lst ((vs.map λk=>V.ref k.1)++[.ref q]))->aB H4 J2/\∃vs:List (Addr×Int×List Int),J2 l=some (.lst (vs.map λk =>.ref k.1))/\(∀k∈vs,RowC K J2 k.1 (wc k.2))/\vs.map (·.2)=(((pr++[kt]).map (·.2)).filter (isAt x)).map (ck x)/\vs.length<=(pr++[kt]).length:=by
      rintro q J1 _ uu sJ1 e1 rq ia rfl rfl
      refine ⟨cH hl (sJ.trans sJ1),vs++[(q,ck x kt.2)],by rw[af,B4];rfl,λk hk =>?_,?_,by rw[BU,BU];simpa using lv⟩
      ·rcases B5.mp hk with w | w
       ·exact dU e1 (aE sJ1 (rv k w))
       ·rw[Ck.mp w];exact dU e1 rq
      ·rw[B4,mv',B4,Di,B4]
       simp[List.filter,ia]
     refine ⟨kt.1,_,rfl,r1,rfl,_,_,rfl,_,_,rfl,_,_,rfl,rfl,?_⟩
     refine ⟨_,rfl,_,rfl,rfl,_,rfl,?_⟩
     by_cases c1:kt.2.1=x
     ·rw[decide_eq_true (show V.int kt.2.1=V.int x by rw[c1])]
      refine bN ⟨_,rfl,.inl ⟨rfl,_,SqL.of ev⟩,_,rfl,_,rfl,wb,_,rfl,r2,λp5 n5=>⟨bR,λp6 n6=>⟨l,_,_,rfl,rfl,((ae n5 _).trans (ae n6 _)) _ _ ev,by rw[BQ];exact CG lpr (by decide),⟨_,_,_,_,rfl⟩,?_⟩⟩⟩
      refine em p6 _ _ (kt.2.2.1,kt.2.2.2.reverse) ((ae n5 _).trans (ae n6 _)) (((ae n5 _).trans (ae n6 _)) _ _ ev) (xp (SqT.of af) (SqT.of (ae n6 _ _ _ (by rw[Ef];exact af)))) (by unfold isAt;rw[decide_eq_true c1];rfl) ?_ rfl
      unfold ck other bT
      rw[if_pos c1,if_pos c1]
     ·rw[decide_eq_false (show ¬ V.int kt.2.1=V.int x from λe=>c1 (V.int.inj e))]
      refine bK ⟨_,rfl,_,rfl,rfl,_,rfl,?_⟩
      by_cases c2:kt.2.2.1=x
      ·rw[decide_eq_true (show V.int kt.2.2.1=V.int x by rw[c2])]
       refine bN ⟨_,rfl,.inl ⟨rfl,_,SqL.of ev⟩,_,rfl,_,rfl,bR,λp6 n6=>⟨l,_,_,rfl,rfl,ae n6 _ _ _ ev,by rw[BQ];exact CG lpr (by decide),⟨_,_,_,_,rfl⟩,?_⟩⟩
       refine em p6 _ _ (kt.2.1,kt.2.2.2) (ae n6 _) (ae n6 _ _ _ ev) (xp (SqT.of af) (ah (ae n6 _) r2)) (by unfold isAt;rw[decide_eq_true c2,Kq]) ?_ rfl
       unfold ck other bT
       rw[if_neg c1,if_neg c1,D0]
      ·rw[decide_eq_false (show ¬ V.int kt.2.2.1=V.int x from λe=>c2 (V.int.inj e))]
       refine bK ⟨⟨_,_,_,_,rfl⟩,sJ,vs,ev,rv,?_,by rw[BU];omega⟩
       rw[mv',B4,Di]
       have:isAt x kt.2=false:=by unfold isAt;rw[decide_eq_false c1,decide_eq_false c2];rfl
       simp[List.filter,this]
    ·rintro σ J ⟨⟨c5,c10,c11,c12,rfl⟩,sJ,vs,ev,rv,mv',lv⟩
     rw[h4,euv] at mv'
     refine ⟨_,rfl,_,l,vs.map (λk:Addr×Int×List Int=>(k.1,wc k.2)),AQ,rfl,.inl (by rw[Cs];exact SqL.of ev),λk1 hk1=>(by obtain ⟨k2,hk2,rfl⟩:=Ce.mp hk1;exact ⟨rv k2 hk2,k2.2,rfl⟩),λls out ns pm1 pw1 =>?_⟩
     obtain ⟨os,pmo,rfl⟩:=bM pm1
     have pm2:(os.map (·.2)).Perm [ck x u,ck x v]:=by rw[<- show vs.map (·.2)=[ck x u,ck x v] from mv'];exact pmo.map _
     obtain ⟨y,z',pyz,eyz⟩:∃y z',[y,z'].Perm [u,v]/\os.map (·.2)=[ck x y,ck x z']:=by
      rcases xq pm2 with e | e
      ·exact ⟨u,v,E1 _,e⟩
      ·exact ⟨v,u,List.Perm.swap _ _ _,e⟩
     obtain ⟨o1,o2,rfl⟩:∃o1 o2,os=[o1,o2]:=by
      have:=congrArg List.length eyz
      match os,this with
      | [o1,o2],_=>exact ⟨o1,o2,rfl⟩
     have e1:o1.2=ck x y:=(Dd eyz).1
     have e2:o2.2=ck x z':=(Dd (Dd eyz).2).1
     have le:other y x<=other z' x:=by
      have:=BI ((DS.mp pw1).1 (o2.1,wc o2.2) B1)
      rw[e1,e2] at this
      exact this
     have hyz:∀t∈[y,z'],t.1≠t.2.1/\isAt x t=true/\t.2.2.length<=400:=λt ht=>by
      rcases Cw.mp (pyz.mem_iff.mp ht) with e | e
      ·rw[e];exact ⟨nu,mu.2,W.ws u mu.1⟩
      ·rw[Ck.mp e];exact ⟨nv,mv.2,W.ws v mv.1⟩
     obtain ⟨ny,ay,ly⟩:=hyz y B1
     obtain ⟨nz,az,lz⟩:=hyz z' (B9 _ B1)
     have ejn:=w9 nu nv mu.2 mv.2 pyz le
     obtain ⟨b1,r1,w1⟩:=xo (rv o1 (pmo.mem_iff.mp B1))
     obtain ⟨b2,r2,w2'⟩:=xo (rv o2 (pmo.mem_iff.mp (B9 _ B1)))
     have gs:=ae ns (.lst [.ref o1.1,.ref o2.1])
     have el:(upd J ls (.lst [.ref o1.1,.ref o2.1])) ls=some (.lst [.ref o1.1,.ref o2.1]):=af
     have r1:=ah gs r1
     have r2:=ah gs r2
     have w1:=ah gs w1
     have w2':=ah gs w2'
     have sHL:=s4.trans (sJ.trans gs)
     have ebL:=(sJ.trans gs) _ _ eb
     have eaL:=(sJ.trans gs) _ _ ea4
     rw[e1] at r1 w1
     rw[e2] at r2 w2'
     rw[show List.map (λt:Addr×List Cell=>V.ref t.1) (List.map (λk:Addr×Int×List Int=>(k.1,wc k.2)) [o1,o2])=[.ref o1.1,.ref o2.1] from rfl]
     generalize upd J ls (.lst [.ref o1.1,.ref o2.1])=JL at el r1 r2 w1 w2' sHL ebL eaL
     have sL:=aB.refl JL
     refine ⟨_,rfl,ls,_,0,_,rfl,rfl,SqL.of el,rfl,o1.1,_,1,_,rfl,rfl,ah sL r1,rfl,_,rfl,gu,λq2 n2=>tO (ah (ae n2 _) w1) (SqT.of af) (by simp) (small (by rw[BQ];show (bT y x).reverse.length+1<=1000;rw[C7,cw];omega)) λq3 G3 t3 w3' =>?_⟩
     have sG3:=(ae n2 (.tup [V.int x])).trans t3
     refine ⟨_,rfl,ls,_,1,_,rfl,rfl,SqL.of (sG3 _ _ el),rfl,o2.1,_,1,_,rfl,rfl,ah sG3 r2,rfl,b2,_,rfl,ah sG3 w2',λq4 n4=>zu (ah (ae n4 _) w3') (SqT.of af) (small (by rw[BU,C7,BQ,BQ];show (bT y x).reverse.length+1+(bT z' x).reverse.length<=1000;rw[C7,C7,cw,cw];omega)) λq5 G5 t5 w5 =>?_⟩
     have sG5:=(sG3.trans (ae n4 (.tup (((ck x z').2.map V.int).reverse)))).trans t5
     obtain ⟨WW,eW⟩:∃WW,WW=bT y (other y x)++[x]++bT z' x:=⟨_,rfl⟩
     have w5:SqT K G5 q5 (WW.map V.int):=by
      have e:(ck x y).2.map V.int++[V.int x]++((ck x z').2.map V.int).reverse=WW.map V.int:=by
       rw[eW, <- zc ny ay,B4,B4, <- Ef]
       rw[show (ck x z').2.reverse=bT z' x from D0 _];rfl
      rw[<- e];exact w5
     have lW:WW.length<=1000:=by rw[eW,BU,BU,cw,cw];simp only[B3,Dj];omega
     refine ⟨_,rfl,ls,_,0,_,rfl,rfl,SqL.of (sG5 _ _ el),rfl,o1.1,_,0,_,rfl,rfl,ah sG5 r1,rfl,_,rfl,ls,_,1,_,rfl,rfl,SqL.of (sG5 _ _ el),rfl,o2.1,_,0,_,rfl,rfl,ah sG5 r2,rfl,rfl,_,rfl,?_⟩
     by_cases e:other y x=other z' x
     ·rw[decide_eq_true (show V.int (ck x y).1=V.int (ck x z').1 from congrArg V.int e)]
      refine bN ⟨_,rfl,_,rfl,q5,_,rfl,w5,λq6 n6=>⟨q5,q6,_,WW.reverse,rfl,ah (ae n6 _) w5,by rw[Ef];exact SqT.of af,λlt =>?_,λnl =>?_⟩⟩
      ·have hj:jn y z' x=(other y x,other z' x,WW.reverse):=by unfold jn;rw[<- eW,if_pos e,if_pos lt]
       have sG6:=sG5.trans (ae n6 (.tup (WW.map V.int).reverse))
       have w6:SqT K (upd G5 q6 (.tup (WW.map V.int).reverse)) q6 (WW.reverse.map V.int):=by rw[Ef];exact SqT.of af
       refine ⟨_,rfl,.inl ⟨rfl,_,SqL.of (sG6 _ _ ebL)⟩,_,rfl,ls,_,0,_,rfl,rfl,SqL.of (sG6 _ _ el),rfl,o1.1,_,0,_,rfl,rfl,ah sG6 r1,rfl,_,rfl,ls,_,1,_,rfl,rfl,SqL.of (sG6 _ _ el),rfl,o2.1,_,0,_,rfl,rfl,ah sG6 r2,rfl,_,rfl,bL,λpj nj=>⟨lb,_,_,rfl,rfl,ae nj _ _ _ (sG6 _ _ ebL),by rw[BQ];exact CG lzs (by decide),?_⟩⟩
       have gj:=sG6.trans (ae nj (.tup [.int (ck x y).1,.int (ck x z').1,.ref q6]))
       have rj:RowC K (upd (upd G5 q6 (.tup (WW.map V.int).reverse)) pj (.tup [.int (ck x y).1,.int (ck x z').1,.ref q6])) pj (tc (jn2 u v x)):=by
        rw[<- ejn,hj]
        exact jF (SqT.of af) (ah (ae nj _) w6)
       have ej:=gj _ _ ebL
       have laj:=gj _ _ eaL
       have sj:=sHL.trans gj
       generalize upd (upd G5 q6 (.tup (WW.map V.int).reverse)) pj (.tup [.int (ck x y).1,.int (ck x z').1,.ref q6])=Jj at gj rj ej laj sj
       have ex:(zs.map λk=>V.ref k.1)++[V.ref pj]=(zs++[(pj,jn2 u v x)]).map λk=>V.ref k.1:=by rw[B4];rfl
       rw[ex]
       have laj2:(upd Jj lb (.lst ((zs++[(pj,jn2 u v x)]).map λk=>V.ref k.1))) la=some (.lst ((z.lf.filter λy => !decide (y=x)).map V.int)):=by rw[ax nab];exact laj
       refine ⟨_,rfl,la,_,rfl,.inl ⟨SqL.of laj2,λra hra =>?_⟩⟩
       obtain ⟨Gc,p1,ks1,f1,f2,f3,f4,f5⟩:=fin (zs++[(pj,jn2 u v x)]) _ _ (cH hlb sj) laj2 af (λk1 hk1=>dU ej ((B5.mp hk1).elim (λw=>aE sj (h3.2 k1 (inZ k1 w))) λw=>by rw[Ck.mp w];exact rj)) rfl (ebh _) ra hra _ rfl
       exact ⟨_,rfl,Gc,p1,ks1,f1,f2,f3,f4,λl out nl pm pw=>⟨l,_,rfl,.inl ⟨SqL.of af,λlt nt=>⟨_,rfl,bL,λpr nr=>f5 l out nl pm pw lt nt pr nr⟩⟩⟩⟩
      ·have hj:jn y z' x=(other y x,other z' x,WW):=by unfold jn;rw[<- eW,if_pos e,nl];rfl
       have sG6:=sG5.trans (ae n6 (.tup (WW.map V.int).reverse))
       have w6:=ah (ae n6 (.tup (WW.map V.int).reverse)) w5
       refine ⟨_,rfl,.inl ⟨rfl,_,SqL.of (sG6 _ _ ebL)⟩,_,rfl,ls,_,0,_,rfl,rfl,SqL.of (sG6 _ _ el),rfl,o1.1,_,0,_,rfl,rfl,ah sG6 r1,rfl,_,rfl,ls,_,1,_,rfl,rfl,SqL.of (sG6 _ _ el),rfl,o2.1,_,0,_,rfl,rfl,ah sG6 r2,rfl,_,rfl,bL,λpj nj=>⟨lb,_,_,rfl,rfl,ae nj _ _ _ (sG6 _ _ ebL),by rw[BQ];exact CG lzs (by decide),?_⟩⟩
       have gj:=sG6.trans (ae nj (.tup [.int (ck x y).1,.int (ck x z').1,.ref q5]))
       have rj:RowC K (upd (upd G5 q6 (.tup (WW.map V.int).reverse)) pj (.tup [.int (ck x y).1,.int (ck x z').1,.ref q5])) pj (tc (jn2 u v x)):=by
        rw[<- ejn,hj]
        exact jF (SqT.of af) (ah (ae nj _) w6)
       have ej:=gj _ _ ebL
       have laj:=gj _ _ eaL
       have sj:=sHL.trans gj
       generalize upd (upd G5 q6 (.tup (WW.map V.int).reverse)) pj (.tup [.int (ck x y).1,.int (ck x z').1,.ref q5])=Jj at gj rj ej laj sj
       have ex:(zs.map λk=>V.ref k.1)++[V.ref pj]=(zs++[(pj,jn2 u v x)]).map λk=>V.ref k.1:=by rw[B4];rfl
       rw[ex]
       have laj2:(upd Jj lb (.lst ((zs++[(pj,jn2 u v x)]).map λk=>V.ref k.1))) la=some (.lst ((z.lf.filter λy => !decide (y=x)).map V.int)):=by rw[ax nab];exact laj
       refine ⟨_,rfl,la,_,rfl,.inl ⟨SqL.of laj2,λra hra =>?_⟩⟩
       obtain ⟨Gc,p1,ks1,f1,f2,f3,f4,f5⟩:=fin (zs++[(pj,jn2 u v x)]) _ _ (cH hlb sj) laj2 af (λk1 hk1=>dU ej ((B5.mp hk1).elim (λw=>aE sj (h3.2 k1 (inZ k1 w))) λw=>by rw[Ck.mp w];exact rj)) rfl (ebh _) ra hra _ rfl
       exact ⟨_,rfl,Gc,p1,ks1,f1,f2,f3,f4,λl out nl pm pw=>⟨l,_,rfl,.inl ⟨SqL.of af,λlt nt=>⟨_,rfl,bL,λpr nr=>f5 l out nl pm pw lt nt pr nr⟩⟩⟩⟩
     ·rw[decide_eq_false (show ¬ V.int (ck x y).1=V.int (ck x z').1 from λt=>e (V.int.inj t))]
      have hj:jn y z' x=(other y x,other z' x,WW):=by unfold jn;rw[<- eW,if_neg e]
      refine bK ?_
      refine ⟨_,rfl,.inl ⟨rfl,_,SqL.of (sG5 _ _ ebL)⟩,_,rfl,ls,_,0,_,rfl,rfl,SqL.of (sG5 _ _ el),rfl,o1.1,_,0,_,rfl,rfl,ah sG5 r1,rfl,_,rfl,ls,_,1,_,rfl,rfl,SqL.of (sG5 _ _ el),rfl,o2.1,_,0,_,rfl,rfl,ah sG5 r2,rfl,_,rfl,bL,λpj nj=>⟨lb,_,_,rfl,rfl,ae nj _ _ _ (sG5 _ _ ebL),by rw[BQ];exact CG lzs (by decide),?_⟩⟩
      have gj:=sG5.trans (ae nj (.tup [.int (ck x y).1,.int (ck x z').1,.ref q5]))
      have rj:RowC K (upd G5 pj (.tup [.int (ck x y).1,.int (ck x z').1,.ref q5])) pj (tc (jn2 u v x)):=by
       rw[<- ejn,hj]
       exact jF (SqT.of af) (ah (ae nj _) w5)
      have ej:=gj _ _ ebL
      have laj:=gj _ _ eaL
      have sj:=sHL.trans gj
      generalize upd G5 pj (.tup [.int (ck x y).1,.int (ck x z').1,.ref q5])=Jj at gj rj ej laj sj
      have ex:(zs.map λk=>V.ref k.1)++[V.ref pj]=(zs++[(pj,jn2 u v x)]).map λk=>V.ref k.1:=by rw[B4];rfl
      rw[ex]
      have laj2:(upd Jj lb (.lst ((zs++[(pj,jn2 u v x)]).map λk=>V.ref k.1))) la=some (.lst ((z.lf.filter λy => !decide (y=x)).map V.int)):=by rw[ax nab];exact laj
      refine ⟨_,rfl,la,_,rfl,.inl ⟨SqL.of laj2,λra hra =>?_⟩⟩
      obtain ⟨Gc,p1,ks1,f1,f2,f3,f4,f5⟩:=fin (zs++[(pj,jn2 u v x)]) _ _ (cH hlb sj) laj2 af (λk1 hk1=>dU ej ((B5.mp hk1).elim (λw=>aE sj (h3.2 k1 (inZ k1 w))) λw=>by rw[Ck.mp w];exact rj)) rfl (ebh _) ra hra _ rfl
      exact ⟨_,rfl,Gc,p1,ks1,f1,f2,f3,f4,λl out nl pm pw=>⟨l,_,rfl,.inl ⟨SqL.of af,λlt nt=>⟨_,rfl,bL,λpr nr=>f5 l out nl pm pw lt nt pr nr⟩⟩⟩⟩
   ·rw[decide_eq_false (show ¬ V.str wd=V.str "two" from λe=>w2 (V.str.inj e))]
    have ebh:behind z (.one wd x)=⟨z.lf.filter λy => !decide (y=x),cQ (zs.map (·.2)),z.tk⟩:=by
     unfold behind
     simp only[if_neg w2,if_neg w3,CF]
     rw[fl]
    refine bK ⟨_,rfl,la,_,rfl,.inl ⟨SqL.of ea4,λra hra =>?_⟩⟩
    obtain ⟨Gc,p1,ks1,f1,f2,f3,f4,f5⟩:=fin zs H4 _ s4 ea4 eb (λk hk=>aE s4 (h3.2 k (inZ k hk))) rfl ebh ra hra _ rfl
    refine ⟨_,rfl,Gc,p1,ks1,f1,f2,f3,f4,λl out nl pm pw=>⟨l,_,rfl,.inl ⟨SqL.of af,λlt nt=>⟨_,rfl,bL,λpr nr=>f5 l out nl pm pw lt nt pr nr⟩⟩⟩⟩
end
open PySem L2
open Srt
abbrev BJ:Sp:=λvs H Q _=>∃(i:Int),vs=[.int i,.int i]/\∀H',aB H H'->Q (.bl true) H'
@[irreducible] def spZ:Sp:=BJ
theorem oR {vs:List V}{H:Hp}{Q:VK}{E:XK}:spZ vs H Q E↔BJ vs H Q E:=by
 delta spZ
 exact Eg
section
variable  {P:B7}{w:CJ}{K:BM}{mg:Str->Option BP}{base:Heap}{f T:Addr}{fd:CT}
theorem xt (F:Fun K "_law_same" "_law_same" oB f fd)(B:Blt mg):qf P w K mg base 1 f fd ["found", "due"] spZ:=by
 refine F.okM tS (λvs H Q E h =>?_) (λcdv A ea outer s H vs Q E hr h =>?_)
 ·obtain ⟨_,rfl,_⟩:=oR.mp h
  rfl
 obtain ⟨i,rfl,q⟩:=oR.mp h
 refine ⟨_,(@aj _ _ _ _ _ (@ba _ _ _ _ _ _ _ _ (bV (ak bI rfl B.b_isinstance ao (@aa _ _ _ _ _ (pv 1) (@aa _ _ _ _ _ (@aP _ _ _ _ _ (@aa _ _ _ _ _ (aI (v :=.ty "tuple") rfl B.b_tuple aO rfl) (@aa _ _ _ _ _ (aI (v :=.ty "list") rfl B.b_list dD rfl) ag rfl) rfl)) ag rfl) rfl))) eO aK)
  (@aj _ _ _ _ _ (@ba _ _ _ _ _ _ _ _ (bV (ak aD rfl B.b_isinstance ao (@aa _ _ _ _ _ (pv 1) (@aa _ _ _ _ _ (aI (v :=.ty "str") rfl B.b_str eI rfl) ag rfl) rfl))) (@aq _ _ _ (@aL _ _ _ _ (bP (ak aD rfl B.b_isinstance ao (@aa _ _ _ _ _ (pv 0) (@aa _ _ _ _ _ (aI (v :=.ty "str") rfl B.b_str eI rfl) ag rfl) rfl)) (cp (bD bp (pv 0) (pv 1) (aH _)))))) aK)
  (@aq _ _ _ (@aL _ _ _ _ (bP (ak aD rfl B.b_isinstance ao (@aa _ _ _ _ _ (pv 0) (@aa _ _ _ _ _ (aI (v :=.ty "int") rfl B.b_int g6 rfl) ag rfl) rfl)) (bP (iQ (ak aD rfl B.b_isinstance ao (@aa _ _ _ _ _ (pv 0) (@aa _ _ _ _ _ (aI (v :=.ty "bool") rfl B.b_bool iH rfl) ag rfl) rfl))) (cp (bD bp (pv 0) (pv 1) (aH _))))))))),?_⟩
 refine ⟨_,rfl,bR,λtp htp=>⟨.int i,tp,["tuple", "list"],_,false,rfl,SqT.of af,.int i,rfl,_,rfl,bK ?_⟩⟩
 have g1:=ae htp (.tup [.ty "tuple",.ty "list"])
 refine ⟨_,rfl,.int i, "str",_,false,rfl,.int i,rfl,_,rfl,bK ?_⟩
 refine ⟨_,rfl,.int i, "int",_,true,rfl,.int i,rfl,_,rfl,bN ?_⟩
 refine ⟨_,rfl,.int i, "bool",_,false,rfl,.int i,rfl,_,rfl,_,rfl,bN ?_⟩
 refine ⟨_,rfl,_,rfl,rfl,?_⟩
 rw[decide_eq_true (rfl:V.int i=V.int i)]
 exact q _ g1
end
theorem zd {X:Cx}{K:BM}(i:Nat){x f:Str}{p2 pos:Pos}(hN:X.N[i]? = some x:=by rfl)(hv:Vis X.env.scope x:=by first | exact Or.inl rfl | exact Or.inr (Or.inl rfl) | exact Or.inr (Or.inr rfl))(hd:(x == ("__debug__" : Str))=false:=by decide)
  (hcd:(x == ("__classdict__" : Str))=false:=by decide) (hK:X.K=K:=by rfl):PE X (.Attribute (.Name x p2) f pos) (By K (zC i) f):=hK ▸ Ar (pv i hN hv hd hcd) rfl
@[irreducible] def oS (K:BM):Sp:=λvs H Q _=>∃(p r:Addr) (s:Sta) (wd:Str) (is:List Int),vs=[.ref p,.ref r]/\StA K H p s/\Wf s/\SqT K H r (.str wd :: is.map V.int)/\H PJ=some (.tbl psJ)/\can s wd is=false/\∀H',aB H H'->Q (.bl true) H'
theorem ic {K:BM}{vs:List V}{H:Hp}{Q:VK}{E:XK}:oS K vs H Q E↔∃(p r:Addr) (s:Sta) (wd:Str) (is:List Int),vs=[.ref p,.ref r]/\StA K H p s/\Wf s/\SqT K H r (.str wd :: is.map V.int)/\H PJ=some (.tbl psJ)/\can s wd is=false/\∀H',aB H H'->Q (.bl true) H':=by
 delta oS
 exact Eg
section
variable  {P:B7}{w:CJ}{K:BM}{mg:Str->Option BP}{base:Heap}{f:Addr}{fd:CT}{c_WebError c_NoStep c_NoText c_TooMany c_NotClear:Addr}
theorem dP:aV ["state", "step", "found", "e"] ["state", "step"] (aA i9):=⟨rfl,rfl,rfl,by decide +kernel,rfl,by decide +kernel,by decide +kernel⟩
theorem se (F:Fun K "_law_refused" "_law_refused" i9 f fd)(B:Blt mg)(Z:Exs K mg c_WebError c_NoStep c_NoText c_TooMany c_NotClear)(xRule:mW P w K mg base 7 "rule_step" ["state", "step"] (lG K c_NoStep))(cSameM:AF P w K mg base 1 "_law_same" ["found", "due"] spZ):bS P w K mg base CX0 8 f fd ["state", "step"] (oS K):=by
 refine F.ok dP (λvs H Q E h =>?_) (λcdv A outer s H vs Q E hr h =>?_)
 ·obtain ⟨_,_,_,_,_,rfl,_⟩:=ic.mp h
  rfl
 obtain ⟨p,r,z,wd,is,rfl,hs,W,hq,hP,no,q⟩:=ic.mp h
 refine ⟨_,(@aj _ _ _ _ _ (@aU _ _ 2 _ _ _ _ dP.nd rfl (Or.inl rfl) ku rfl (by first | exact .inl rfl | exact .inr rfl | assumption))
  (@aj _ _ _ _ _ (yr (i:=3) (n := "e") (x := "WebError") rfl rfl dP.nd rfl rfl rfl Z.x_WebError (yq (wx xRule hr (by decide) rfl (@aa _ _ _ _ _ (pv 0) (@aa _ _ _ _ _ (pv 1) ag rfl) rfl))) (λ_=>(@aj _ _ _ _ _ (@aU _ _ 2 _ _ _ _ dP.nd rfl (Or.inl rfl) (bP (ak (mX (K:=K)) rfl B.b_isinstance ao (@aa _ _ _ _ _ (pv 3) (@aa _ _ _ _ _ (jX (v :=.ref c_NoStep) rfl Z.x_NoStep rfl) ag rfl) rfl)) (bP (ak (mX (K:=K)) rfl B.b_isinstance ao (@aa _ _ _ _ _ (pv 3) (@aa _ _ _ _ _ (aI (v :=.ty "ValueError") rfl B.b_ValueError lY rfl) ag rfl) rfl)) (cp (iQ (ak (rf (K:=K)) rfl B.b_isinstance ao (@aa _ _ _ _ _ (pv 3) (@aa _ _ _ _ _ (@aP _ _ _ _ _ (@aa _ _ _ _ _ (jX (v :=.ref c_NoText) rfl Z.x_NoText rfl) (@aa _ _ _ _ _ (jX (v :=.ref c_NotClear) rfl Z.x_NotClear rfl) (@aa _ _ _ _ _ (jX (v :=.ref c_TooMany) rfl Z.x_TooMany rfl) ag rfl) rfl) rfl)) ag rfl) rfl)))))) rfl (by first | exact .inl rfl | exact .inr rfl | assumption))
    (@aq _ _ _ (@aU _ _ 2 _ _ _ _ dP.nd rfl (Or.inl rfl) (bP (pv 2) (cp (yT cSameM hr (by decide) rfl (@aa _ _ _ _ _ (zd (K:=K) 3) (@aa _ _ _ _ _ ai ag rfl) rfl)))) rfl (by first | exact .inl rfl | exact .inr rfl | assumption))))))
  (@aq _ _ _ (@aL _ _ _ _ (pv 2))))),?_⟩
 refine ⟨_,rfl,_,rfl,fH.mpr ⟨p,r,z,wd,is,rfl,hs,W,hq,hP,λ_ dx H1 s1 ed=>⟨Z.xm_NoStep,λea he =>?_⟩,λst hst e =>?_⟩⟩
 rotate_left
 ·unfold can at no
  exact absurd (Ce.mpr ⟨st,hst,e⟩) (of_decide_eq_false no)
 obtain ⟨ZI,_,_⟩:=oq Z.xi_NoStep
 obtain ⟨N,S⟩:=rg Z.xn_NoStep
 have g1:=ae he (gQ ea (.ref c_NoStep) (some dx))
 have ee:upd H1 ea (gQ ea (.ref c_NoStep) (some dx)) ea=some (gQ ea (.ref c_NoStep) (some dx)):=af
 have s2:=s1.trans g1
 have ed:=g1 _ _ ed
 generalize upd H1 ea (gQ ea (.ref c_NoStep) (some dx))=H2 at g1 ee s2 ed
 refine ⟨_,rfl,ea,_,_,_,true,rfl,ee,ZI,rfl,Z.k_self,_,rfl,bN ⟨_,rfl,ea,_,_,_,true,rfl,ee,ZI,rfl,Z.k_val,_,rfl,bN ?_⟩⟩
 refine ⟨_,rfl,bL,λtp htp =>?_⟩
 have g4:=ae htp (.tup [.ref c_NoText,.ref c_NotClear,.ref c_TooMany])
 have et:upd H2 tp (.tup [.ref c_NoText,.ref c_NotClear,.ref c_TooMany]) tp=some (.tup [.ref c_NoText,.ref c_NotClear,.ref c_TooMany]):=af
 have ee:=g4 _ _ ee
 have ed:=g4 _ _ ed
 have s4:=s2.trans g4
 generalize upd H2 tp (.tup [.ref c_NoText,.ref c_NotClear,.ref c_TooMany])=H4 at g4 ee et s4 ed
 refine ⟨ea,_,tp,_,_,false,rfl,ee,ZI,et,λc hc=>EB.mp (show List.all [.ref c_NoText,.ref c_NotClear,.ref c_TooMany] pP=true from rfl) c hc,Z.xo_NoStep,_,rfl,?_⟩
 refine ⟨_,rfl,_,rfl,bN ⟨_,rfl,ea,_,dx,_,_,rfl,ee,ed,N,ZI,S.na,rfl,oR.mpr ⟨0,rfl,λH5 s5 =>?_⟩⟩⟩
 exact ⟨_,rfl,q _ (s4.trans s5)⟩
end
open PySem L2
open Srt
theorem six {d:Int}(h0:0<=d)(h1:d<6):∃z:Str,atI ([.str "lone",.str "two",.str "loop",.str "many",.str "take",.str ""]:List V) d=some (.str z):=by
 have:d=0\/d=1\/d=2\/d=3\/d=4\/d=5:=by omega
 rcases this with rfl | rfl | rfl | rfl | rfl | rfl <;> exact ⟨_,rfl⟩
theorem twoI {d a b:Int}(h0:0<=d)(h1:d<2):∃y:Int,atI ([.int a,.int b]:List V) d=some (.int y):=by
 have:d=0\/d=1:=by omega
 rcases this with rfl | rfl
 ·exact ⟨a,rfl⟩
 ·exact ⟨b,rfl⟩
@[irreducible] def tU (K:BM):Sp:=λvs H Q _=>∃(p:Addr) (n:Int),vs=[.ref p,.int n]/\Pt 1 H p/\0<=n/\n<=40/\∀(q:Addr) (wd:Str) (is:List Int) (H':Hp),Bu 1 p H H'->SqT K H' q (.str wd :: is.map V.int)->is.length<=3->Q (.ref q) H'
theorem jm {K:BM}{vs:List V}{H:Hp}{Q:VK}{E:XK}:tU K vs H Q E↔∃(p:Addr) (n:Int),vs=[.ref p,.int n]/\Pt 1 H p/\0<=n/\n<=40/\∀(q:Addr) (wd:Str) (is:List Int) (H':Hp),Bu 1 p H H'->SqT K H' q (.str wd :: is.map V.int)->is.length<=3->Q (.ref q) H':=by
 delta tU
 exact Eg
section
variable  {P:B7}{w:CJ}{K:BM}{mg:Str->Option BP}{base:Heap}{f T:Addr}{fd:CT}
theorem oT:aV ["pot", "many", "word", "one", "count"] ["pot", "many"] (aA wW):=⟨rfl,rfl,rfl,by decide +kernel,rfl,by decide +kernel,by decide +kernel⟩
theorem AR (F:Fun K "_law_odd" "_law_odd" wW f fd)(B:Blt mg)(cLTake:Cal P w K mg base 1 "_law_take" ["pot", "many"] jf):bS P w K mg base CX0 2 f fd ["pot", "many"] (tU K):=by
 refine F.ok oT (λvs H Q E h =>?_) (λcdv A outer s H vs Q E hr h =>?_)
 ·obtain ⟨_,_,rfl,_⟩:=jm.mp h
  rfl
 obtain ⟨p,n,rfl,hp,n0,n4,q⟩:=jm.mp h
 refine ⟨_,(@aj _ _ _ _ _ (@aU _ _ 2 _ _ _ _ oT.nd rfl (Or.inl rfl) (@aG _ _ _ _ _ _ _ bQ (@dH _ _ _ _ (@aa _ _ _ _ _ bU (@aa _ _ _ _ _ bU (@aa _ _ _ _ _ bU (@aa _ _ _ _ _ bU (@aa _ _ _ _ _ bU (@aa _ _ _ _ _ bU ag rfl) rfl) rfl) rfl) rfl) rfl)) (aN cLTake hr (by decide) rfl (@aa _ _ _ _ _ (pv 0) (@aa _ _ _ _ _ ai ag rfl) rfl)) (λ_ _=>rfl)) rfl (by first | exact .inl rfl | exact .inr rfl | assumption))
  (@aj _ _ _ _ _ (@aU _ _ 3 _ _ _ _ oT.nd rfl (Or.inl rfl) (@aG _ _ _ _ _ _ _ bQ (@dH _ _ _ _ (@aa _ _ _ _ _ (@bC _ _ _ _ _ _ _ _ vw (aN cLTake hr (by decide) rfl (@aa _ _ _ _ _ (pv 0) (@aa _ _ _ _ _ (@bC _ _ _ _ _ _ _ _ eB (pv 1) ai) ag rfl) rfl)) ai) (@aa _ _ _ _ _ (@bC _ _ _ _ _ _ _ _ qG ai ai) ag rfl) rfl)) (@bC _ _ _ _ _ _ _ _ nM (aN cLTake hr (by decide) rfl (@aa _ _ _ _ _ (pv 0) (@aa _ _ _ _ _ ai ag rfl) rfl)) ai) (λ_ _=>rfl)) rfl (by first | exact .inl rfl | exact .inr rfl | assumption))
  (@aj _ _ _ _ _ (@aU _ _ 4 _ _ _ _ oT.nd rfl (Or.inl rfl) (aN cLTake hr (by decide) rfl (@aa _ _ _ _ _ (pv 0) (@aa _ _ _ _ _ ai ag rfl) rfl)) rfl (by first | exact .inl rfl | exact .inr rfl | assumption))
  (@aj _ _ _ _ _ (@ba _ _ _ _ _ _ _ _ (aJ bp (pv 4) ai (aH _)) (@aq _ _ _ (@aL _ _ _ _ (@aG _ _ _ _ _ _ _ bQ (@dH _ _ _ _ (@aa _ _ _ _ _ (@aP _ _ _ _ _ (@aa _ _ _ _ _ (pv 2) ag rfl)) (@aa _ _ _ _ _ (@aP _ _ _ _ _ (@aa _ _ _ _ _ (pv 2) (@aa _ _ _ _ _ (pv 3) (@aa _ _ _ _ _ (pv 3) (@aa _ _ _ _ _ (pv 3) ag rfl) rfl) rfl) rfl)) ag rfl) rfl)) (aN cLTake hr (by decide) rfl (@aa _ _ _ _ _ (pv 0) (@aa _ _ _ _ _ ai ag rfl) rfl)) (λ_ _=>rfl)))) aK)
  (@aj _ _ _ _ _ (@ba _ _ _ _ _ _ _ _ (PW.pt (l9 (PW.pt (nJ (aJ bp (pv 2) bU (aH _)) (jY (aJ sr (pv 4) ai (aH _))))) (iP (aJ bp (pv 4) ai (aH _))))) (@aq _ _ _ (@aL _ _ _ _ (@aP _ _ _ _ _ (@aa _ _ _ _ _ (pv 2) (@aa _ _ _ _ _ (pv 3) (@aa _ _ _ _ _ (aN cLTake hr (by decide) rfl (@aa _ _ _ _ _ (pv 0) (@aa _ _ _ _ _ (@bC _ _ _ _ _ _ _ _ eB (pv 1) ai) ag rfl) rfl)) ag rfl) rfl) rfl)))) aK)
  (@aq _ _ _ (@aL _ _ _ _ (@aP _ _ _ _ _ (@aa _ _ _ _ _ (pv 2) (@aa _ _ _ _ _ (pv 3) ag rfl) rfl))))))))),?_⟩
 refine ⟨(by decide:6<=Ca),λl1 n1 =>?_⟩
 have g1:=ae n1 (.lst [.str "lone",.str "two",.str "loop",.str "many",.str "take",.str ""])
 have e1:(upd H l1 (.lst [.str "lone",.str "two",.str "loop",.str "many",.str "take",.str ""])) l1=_:=af
 have b1:=(Bu.refl hp).same g1
 have nl1:l1≠p:=hp.ne n1
 generalize upd H l1 (.lst [.str "lone",.str "two",.str "loop",.str "many",.str "take",.str ""])=H1 at g1 e1 b1
 refine ⟨_,rfl,aZ.mpr ⟨p,6,rfl,b1.pot,by decide,b7 (by decide) (by decide),λd H2 d0 d1 b2 =>?_⟩⟩
 obtain ⟨wd,ew⟩:=six d0 d1
 have v2:=b1.trans b2
 refine ⟨l1,_,d,_,rfl,rfl,SqL.of (b2.st _ _ nl1 e1),ew,?_⟩
 refine ⟨_,rfl,_,rfl,_,_,rfl,rfl,aZ.mpr ⟨p,n+2,rfl,v2.pot,by omega,b7 (by omega) (by omega),λd3 H3 k0 k1 b3 =>?_⟩⟩
 have v3:=v2.trans b3
 refine ⟨_,_,rfl,rfl,_,_,rfl,rfl,⟨by decide,by decide,by decide⟩,bR,λl4 n4' =>?_⟩
 have g4:=ae n4' (.lst [.int (d3-1),.int ((10:Int) ^ (59:Int).toNat)])
 have e4:(upd H3 l4 (.lst [.int (d3-1),.int ((10:Int) ^ (59:Int).toNat)])) l4=_:=af
 have v4:=v3.same g4
 have nl4:l4≠p:=v3.pot.ne n4'
 generalize upd H3 l4 (.lst [.int (d3-1),.int ((10:Int) ^ (59:Int).toNat)])=H4 at g4 e4 v4
 refine ⟨_,rfl,aZ.mpr ⟨p,9,rfl,v4.pot,by decide,b7 (by decide) (by decide),λd5 H5 k2 k3 b5 =>?_⟩⟩
 have v5:=v4.trans b5
 obtain ⟨y,ey⟩:=twoI (d:=d5/8) (a:=d3-1) (b:=(10:Int) ^ (59:Int).toNat) (JQ k2 (by decide)) (Ij (by decide) (by omega))
 refine ⟨_,_,rfl,rfl,⟨by decide,by decide⟩,l4,_,_,_,rfl,rfl,SqL.of (b5.st _ _ nl4 e4),ey,?_⟩
 refine ⟨_,rfl,aZ.mpr ⟨p,8,rfl,v5.pot,by decide,b7 (by decide) (by decide),λd6 H6 k4 k5 b6 =>?_⟩⟩
 have v6:=v5.trans b6
 refine ⟨_,rfl,rfl,_,rfl,?_⟩
 by_cases c7:d6=7
 ·rw[decide_eq_true (by rw[c7])]
  refine bN ⟨_,rfl,gu,λt1 m1=>⟨_,rfl,_,rfl,_,rfl,_,rfl,(by decide:4<=Ca),λt2 m2=>⟨bR,λt3 m3 =>?_⟩⟩⟩
  have h1:=ae m1 (.tup [.str wd])
  have h2:=ae m2 (.tup [.str wd,.int y,.int y,.int y])
  have h3:=ae m3 (.lst [.ref t1,.ref t2])
  have f1:=(h2.trans h3) _ _ (af:(upd H6 t1 (.tup [.str wd])) t1=_)
  have f2:=h3 _ _ (af:(upd (upd H6 t1 (.tup [.str wd])) t2 (.tup [.str wd,.int y,.int y,.int y])) t2=_)
  have f3:(upd (upd (upd H6 t1 (.tup [.str wd])) t2 (.tup [.str wd,.int y,.int y,.int y])) t3 (.lst [.ref t1,.ref t2])) t3=_:=af
  have v7:=((v6.same h1).same h2).same h3
  have nt3:t3≠p:=((v6.same h1).same h2).pot.ne m3
  have nt1:=v7.pot.neT f1
  have nt2:=v7.pot.neT f2
  generalize upd (upd (upd H6 t1 (.tup [.str wd])) t2 (.tup [.str wd,.int y,.int y,.int y])) t3 (.lst [.ref t1,.ref t2])=H7 at f1 f2 f3 v7 nt1 nt2
  refine ⟨_,rfl,aZ.mpr ⟨p,2,rfl,v7.pot,by decide,b7 (by decide) (by decide),λd8 H8 k6 k7 b8 =>?_⟩⟩
  have f3:=b8.st _ _ nt3 f3
  have f1:=b8.st _ _ nt1 f1
  have f2:=b8.st _ _ nt2 f2
  have:d8=0\/d8=1:=by omega
  rcases this with rfl | rfl
  ·exact ⟨t3,_,0,_,rfl,rfl,SqL.of f3,rfl,q t1 wd [] _ (v7.trans b8) (SqT.of f1) (by decide)⟩
  ·exact ⟨t3,_,1,_,rfl,rfl,SqL.of f3,rfl,q t2 wd [y,y,y] _ (v7.trans b8) (SqT.of f2) (by show 3<=3;decide)⟩
 rw[decide_eq_false (show ¬ V.int d6=V.int 7 from λz=>c7 (V.int.inj z))]
 refine bK ⟨_,rfl,rfl,_,rfl,?_⟩
 have dn:∀c:Bool,c=true\/c=false:=λc=>by cases c <;> simp
 rcases dn (decide (V.str wd=V.str "many")) with c1 | c1
 ·rw[c1]
  refine bN ⟨_,rfl,_,_,rfl,rfl,_,rfl,?_⟩
  rcases dn (decide (0<d6)) with c2 | c2
  ·rw[show decide (d6>0)=true from c2]
   refine bN (bN ?_)
   exact ⟨_,rfl,_,rfl,_,rfl,_,rfl,_,_,rfl,rfl,aZ.mpr ⟨p,n+2,rfl,v6.pot,by omega,b7 (by omega) (by omega),λd8 H8 k6 k7 b8=>⟨bL,λt3 m3=>q t3 wd [y,d8] _ ((v6.trans b8).same (ae m3 _)) (SqT.of af) (by show 2<=3;decide)⟩⟩⟩
  ·rw[show decide (d6>0)=false from c2]
   refine bK ⟨_,rfl,rfl,_,rfl,?_⟩
   rcases dn (decide (V.int d6=V.int 1)) with c3 | c3
   ·rw[c3]
    refine bN ?_
    exact ⟨_,rfl,_,rfl,_,rfl,_,rfl,_,_,rfl,rfl,aZ.mpr ⟨p,n+2,rfl,v6.pot,by omega,b7 (by omega) (by omega),λd8 H8 k6 k7 b8=>⟨bL,λt3 m3=>q t3 wd [y,d8] _ ((v6.trans b8).same (ae m3 _)) (SqT.of af) (by show 2<=3;decide)⟩⟩⟩
   ·rw[c3]
    refine bK ?_
    exact ⟨_,rfl,_,rfl,bR,λt3 m3=>q t3 wd [y] _ (v6.same (ae m3 _)) (SqT.of af) (by show 1<=3;decide)⟩
 ·rw[c1]
  refine bK (bK ⟨_,rfl,rfl,_,rfl,?_⟩)
  rcases dn (decide (V.int d6=V.int 1)) with c3 | c3
  ·rw[c3]
   refine bN ?_
   exact ⟨_,rfl,_,rfl,_,rfl,_,rfl,_,_,rfl,rfl,aZ.mpr ⟨p,n+2,rfl,v6.pot,by omega,b7 (by omega) (by omega),λd8 H8 k6 k7 b8=>⟨bL,λt3 m3=>q t3 wd [y,d8] _ ((v6.trans b8).same (ae m3 _)) (SqT.of af) (by show 2<=3;decide)⟩⟩⟩
  ·rw[c3]
   refine bK ?_
   exact ⟨_,rfl,_,rfl,bR,λt3 m3=>q t3 wd [y] _ (v6.same (ae m3 _)) (SqT.of af) (by show 1<=3;decide)⟩
end
open PySem L2
open Srt
def dm (l:List Tie):Nat:=(l.map λt=>t.2.2.length).sum
theorem vg {l m:List Tie}(p:l.Perm m):dm l=dm m:=by
 unfold dm
 induction p with
 | nil=>rfl
 | cons _ _ ih=>simp only[Ci,Gz];omega
 | swap _ _ _=>simp only[Ci,Gz];omega
 | trans _ _ a b=>exact a.trans b
theorem jJ (l m:List Tie):dm (l++m)=dm l+dm m:=by
 unfold dm
 rw[B4,List.sum_append]
theorem cx (t:Tie)(l:List Tie):dm (t :: l)=t.2.2.length+dm l:=by
 unfold dm
 rw[Ci,Gz]
theorem lK:∀{l:List Tie} {t:Tie},t∈l->t.2.2.length<=dm l
 | u :: l,t,h=>by
  rw[cx]
  rcases Cw.mp h with e | h
  ·rw[e];omega
  ·have:=lK h
   omega
theorem ie (p:Tie->Bool):∀l:List Tie,dm (l.filter p)+dm (l.filter λt => !p t)=dm l/\(l.filter p).length+(l.filter λt => !p t).length=l.length
 | []=>⟨rfl,rfl⟩
 | t :: l=>by
  obtain ⟨h1,h2⟩:=ie p l
  cases c:p t with
  | true =>
   rw[DB c,DX (by rw[c];decide),cx,cx,B3,B3]
   omega
  | false =>
   rw[DX (by rw[c];decide),DB (by rw[c];rfl),cx,cx,B3,B3]
   omega
theorem nE:∀(n:Nat) (l:List Tie),dm (l.take n)<=dm l
 | 0,l=>by rw[Fs];exact CC _
 | n+1,[]=>BV _
 | n+1,t :: l=>by
  rw[List.take_succ_cons,cx,cx]
  have:=nE n l
  omega
theorem qz:∀{l:List Int} {x:Int},x∈l->(l.filter λy => !decide (y=x)).length+1<=l.length
 | y :: l,x,h=>by
  by_cases c:y=x
  ·rw[DX (by rw[decide_eq_true c];decide),B3]
   have:=Dm (λy => !decide (y=x)) l
   omega
  ·rw[DB (by rw[decide_eq_false c];rfl),B3,B3]
   have:=qz ((Cw.mp h).resolve_left λe=>c e.symm)
   omega
structure Gd (s:Sta):Prop where
 nd:s.lf.Nodup
 ends:∀t∈s.ts,t.1∈s.lf/\t.2.1∈s.lf
 so:TsS s.ts
 m1:s.lf.length+s.tk.length<=8
 m2:dm s.ts+s.lf.length<=8
 m3:s.ts.length<=28
theorem Gd.wf {s:Sta}(h:Gd s):Wf s:=⟨⟨by have:=h.m1;omega,by have:=h.m3;omega,by have:=h.m1;omega,λt ht=>by have:=lK ht;have:=h.m2;omega⟩,h.nd,h.ends⟩
theorem jq {l:List Tie}{t:Tie}:t∈cQ l↔t∈l:=(Dy l leT).mem_iff
theorem jt (l:List Tie):(cQ l).length=l.length:=(Dy l leT).length_eq
theorem jv (l:List Tie):dm (cQ l)=dm l:=vg (Dy l leT)
theorem qA (u v:Tie)(x:Int):(jn u v x).1=other u x/\(jn u v x).2.1=other v x/\(jn u v x).2.2.length=u.2.2.length+1+v.2.2.length:=by
 refine ⟨rfl,rfl,?_⟩
 have h:(bT u (other u x)++[x]++bT v x).length=u.2.2.length+1+v.2.2.length:=by
  rw[BU,BU,cw,cw];rfl
 unfold jn
 dsimp only
 split
 ·split
  ·rw[C7];exact h
  ·exact h
 ·exact h
theorem iN {u:Tie}{x:Int}{l:List Int}(n:u.1≠u.2.1)(h:u.1∈l/\u.2.1∈l):other u x∈l/\other u x≠x:=by
 unfold other
 by_cases c:u.1=x
 ·rw[if_pos c];exact ⟨h.2,λe=>n (c.trans e.symm)⟩
 ·rw[if_neg c];exact ⟨h.1,c⟩
theorem vh {u v:Tie}{x:Int}{l:List Int}(nu:u.1≠u.2.1)(nv:v.1≠v.2.1)(hu:u.1∈l/\u.2.1∈l)(hv:v.1∈l/\v.2.1∈l):((jn2 u v x).1∈l/\(jn2 u v x).1≠x)/\((jn2 u v x).2.1∈l/\(jn2 u v x).2.1≠x)/\(jn2 u v x).2.2.length=u.2.2.length+1+v.2.2.length:=by
 unfold jn2
 split
 ·obtain ⟨a,b,c⟩:=qA u v x
  exact ⟨by rw[a];exact iN nu hu,by rw[b];exact iN nv hv,c⟩
 ·obtain ⟨a,b,c⟩:=qA v u x
  exact ⟨by rw[a];exact iN nv hv,by rw[b];exact iN nu hu,by rw[c];omega⟩
theorem vi {s:Sta}{st:Stp}(g:Gd s)(h:st∈raw s):Gd (behind s st):=by
 cases st with
 | two x y =>
  obtain ⟨s1,s2⟩:=ie (btw x y) s.ts
  have h1:=nE 2 (s.ts.filter (btw x y))
  have h2:=FD 2 (s.ts.filter (btw x y))
  have h2':((s.ts.filter (btw x y)).take 2).length<=(s.ts.filter (btw x y)).length:=by rw[DK];omega
  refine ⟨g.nd,λt ht =>?_,lJ _,g.m1,?_,?_⟩
  ·refine g.ends t ?_
   rcases B5.mp (jq.mp ht) with z | z
   ·exact (Co.mp z).1
   ·exact (Co.mp (DF z)).1
  ·show dm (cQ _)+s.lf.length<=8
   rw[jv,jJ]
   have:=g.m2
   omega
  ·show (cQ _).length<=28
   rw[jt,BU]
   have:=g.m3
   omega
 | one w x =>
  have hx:x∈s.lf/\word s.ts x=some w:=by
   rcases fG.mp h with h | h
   ·exact lE.mp h
   ·obtain ⟨_,_,e⟩:=gG h
    cases e
  obtain ⟨s1,s2⟩:=ie (isAt x) s.ts
  have f1:=qz hx.1
  have g1:=g.m1
  have g2:=g.m2
  have g3:=g.m3
  have inF:∀t∈s.ts.filter (λt => !isAt x t),t.1∈(s.lf.filter λy => !decide (y=x))/\t.2.1∈(s.lf.filter λy => !decide (y=x)):=λt ht=>by
   obtain ⟨m,n⟩:=Co.mp ht
   rw[D4] at n
   unfold isAt at n
   rw[Iw,decide_eq_false_iff_not,decide_eq_false_iff_not] at n
   have e:=g.ends t m
   exact ⟨Co.mpr ⟨e.1,by rw[decide_eq_false n.1];rfl⟩,Co.mpr ⟨e.2,by rw[decide_eq_false n.2];rfl⟩⟩
  have tk:(s.lf.filter λy => !decide (y=x)).length+(if w = "loop" then sortI (s.tk++[x]) else s.tk).length<=8:=by
   split
   ·rw[show (sortI (s.tk++[x])).length=(s.tk++[x]).length from (Dy _ _).length_eq,BU,Df]
    omega
   ·omega
  obtain ⟨_,two⟩:=lF hx.2
  by_cases c:w = "two"
  ·obtain ⟨u,v,e,nu,nv⟩:=two c
   have mu:=Co.mp (show u∈s.ts.filter (isAt x) by rw[e];exact B1)
   have mv:=Co.mp (show v∈s.ts.filter (isAt x) by rw[e];exact B9 _ B1)
   obtain ⟨j1,j2,j3⟩:=vh (x:=x) nu nv (g.ends u mu.1) (g.ends v mv.1)
   rw[e] at s1 s2
   rw[cx,cx] at s1
   have z0:dm []=0:=rfl
   simp only[B3,Dj] at s2
   unfold behind
   simp only[if_pos c,e]
   refine ⟨g.nd.filter _,λt ht =>?_,lJ _,tk,?_,?_⟩
   ·rcases B5.mp (jq.mp ht) with z | z
    ·exact inF t z
    ·rw[Ck.mp z]
     exact ⟨Co.mpr ⟨j1.1,by rw[decide_eq_false j1.2];rfl⟩,Co.mpr ⟨j2.1,by rw[decide_eq_false j2.2];rfl⟩⟩
   ·show dm (cQ _)+(s.lf.filter _).length<=8
    rw[jv,jJ,cx,j3]
    omega
   ·show (cQ _).length<=28
    rw[jt,BU,Df]
    omega
  ·unfold behind
   simp only[if_neg c,CF]
   refine ⟨g.nd.filter _,λt ht=>inF t (jq.mp ht),lJ _,tk,?_,?_⟩
   ·show dm (cQ _)+(s.lf.filter _).length<=8
    rw[jv]
    omega
   ·show (cQ _).length<=28
    rw[jt]
    omega
section
variable  {K:BM}{H:Hp}
theorem BK {z:Str}:∀{n:Nat},dv K H n (.str z) (.str z)
 | 0 =>.inl ⟨z,rfl,rfl⟩
 | _+1 =>.inl ⟨z,rfl,rfl⟩
theorem zv {i:Int}:∀{n:Nat},dv K H n (.int i) (.int i)
 | 0 =>.inr ⟨i,rfl,rfl⟩
 | _+1 =>.inr (.inl ⟨i,rfl,rfl⟩)
theorem same_ints {n:Nat}{a b:Addr}{ns:List Int}(ha:SqT K H a (ns.map V.int))(hb:SqT K H b (ns.map V.int))(l:ns.length<=400000):dv K H (n+1) (.ref a) (.ref b):=by
 refine .inr (.inr ⟨a,b,_,_,rfl,rfl,.inl ⟨ha,hb⟩,rfl,by rw[BQ];exact l,λi u v hu hv =>?_⟩)
 rw[hu] at hv
 cases hv
 rw[CA] at hu
 obtain ⟨k,_,rfl⟩:=D2.mp hu
 exact zv
def xu:Cell->Prop
 | .t ns=>ns.length<=400000
 | _=>True
theorem lL {n:Nat}:∀{cs:List Cell} {xs ys:List V},cF K H xs cs->cF K H ys cs->(∀c∈cs,xu c)->xs.length=cs.length/\ys.length=cs.length/\∀(i:Nat) (u v:V),xs[i]? = some u->ys[i]? = some v->dv K H (n+1) u v
 | [],[],[],_,_,_=>⟨rfl,rfl,λi u v h=>by simp at h⟩
 | [],_ :: _,_,h,_,_=>h.elim
 | [],[],_ :: _,_,h,_=>h.elim
 | _ :: _,[],_,h,_,_=>h.elim
 | _ :: _,_ :: _,[],_,h,_=>h.elim
 | c :: cs,x :: xs,y :: ys,⟨a,h1⟩,⟨b,h2⟩,sm=>by
  obtain ⟨l1,l2,ih⟩:=lL (n:=n) h1 h2 λc hc=>sm c (B9 _ hc)
  refine ⟨by rw[B3,B3,l1],by rw[B3,B3,l2],λi u v hu hv =>?_⟩
  cases i with
  | zero =>
   cases hu
   cases hv
   cases c with
   | i m=>cases (show x=V.int m from a);cases (show y=V.int m from b);exact zv
   | s z=>cases (show x=V.str z from a);cases (show y=V.str z from b);exact BK
   | t ns =>
    obtain ⟨p,rfl,k1⟩:=a
    obtain ⟨q,rfl,k2⟩:=b
    exact same_ints k1 k2 (sm _ B1)
  | succ i=>exact ih i u v (by simpa using hu) (by simpa using hv)
theorem xv {n:Nat}{a b:Addr}{cs:List Cell}(ha:RowC K H a cs)(hb:RowC K H b cs)(sm:∀c∈cs,xu c)(l:cs.length<=400000):dv K H (n+2) (.ref a) (.ref b):=by
 obtain ⟨xs,h1,h2⟩:=ha
 obtain ⟨ys,h3,h4⟩:=hb
 obtain ⟨l1,l2,h⟩:=lL (n:=n) h2 h4 sm
 exact .inr (.inr ⟨a,b,xs,ys,rfl,rfl,.inl ⟨h1,h3⟩,l1.trans l2.symm,by rw[l1];exact l,h⟩)
theorem nF {β:Type}(f:β -> List Cell){n:Nat}{ks js:List (Addr×β)}(rk:∀k∈ks,RowC K H k.1 (f k.2))(rj:∀k∈js,RowC K H k.1 (f k.2))(e:ks.map (·.2)=js.map (·.2))(sm:∀k∈ks,(∀c∈f k.2,xu c)/\(f k.2).length<=400000)(i:Nat)(u v:V)(hu:(ks.map λk=>V.ref k.1)[i]? = some u)(hv:(js.map λk=>V.ref k.1)[i]? = some v):dv K H (n+2) u v:=by
 rw[CA] at hu hv
 obtain ⟨k,hk,rfl⟩:=D2.mp hu
 obtain ⟨j,hj,rfl⟩:=D2.mp hv
 have e2:k.2=j.2:=by
  have:=congrArg (λl=>l[i]?) e
  simp only[CA,hk,hj,Et,Jg] at this
  exact this
 have r2:=rj j (Cy hj)
 rw[<- e2] at r2
 obtain ⟨c1,c2⟩:=sm k (Cy hk)
 exact xv (rk k (Cy hk)) r2 c1 c2
theorem map_len {β:Type}{ks js:List (Addr×β)}(e:ks.map (·.2)=js.map (·.2)):ks.length=js.length:=by
 have:=congrArg List.length e
 simpa using this
theorem lM {l m:Addr}{ks js:List (Addr×Stp)}(h1:H l=some (.lst (ks.map λk =>.ref k.1)))(h2:H m=some (.lst (js.map λk =>.ref k.1)))(rk:∀k∈ks,RowC K H k.1 k.2.cs)(rj:∀k∈js,RowC K H k.1 k.2.cs)(e:ks.map (·.2)=js.map (·.2))(z:ks.length<=400000):dv K H 4 (.ref l) (.ref m):=by
 refine .inr (.inr ⟨l,m,_,_,rfl,rfl,.inr ⟨SqL.of h1,SqL.of h2⟩,by rw[BQ,BQ];exact map_len e,by rw[BQ];exact z,λi u v hu hv=>nF (n:=1) Stp.cs rk rj e (λk _ =>?_) i u v hu hv⟩)
 cases k.2 with
 | one w x=>exact ⟨λc hc=>by simp[Stp.cs] at hc;rcases hc with rfl | rfl <;> trivial,by show 2<=400000;decide⟩
 | two x y=>exact ⟨λc hc=>by simp[Stp.cs] at hc;rcases hc with rfl | rfl | rfl <;> trivial,by show 3<=400000;decide⟩
theorem qB {p q:Addr}{s:Sta}(g:Gd s)(hp:StA K H p s)(hq:StA K H q s):dv K H 4 (.ref p) (.ref q):=by
 obtain ⟨a,b,c,ks,h1,h2,h3,h4,h5⟩:=hp
 obtain ⟨a',b',c',ks',h1',h2',h3',h4',h5'⟩:=hq
 have e:ks.map (·.2)=ks'.map (·.2):=h4.trans h4'.symm
 have g1:=g.m1
 have g2:=g.m2
 have g3:=g.m3
 have lk:ks.length=s.ts.length:=by rw[<- h4,BQ]
 refine .inr (.inr ⟨p,q,_,_,rfl,rfl,.inl ⟨h1,h1'⟩,rfl,(by show 3<=400000;decide),λi u v hu hv =>?_⟩)
 match i,hu,hv with
 | 0,hu,hv =>
  cases hu
  cases hv
  exact same_ints h2 h2' (by omega)
 | 1,hu,hv =>
  cases hu
  cases hv
  refine .inr (.inr ⟨b,b',_,_,rfl,rfl,.inl ⟨h3.1,h3'.1⟩,by rw[BQ,BQ];exact map_len e,by rw[BQ];omega,λi u v hu hv=>nF (n:=0) tc h3.2 h3'.2 e (λk hk=>⟨λc hc =>?_,by show 3<=400000;decide⟩) i u v hu hv⟩)
  have m:k.2∈s.ts:=by rw[<- h4];exact FA hk
  have:=lK m
  simp[tc] at hc
  rcases hc with rfl | rfl | rfl
  ·trivial
  ·trivial
  ·show k.2.2.2.length<=400000
   omega
 | 2,hu,hv =>
  cases hu
  cases hv
  exact same_ints h5 h5' (by omega)
 | i+3,hu,hv=>simp at hu
theorem gx {H':Hp}{p a:Addr}{xs:List V}(hp:Pt 1 H p)(b:Bu 1 p H H')(h:SqT K H a xs):SqT K H' a xs:=h.imp (λr=>r.elim (λe =>.inl (b.st _ _ (hp.neT e) e)) λ⟨o,e⟩ =>.inr ⟨o,b.st _ _ (λz=>by rw[z] at e;obtain ⟨_,_,w⟩:=hp;rw[w] at e;cases e) e⟩) id
theorem sf {H':Hp}{p a:Addr}{cs:List Cell}(hp:Pt 1 H p)(b:Bu 1 p H H')(h:RowC K H a cs):RowC K H' a cs:=by
 obtain ⟨xs,h1,h2⟩:=h
 exact ⟨xs,gx hp b h1,dJ (λ_ _=>gx hp b) h2⟩
theorem xw {H':Hp}{p a:Addr}{s:Sta}(hp:Pt 1 H p)(k:Bu 1 p H H')(h:StA K H a s):StA K H' a s:=by
 obtain ⟨a,b,c,ks,h1,h2,h3,h4,h5⟩:=h
 exact ⟨a,b,c,ks,gx hp k h1,gx hp k h2,⟨gx hp k h3.1,λt ht=>sf hp k (h3.2 t ht)⟩,h4,gx hp k h5⟩
theorem xx {H':Hp}{p a:Addr}{ps:Array BP}(hp:Pt 1 H p)(b:Bu 1 p H H')(h:H a=some (.tbl ps)):H' a=some (.tbl ps):=b.st _ _ (λz=>by rw[z] at h;obtain ⟨_,_,w⟩:=hp;rw[w] at h;cases h) h
theorem AS {p l:Addr}{β:Type}{ks:List (Addr×β)}(hp:Pt 1 H p)(h:H l=some (.lst (ks.map λk =>.ref k.1))):l≠p:=λz=>by
 obtain ⟨xs,lx,w⟩:=hp
 rw[z,w] at h
 match xs,lx with
 | [x],_ =>
  cases ks with
  | nil=>cases h
  | cons k ks=>cases h
end
theorem xA {n:Nat}{us:List (Addr×List Int)}{H:Hp}(tw:Tw H n us)(h8:n<=8)(l:us.length<=28)(so:us.Pairwise (λa b=>HT.lexLt b.2 a.2=false)){ts:List (Addr×Int×Int)}(e:us=ts.map λt=>(t.1,[t.2.1,t.2.2])):Gd ⟨(Dh n).map λi:Nat=>(i:Int),ts.map λt=>(t.2.1,t.2.2,[]),[]⟩:=by
 refine ⟨?_,λt ht =>?_,?_,?_,?_,?_⟩
 ·exact CI.mpr (List.nodup_range.imp λh z=>h (by omega))
 ·obtain ⟨t',ht',rfl⟩:=Ce.mp ht
  obtain ⟨a,b,e1,a0,ab,bn⟩:=tw.two (t'.1,[t'.2.1,t'.2.2]) (by rw[e];exact Ce.mpr ⟨t',ht',rfl⟩)
  cases e1
  have mem:∀i:Int,0<=i->i<n->i∈(Dh n).map λi:Nat=>(i:Int):=λi h0 h1=>Ce.mpr ⟨i.toNat,El.mpr (by omega),by omega⟩
  exact ⟨mem t'.2.1 a0 (by omega),mem t'.2.2 (by omega) bn⟩
 ·rw[e,CI] at so
  refine CI.mpr (so.imp λ{a b} h =>?_)
  show HT.lexLt (b.2.1 :: b.2.2 :: bz [Cell.t []]) (a.2.1 :: a.2.2 :: bz [Cell.t []])=false
  rw[HT.aY,HT.aY] at h ⊢
  split
  ·rename_i c1
   rw[if_pos c1] at h
   split
   ·exact lex_irrefl _
   ·rename_i c2
    rw[if_neg c2] at h
    exact h
  ·rename_i c1
   rw[if_neg c1] at h
   exact h
 ·show ((Dh n).map λi:Nat=>(i:Int)).length+0<=8
  rw[BQ,F7];omega
 ·show dm _+_<=8
  have:dm (ts.map λt=>((t.2.1,t.2.2,[]):Tie))=0:=by
   unfold dm
   rw[Cs]
   clear e
   induction ts with
   | nil=>rfl
   | cons t ts ih=>rw[Ci,Gz,ih];rfl
  rw[this,BQ,F7]
  omega
 ·show (ts.map _).length<=28
  rw[e,BQ] at l
  rw[BQ]
  exact l
theorem zw {H:Hp}{n:Int}:∀{us:List (Addr×List Int)},Tw H n us->∃ts:List (Addr×Int×Int),us=ts.map λt=>(t.1,[t.2.1,t.2.2])
 | [],_=>⟨[],rfl⟩
 | (a,v) :: us,h=>by
  obtain ⟨x,y,e,_⟩:=h.two (a,v) B1
  obtain ⟨ts,e2⟩:=zw (us:=us) ⟨λu hu=>h.at' u (B9 _ hu),λu hu=>h.two u (B9 _ hu)⟩
  exact ⟨(a,x,y) :: ts,by rw[Ci, <- e2];rw[show v=[x,y] from e]⟩
open PySem L2
open Srt
def qC (K:BM):Sp:=λvs H Q _=>∃(a:Addr) (ns:List Int),vs=[.ref a]/\SqL K H a (ns.map V.int)/\ns.length<=63/\H PJ=some (.tbl psJ)/\∀H',Q (.bl true) H'
theorem nG {K:BM}{vs:List V}{H:Hp}{Q:VK}{E:XK}:qC K vs H Q E↔∃(a:Addr) (ns:List Int),vs=[.ref a]/\SqL K H a (ns.map V.int)/\ns.length<=63/\H PJ=some (.tbl psJ)/\∀H',Q (.bl true) H':=Eg
@[irreducible] def iO (K:BM):Sp:=λvs H Q _=>∃(p q:Addr) (s:Sta) (st:Stp),vs=[.ref p,.ref q]/\StA K H p s/\Wf s/\RowC K H q st.cs/\H PJ=some (.tbl psJ)/\st∈raw s/\∀(p':Addr) (H':Hp),aB H H'->StA K H' p' (behind s st)->Q (.ref p') H'
theorem jK {K:BM}{vs:List V}{H:Hp}{Q:VK}{E:XK}:iO K vs H Q E↔∃(p q:Addr) (s:Sta) (st:Stp),vs=[.ref p,.ref q]/\StA K H p s/\Wf s/\RowC K H q st.cs/\H PJ=some (.tbl psJ)/\st∈raw s/\∀(p':Addr) (H':Hp),aB H H'->StA K H' p' (behind s st)->Q (.ref p') H':=by
 delta iO
 exact Eg
theorem xB {b1:Bool}{U:Hp->(Bool->Hp->Prop)->Prop}{A P:Hp->Prop}{H5:Hp}(G:Hp->Prop)(hP:∀H',G H'->P H')(h:(∀H',G H'->P H')->b1=true->U H5 λb H1=>if b=true then A H1 else P H1)(h2:G H5):if b1=true then U H5 (λb H1=>if b=true then A H1 else P H1) else (λb H1=>if b=true then A H1 else P H1) false H5:=by
 cases b1 with
 | true=>rw[if_pos rfl];exact h hP rfl
 | false=>rw[if_neg B2];exact bK (hP _ h2)
theorem xC {K:BM}{cN:Addr}{vs:List V}{H:Hp}{Q:VK}{E:XK}(h:iO K vs H Q E):lG K cN vs H Q E0:=by
 obtain ⟨p,q,s,st,rfl,hs,W,hq,hP,hst,k⟩:=jK.mp h
 obtain ⟨wd,is,e⟩:=BF st
 refine fH.mpr ⟨p,q,s,wd,is,rfl,hs,W,AK (e ▸ hq),hP,λno =>?_,λst' h1 h2 =>?_⟩
 ·unfold can at no
  exact absurd (Ce.mpr ⟨st,hst,e⟩) (of_decide_eq_false no)
 ·rw[rT (h2.trans e.symm)]
  exact k
theorem vj {K:BM}{p:Addr}{k l:Nat}{tc':TT}{te:TE}{τ:St}{H:Hp}{Q:VK}(ts:List (Addr×Int×Int))(hkl:k≠l)(hz:ts.length<=Ca)(hs:SqT K H p (ts.map λt =>.ref t.1))(hu:∀t∈ts,SqT K H t.1 [.int t.2.1,.int t.2.2])
  (ht:∀σ H1,∀R:Bool->Hp->Prop,R true H1->tc' σ H1 R)
  (he:∀t∈ts,∀H1,aB H H1->∀R:VK,(∀q H2,aB H1 H2->RowC K H2 q (tc (t.2.1,t.2.2,[]))->R (.ref q) H2)->te ((τ.set k (some (.int t.2.1))).set l (some (.int t.2.2))) H1 R)
  (hd:∀H' (ks:List (Addr×Tie)) r,aB H H'->(∀k∈ks,RowC K H' k.1 (tc k.2))->ks.map (·.2)=ts.map (λt=>(t.2.1,t.2.2,[]))->H' r=none->Q (.ref r) (upd H' r (.lst (ks.map λk=>V.ref k.1)))):fL (Itt K p) (sE K k l) tc' te τ Q H:=by
 refine uO (ts:=ts.map λt=>(t.1,V.int t.2.1,V.int t.2.2)) (λi ys H'=>aB H H'/\∃ks:List (Addr×Tie),ys=ks.map (λk=>V.ref k.1)/\(∀k∈ks,RowC K H' k.1 (tc k.2))/\ks.map (·.2)=(ts.take i).map λt=>(t.2.1,t.2.2,[])) hkl ⟨aB.refl _,[],rfl,λk hk=>(by cases hk),rfl⟩ (by rw[BQ];exact hz) (λi ys H' _ z=>⟨by rw[Cs];exact ah z.1 hs,λt ht'=>by obtain ⟨t',m,rfl⟩:=Ce.mp ht';exact ah z.1 (hu t' m)⟩) ?_ ?_
 ·rintro i t ys H' et _ ⟨s,ks,rfl,rk,ek⟩ R1 R0 r1 r0
  rw[CA] at et
  obtain ⟨u,eu,rfl⟩:=D2.mp et
  refine ht _ _ _ ?_
  rw[if_pos rfl]
  refine he u (Cy eu) H' s _ λq H2 s2 rq=>r1 _ _ ⟨s.trans s2,ks++[(q,(u.2.1,u.2.2,[]))],by rw[B4];rfl,λk hk =>?_,?_⟩
  ·rcases B5.mp hk with z | z
   ·exact aE s2 (rk k z)
   ·rw[Ck.mp z];exact rq
  ·rw[B4,ek,DA,eu,B4];rfl
 ·rintro ys H' _ ⟨s,ks,rfl,rk,ek⟩ r hr
  rw[CP (by rw[BQ];exact BV _)] at ek
  exact hd H' ks r s rk ek hr
section
variable  {P:B7}{w:CJ}{K:BM}{mg:Str->Option BP}{base:Heap}{f T:Addr}{fd:CT}
theorem fR:aV ["script", "cell", "pot", "web", "state", "turn", "steps", "odd", "told", "step", "due"] ["script"] (aA uW):=⟨rfl,rfl,rfl,by decide +kernel,rfl,by decide +kernel,by decide +kernel⟩
theorem jV:(["one", "other"]:List Str).Nodup:=by decide +kernel
theorem BL (F:Fun K "law" "law" uW f fd)(B:Blt mg)(cLWeb:Cal P w K mg base 2 "_law_web" ["pot", "most"] tT)(cBeginRules:Cal P w K mg base 1 "begin_rules" ["web"] (kh K))(cLDeal:Cal P w K mg base 1 "_law_deal" ["cell", "many"] oG)(cLSame:Cal P w K mg base 5 "_law_same" ["found", "due"] (spS K 5))(cLSteps:Cal P w K mg base 1 "_law_steps" ["state"] (iM K))(cLOdd:Cal P w K mg base 2 "_law_odd" ["pot", "many"] (tU K))(cStepsNow:Cal P w K mg base 4 "steps_now" ["state"] (ki K))(cLBehind:Cal P w K mg base 1 "_law_behind" ["state", "step"] (gH K))(cLTake:Cal P w K mg base 1 "_law_take" ["pot", "many"] jf)(cLRefused:Cal P w K mg base 8 "_law_refused" ["state", "step"] (oS K))(cRuleStep:Cal P w K mg base 7 "rule_step" ["state", "step"] (iO K)):bS P w K mg base CX0 9 f fd ["script"] (qC K):=by
 refine F.ok fR (λvs H Q E h =>?_) (λcdv A outer s H vs Q E hr h =>?_)
 ·obtain ⟨_,_,rfl,_⟩:=nG.mp h
  rfl
 obtain ⟨a,ns,rfl,hS,h63,hP,q⟩:=nG.mp h
 refine ⟨_,(@aj _ _ _ _ _ (@fe _ _ _ _ _ _ _ _ D8 rfl (@j6 _ _ _ _ (@bC _ _ _ _ _ _ _ _ j7 (cR nQ (pv 0) dw (dy ai)) (@dH _ _ _ _ (@aa _ _ _ _ _ ai ag rfl)))) (aS (i:=1) fR.nd rfl (Or.inl rfl))
   (@aj _ _ _ _ _ (@aU _ _ 2 _ _ _ _ fR.nd rfl (Or.inl rfl) (@dH _ _ _ _ (@aa _ _ _ _ _ (aN cLDeal hr (by decide) rfl (@aa _ _ _ _ _ (pv 1) (@aa _ _ _ _ _ ai ag rfl) rfl)) ag rfl)) rfl (by first | exact .inl rfl | exact .inr rfl | assumption))
   (@aj _ _ _ _ _ (@aU _ _ 3 _ _ _ _ fR.nd rfl (Or.inl rfl) (aN cLWeb hr (by decide) rfl (@aa _ _ _ _ _ (pv 2) (@aa _ _ _ _ _ ai ag rfl) rfl)) rfl (by first | exact .inl rfl | exact .inr rfl | assumption))
   (@aj _ _ _ _ _ (@aU _ _ 4 _ _ _ _ fR.nd rfl (Or.inl rfl) (aN cBeginRules hr (by decide) rfl (@aa _ _ _ _ _ (pv 3) ag rfl)) rfl (by first | exact .inl rfl | exact .inr rfl | assumption))
   (@aj _ _ _ _ _ (@ba _ _ _ _ _ _ _ _ (dF (bV (aN cLSame hr (by decide) rfl (@aa _ _ _ _ _ (pv 4) (@aa _ _ _ _ _ (@aP _ _ _ _ _ (@aa _ _ _ _ _ (bh (jD hr.hd) rfl B.b_tuple aO (@aa _ _ _ _ _ (bh jC rfl B.b_range qg (@aa _ _ _ _ _ (@aG _ _ _ _ _ _ _ aM (pv 3) ai (λ_ _=>rfl)) ag rfl)) ag rfl)) (@aa _ _ _ _ _ (bh aW rfl B.b_tuple aO (@aa _ _ _ _ _ (cy ["one", "other"] [none,none] rfl (@cq _ _ _ _ (@aG _ _ _ _ _ _ _ aM (pv 3) ai (λ_ _=>rfl))) rfl (λ_ _ _ _ _=>(f9 (K:=K) (i:=0) (j:=1) jV rfl rfl (Or.inl rfl) (Or.inl rfl))) (λ_ _ _ _ _=>eC) (λ_ _ _ _ _=>(@aP _ _ _ _ _ (@aa _ _ _ _ _ (pv 0) (@aa _ _ _ _ _ (pv 1) (@aa _ _ _ _ _ (@aP _ _ _ _ _ ag) ag rfl) rfl) rfl)))) ag rfl)) (@aa _ _ _ _ _ (@aP _ _ _ _ _ ag) ag rfl) rfl) rfl)) ag rfl) rfl)))) (@aq _ _ _ (@aL _ _ _ _ ku)) aK)
   (@aq _ _ _ (@fe _ _ _ _ _ _ _ _ D8 rfl (iR rfl B.b_range (@aa _ _ _ _ _ ai ag rfl)) (aS (i:=5) fR.nd rfl (Or.inl rfl))
    (@aj _ _ _ _ _ (@aU _ _ 6 _ _ _ _ fR.nd rfl (Or.inl rfl) (aN cLSteps hr (by decide) rfl (@aa _ _ _ _ _ (pv 4) ag rfl)) rfl (by first | exact .inl rfl | exact .inr rfl | assumption))
    (@aj _ _ _ _ _ (@aU _ _ 7 _ _ _ _ fR.nd rfl (Or.inl rfl) (aN cLOdd hr (by decide) rfl (@aa _ _ _ _ _ (pv 2) (@aa _ _ _ _ _ (@aG _ _ _ _ _ _ _ aM (pv 3) ai (λ_ _=>rfl)) ag rfl) rfl)) rfl (by first | exact .inl rfl | exact .inr rfl | assumption))
    (@aj _ _ _ _ _ (@aU _ _ 8 _ _ _ _ fR.nd rfl (Or.inl rfl) (aN cStepsNow hr (by decide) rfl (@aa _ _ _ _ _ (pv 4) ag rfl)) rfl (by first | exact .inl rfl | exact .inr rfl | assumption))
    (@aj _ _ _ _ _ (@ba _ _ _ _ _ _ _ _ (PW.pt (l9 (dF (bV (aN cLSame hr (by decide) rfl (@aa _ _ _ _ _ (pv 8) (@aa _ _ _ _ _ (pv 6) ag rfl) rfl)))) (iP (PW.pt (nJ (aJ (m5 (K:=K) (hu8 hr)) (pv 7) (pv 6) rfl) (jY (dF (bV (aN cLRefused hr (by decide) rfl (@aa _ _ _ _ _ (pv 4) (@aa _ _ _ _ _ (pv 7) ag rfl) rfl)))))))))) (@aq _ _ _ (@aL _ _ _ _ ku)) aK)
    (@aj _ _ _ _ _ (cK (fY C3 CZ C0 cg (pv 8) (@aa _ _ _ _ _ (pv 7) ag rfl)))
    (@aj _ _ _ _ _ (@ba _ _ _ _ _ _ _ _ (dF (bV (aN cLSame hr (by decide) rfl (@aa _ _ _ _ _ (aN cStepsNow hr (by decide) rfl (@aa _ _ _ _ _ (pv 4) ag rfl)) (@aa _ _ _ _ _ (pv 6) ag rfl) rfl)))) (@aq _ _ _ (@aL _ _ _ _ ku)) aK)
    (@aq _ _ _ (@ba _ _ _ _ _ _ _ _ (aJ (AB hr) (pv 6) (@dH _ _ _ _ ag) (aH _)) (@aj _ _ _ _ _ (@aU _ _ 9 _ _ _ _ fR.nd rfl (Or.inl rfl) (@aG _ _ _ _ _ _ _ bQ (pv 6) (aN cLTake hr (by decide) rfl (@aa _ _ _ _ _ (pv 2) (@aa _ _ _ _ _ (ak aX rfl B.b_len cU (@aa _ _ _ _ _ (pv 6) ag rfl)) ag rfl) rfl)) (λ_ _=>rfl)) rfl (by first | exact .inl rfl | exact .inr rfl | assumption))
     (@aj _ _ _ _ _ (@aU _ _ 10 _ _ _ _ fR.nd rfl (Or.inl rfl) (aN cLBehind hr (by decide) rfl (@aa _ _ _ _ _ (pv 4) (@aa _ _ _ _ _ (pv 9) ag rfl) rfl)) rfl (by first | exact .inl rfl | exact .inr rfl | assumption))
     (@aj _ _ _ _ _ (@ba _ _ _ _ _ _ _ _ (dF (bV (aN cLSame hr (by decide) rfl (@aa _ _ _ _ _ (aN cRuleStep hr (by decide) rfl (@aa _ _ _ _ _ (pv 4) (@aa _ _ _ _ _ (pv 9) ag rfl) rfl)) (@aa _ _ _ _ _ (pv 10) ag rfl) rfl)))) (@aq _ _ _ (@aL _ _ _ _ ku)) aK)
     (@aq _ _ _ (@aU _ _ 4 _ _ _ _ fR.nd rfl (Or.inl rfl) (pv 10) rfl (by first | exact .inl rfl | exact .inr rfl | assumption)))))) aK)))))))) (λ_=>rfl))))))) (λ_=>rfl))
  (@aq _ _ _ (@aL _ _ _ _ ku))),?_⟩
 refine ⟨_,rfl,20,rfl,a,_,rfl,hS,λl0 hl0 =>?_⟩
 obtain ⟨ms,em,lt,_⟩:=uC ns none (some 20)
 rw[em]
 have s1:=ae hl0 (.lst (ms.map V.int))
 refine ⟨gu,λl1 hl1=>⟨l0,l1,_,_,rfl,rfl,SqL.of ((ae hl1 _) _ _ af),SqL.of af,?_,λl2 hl2 =>?_⟩⟩
 ·rw[BQ]
  exact small (by show _+1<=_;omega)
 have s2:=(s1.trans (ae hl1 (.lst [.int 3]))).trans (ae hl2 (.lst (ms.map V.int++[.int 3])))
 have e2:upd (upd (upd H l0 (.lst (ms.map V.int))) l1 (.lst [.int 3])) l2 (.lst (ms.map V.int++[.int 3])) l2=some (.lst ((ms++[3]).map V.int)):=by rw[af,B4];rfl
 generalize upd (upd (upd H l0 (.lst (ms.map V.int))) l1 (.lst [.int 3])) l2 (.lst (ms.map V.int++[.int 3]))=H2 at s2 e2
 have hP2:=s2 _ _ hP
 refine ⟨l2,rfl,⟨_,SqL.of e2⟩,vv (xs:=(ms++[3]).map V.int) (λi σ H'=>(∃c1 c2 c3 c4 c5 c6 c7 c8 c9 c10,σ=[some (.ref a),c1,c2,c3,c4,c5,c6,c7,c8,c9,c10])/\aB H2 H') ⟨⟨_,_,_,_,_,_,_,_,_,_,rfl⟩,aB.refl _⟩ (λi σ H' _ k=>SqL.of (k.2 _ _ e2)) ?_ (λσ H' _=>q _)⟩
 rintro i x σ H3 hx ⟨⟨c1,c2,c3,c4,c5,c6,c7,c8,c9,c10,rfl⟩,s3⟩
 rw[CA] at hx
 obtain ⟨cell,_,rfl⟩:=D2.mp hx
 refine ⟨_,rfl,hG.mpr ⟨cell,40,rfl,by decide,by decide,λnn=>⟨gu,λp hp =>?_⟩⟩⟩
 have hp2:H2 p=none:=none_of s3 hp
 have sBu:∀{A B:Hp},aB H2 A->Bu 1 p A B->aB H2 B:=λsA b q o e=>b.st q o (λz=>by rw[z,hp2] at e;cases e) (sA q o e)
 have p0:Pt 1 (upd H3 p (.lst [.int nn])) p:=⟨[nn],rfl,af⟩
 have b0:=Bu.refl p0
 have fr:∀{H':Hp},Bu 1 p (upd H3 p (.lst [.int nn])) H'->aB H3 H':=λb=>Bu.fresh hp b
 generalize upd H3 p (.lst [.int nn])=H4 at p0 b0 fr
 refine ⟨_,rfl,jk.mpr ⟨p,8,rfl,b0.pot,by decide,by decide,λr t n us H5 b5 er et tw n8 l28 so =>?_⟩⟩
 obtain ⟨ts,ets⟩:=zw tw
 have gd:=xA tw (by omega) l28 so ets
 have lts:ts.length<=28:=by rw[ets,BQ] at l28;exact l28
 have et:SqT K H5 t (ts.map λu =>.ref u.1):=SqT.of (by rw[et,ets,Cs];rfl)
 have eu:∀u∈ts,SqT K H5 u.1 [.int u.2.1,.int u.2.2]:=λu hu=>SqT.of (tw.at' (u.1,[u.2.1,u.2.2]) (by rw[ets];exact Ce.mpr ⟨u,hu,rfl⟩))
 have er:=SqT.of (K:=K) er
 have s5:=s3.trans (fr b5)
 refine ⟨_,rfl,gv.mpr ⟨r,t,n,ts,rfl,er,et,eu,by omega,by omega,λpS qS lS kS H6 ks s6 g1 g2 g3 g4 g5 =>?_⟩⟩
 have sta:StA K H6 pS ⟨(Dh n).map λi:Nat=>(i:Int),ts.map λt=>(t.2.1,t.2.2,[]),[]⟩:=⟨qS,lS,kS,ks,g1,by rw[Cs];exact g2,g3,g4,g5⟩
 have p6:=b5.pot.same s6
 refine ⟨_,rfl,_,rfl,r,_,0,_,rfl,rfl,ah s6 er,rfl,_,rfl,λpa na =>?_⟩
 have h7:=ae na (.rng 0 (n:Int))
 have ea:(upd H6 pa (.rng 0 (n:Int))) pa=_:=af
 generalize upd H6 pa (.rng 0 (n:Int))=H7 at h7 ea
 refine ⟨pa,n,rfl,ea,by omega,λpq nq =>?_⟩
 have h8:=h7.trans (ae nq (.tup ((Dh n).map λi=>V.int (i:Nat))))
 have eq8:(upd H7 pq (.tup ((Dh n).map λi=>V.int (i:Nat)))) pq=_:=af
 generalize upd H7 pq (.tup ((Dh n).map λi=>V.int (i:Nat)))=H8 at h8 eq8
 have s68:=s6.trans h8
 refine ⟨_,rfl,r,_,1,_,rfl,rfl,ah s68 er,rfl,t,rfl,⟨_,ah s68 et⟩,vj ts (by decide) (small (by omega)) (ah s68 et) (λu hu=>ah s68 (eu u hu)) (λσ H1 R rr=>rr) (λu hu J sJ R rr =>?e) λH9 ks2 la s9 rk ek na' =>?c⟩
 case e =>
  exact ⟨_,rfl,_,rfl,CC _,λp0 n0=>⟨bL,λp1 n1=>rr p1 _ ((ae n0 _).trans (ae n1 _)) (jF (SqT.of af) (SqT.of (ae n1 _ _ _ af)))⟩⟩
 case c =>
 refine ⟨la,_,rfl,.inl ⟨SqL.of af,λpt nt=>⟨CC _,λpk nk=>⟨bL,λp9 n9 =>?_⟩⟩⟩⟩
 have z6:=(ae nk (.tup [])).trans (ae n9 (.tup [.ref pq,.ref pt,.ref pk]))
 have z5:=(ae nt (.tup (ks2.map λk=>V.ref k.1))).trans z6
 have z4:=(ae na' (.lst (ks2.map λk=>V.ref k.1))).trans z5
 have sta2:=StA.same (h8.trans (s9.trans z4)) sta
 refine dZ.mpr ⟨_,_,rfl,qB gd sta2 ⟨pq,pt,pk,ks2,SqT.of af,by rw[Cs];exact SqT.of ((s9.trans z4) _ _ eq8),⟨SqT.of (z6 _ _ af),λk hk=>aE z4 (rk k hk)⟩,ek,SqT.of (ae n9 _ _ _ af)⟩,λJ sJ=>⟨_,rfl,bK ?_⟩⟩
 have sJ6:=(h8.trans (s9.trans z4)).trans sJ
 have staJ:=StA.same sJ6 sta
 have pJ:=p6.same sJ6
 have erJ:=ah (s6.trans sJ6) er
 have s2J:=(s5.trans s6).trans sJ6
 clear sta2 sta eu et er tw
 refine ⟨10,rfl,by decide,by decide,iS (λkk σ G=>(∃ps c5 c6 c7 c8 c9 c10,∃s:Sta,σ=[some (.ref a),some (.int cell),some (.ref p),some (.ref r),some (.ref ps),c5,c6,c7,c8,c9,c10]/\StA K G ps s/\Gd s)/\aB H2 G/\Pt 1 G p/\SqT K G r [.int n,.ref t]) ⟨⟨_,_,_,_,_,_,_,_,rfl,staJ,gd⟩,s2J,pJ,erJ⟩ ?_ ?_⟩
 ·rintro kk σ G hk ⟨⟨ps,c5,c6,c7,c8,c9,c10,s,rfl,st,gs⟩,sG,pG,eG⟩
  have PG:=sG _ _ hP2
  refine ⟨_,rfl,fJ.mpr ⟨ps,s,rfl,st,gs.wf,λlS G1 os t1 e1 r1 m1 =>?_⟩⟩
  have p1:=pG.same t1
  refine ⟨_,rfl,_,rfl,r,_,0,_,rfl,rfl,ah t1 eG,rfl,jm.mpr ⟨p,n,rfl,p1,by omega,by omega,λqo wd is G2 b2 eo li =>?_⟩⟩
  have lne:=AS p1 e1
  have e2:=b2.st _ _ lne e1
  have r2:∀k∈os,RowC K G2 k.1 k.2.cs:=λk hk=>sf p1 b2 (r1 k hk)
  have st2:=xw p1 b2 (st.same t1)
  have eG2:=gx p1 b2 (ah t1 eG)
  have PG2:=xx p1 b2 (t1 _ _ PG)
  have p2:=b2.pot
  have sG2:aB H2 G2:=sBu (sG.trans t1) b2
  refine ⟨_,rfl,dY.mpr ⟨ps,s,rfl,st2,gs.wf,λlT G3 ot t3 nT e3 r3 m3 =>?_⟩⟩
  have le:os.length<=400000:=by
   have:=tQ gs.wf
   have e:os.length=(cZ s).length:=by rw[<- m1,BQ]
   have e':(cZ s).length=(raw s).length:=(Dy _ _).length_eq
   omega
  refine ⟨_,rfl,_,rfl,dZ.mpr ⟨_,_,rfl,lM e3 (t3 _ _ e2) r3 (λk hk=>aE t3 (r2 k hk)) (m3.trans m1.symm) (by rw[map_len (m3.trans m1.symm)];exact le),λG4 t4=>⟨_,rfl,bK ?_⟩⟩⟩
  have u4:=t3.trans t4
  have r4:∀k∈os,RowC K G4 k.1 k.2.cs:=λk hk=>aE u4 (r2 k hk)
  refine ⟨_,rfl,_,rfl,lS,qo,os.map (λk:Addr×Stp=>(k.1,k.2.cs)),oc wd is,rfl,rfl,.inl (by rw[Cs];exact SqL.of (u4 _ _ e2)),λk hk=>(by obtain ⟨k',hk',rfl⟩:=Ce.mp hk;exact r4 k' hk'),xh (ah u4 eo),_,rfl,?_⟩
  have em:(os.map (λk:Addr×Stp=>(k.1,k.2.cs))).map (·.2)=(cZ s).map Stp.cs:=by rw[<- m1,Cs,Cs];rfl
  rw[em]
  show if (!decide (oc wd is∈(cZ s).map Stp.cs))=true then _ else _
  refine xB (λG5=>aB G4 G5) ?_ (λhN hb =>?_) (aB.refl _)
  rotate_left
  ·have no:can s wd is=false:=by
    have hb:=of_decide_eq_false ((D4 _).mp hb)
    refine decide_eq_false λh=>hb ?_
    obtain ⟨t',h1,h2⟩:=Ce.mp h
    exact Ce.mpr ⟨t',nB.mpr h1,h2⟩
   exact ⟨_,rfl,_,rfl,ic.mpr ⟨ps,qo,s,wd,is,rfl,st2.same u4,gs.wf,ah u4 eo,u4 _ _ PG2,no,λG5 t5=>⟨_,rfl,bK (hN G5 t5)⟩⟩⟩
  intro G5 t5
  have u5:=u4.trans t5
  have eT5:=(t4.trans t5) _ _ e3
  refine ⟨_,rfl,.inl ⟨rfl,_,SqL.of eT5⟩,_,rfl,lT,_,_,rfl,rfl,eT5,?_,?_⟩
  ·rw[BQ,map_len (m3.trans m1.symm)]
   exact CG le (by decide)
  have u6:aB G2 (upd G5 lT (.lst ((ot.map λk=>V.ref k.1)++[.ref qo]))):=cH nT u5
  generalize upd G5 lT (.lst ((ot.map λk=>V.ref k.1)++[.ref qo]))=G6 at u6
  refine ⟨_,rfl,dY.mpr ⟨ps,s,rfl,st2.same u6,gs.wf,λlU G7 ou t7 nU e7 r7 m7 =>?_⟩⟩
  have u7:=u6.trans t7
  refine ⟨_,rfl,dZ.mpr ⟨_,_,rfl,lM e7 (u7 _ _ e2) r7 (λk hk=>aE u7 (r2 k hk)) (m7.trans m1.symm) (by rw[map_len (m7.trans m1.symm)];exact le),λG8 t8=>⟨_,rfl,bK ?_⟩⟩⟩
  have u8:=u7.trans t8
  refine ⟨_,rfl,CC _,λlz nz =>?_⟩
  have u9:=u8.trans (ae nz (.lst []))
  have ez:(upd G8 lz (.lst [])) lz=some (.lst []):=af
  generalize upd G8 lz (.lst [])=G9 at u9 ez
  have e9:=u9 _ _ e2
  have r9:∀k∈os,RowC K G9 k.1 k.2.cs:=λk hk=>aE u9 (r2 k hk)
  refine ⟨lS,lz,_,rfl,rfl,e9,ez,λ_=>⟨_,rfl,bK ?_⟩,λne=>⟨_,rfl,bN ?_⟩⟩
  ·exact ⟨⟨_,_,_,_,_,_,_,_,rfl,st2.same u9,gs⟩,sG2.trans u9,p2.same u9,ah u9 eG2⟩
  have lo:0<os.length:=IK.mpr λz=>ne (by rw[z];rfl)
  have p9:=p2.same u9
  refine ⟨_,rfl,_,rfl,_,rfl,lS,_,rfl,.inl (SqL.of e9),aZ.mpr ⟨p,_,rfl,p9,by rw[BQ];omega,?_,λd GA d0 d1 bA =>?_⟩⟩
  ·rw[BQ]
   exact CG (show ((os.length:Int)).natAbs<=400000 by omega) (by decide +kernel)
  rw[BQ] at d1
  obtain ⟨kd,rfl⟩:∃kd:Nat,d=kd:=⟨d.toNat,by omega⟩
  have lk:kd<os.length:=by omega
  have eA:=bA.st _ _ lne e9
  have rA:=sf p9 bA (r9 _ (Fw lk))
  have stA:=xw p9 bA (st2.same u9)
  have hst:(os[kd]).2∈raw s:=by
   refine nB.mp ?_
   rw[<- m1]
   exact FA (Fw lk)
  have PA:=xx p9 bA (u9 _ _ PG2)
  have eGA:=gx p9 bA (ah u9 eG2)
  have sGA:=sBu (sG2.trans u9) bA
  have pA:=bA.pot
  refine ⟨lS,_,kd,.ref (os[kd]).1,rfl,rfl,SqL.of eA,xP (by rw[CA,Cr lk];rfl),?_⟩
  refine ⟨_,rfl,_,rfl,eM.mpr ⟨ps,_,s,_,rfl,stA,rA,hst,gs.wf,gs.so,λpd GB tB dB =>?_⟩⟩
  refine ⟨_,rfl,_,rfl,jK.mpr ⟨ps,_,s,_,rfl,stA.same tB,gs.wf,aE tB rA,tB _ _ PA,hst,λpr GC tC dC =>?_⟩⟩
  have gb:=vi gs hst
  have dB2:=dB.same tC
  refine ⟨_,rfl,dZ.mpr ⟨_,_,rfl,qB gb dC dB2,λGD tD=>⟨_,rfl,bK ⟨_,rfl,?_⟩⟩⟩⟩
  have uD:=tB.trans (tC.trans tD)
  exact ⟨⟨_,_,_,_,_,_,_,_,rfl,dB2.same tD,gb⟩,sGA.trans uD,pA.same uD,ah uD eGA⟩
 ·rintro σ G ⟨⟨ps,c5,c6,c7,c8,c9,c10,s,rfl,st,gs⟩,sG,pG,eG⟩
  exact ⟨⟨_,_,_,_,_,_,_,_,_,_,rfl⟩,sG⟩
end
open PySem L2
theorem all_mk {l:PySem.W.OpenLaw}{w:CJ}{K:BM}{h:Heap}{mg:Str->Option BP}{fa:Addr}(X:K.In h)(G:h.Ns Ct mg)(hfa:mg "law" = some (.ref fa))
  (h1:cJ K "begin_rules" gn) (h2:cJ K "is_at" wU) (h3:cJ K "beside_ties" gp) (h4:cJ K "ties_between" fq) (h5:cJ K "place_word" gZ) (h6:cJ K "full_pairs" ft) (h7:cJ K "steps_now" i4) (h8:cJ K "can_do" rL) (h9:cJ K "way_from" lh) (h10:cJ K "other_end" i5) (h11:pY K "joined_tie" fw PJ) (h12:cJ K "many_done" i6) (h13:cJ K "step_done" i7) (h14:cJ K "rule_step" i8) (h15:cJ K "_law_deal" rM) (h16:cJ K "_law_take" rN) (h17:cJ K "_law_web" wV) (h18:cJ K "_law_same" oB) (h19:cJ K "_law_steps" oE) (h20:cJ K "_law_behind" lj) (h21:cJ K "_law_refused" i9) (h22:cJ K "_law_odd" wW) (h23:cJ K "law" uW)
  (y_all:CY K Ct "all" = some none) (y_any:CY K Ct "any" = some none) (y_bool:CY K Ct "bool" = some none) (y_int:CY K Ct "int" = some none) (y_isinstance:CY K Ct "isinstance" = some none) (y_len:CY K Ct "len" = some none) (y_list:CY K Ct "list" = some none) (y_max:CY K Ct "max" = some none) (y_min:CY K Ct "min" = some none) (y_range:CY K Ct "range" = some none) (y_reversed:CY K Ct "reversed" = some none) (y_sorted:CY K Ct "sorted" = some none) (y_str:CY K Ct "str" = some none) (y_sum:CY K Ct "sum" = some none) (y_tuple:CY K Ct "tuple" = some none) (y_zip:CY K Ct "zip" = some none) (y_ValueError:CY K Ct "ValueError" = some none)
  {c_WebError:Addr} (e_WebError:CY K Ct "WebError" = some (some (.ref c_WebError)))
  {c_NoStep:Addr} (e_NoStep:CY K Ct "NoStep" = some (some (.ref c_NoStep)))
  {c_NoText:Addr} (e_NoText:CY K Ct "NoText" = some (some (.ref c_NoText)))
  {c_TooMany:Addr} (e_TooMany:CY K Ct "TooMany" = some (some (.ref c_TooMany)))
  {c_NotClear:Addr} (e_NotClear:CY K Ct "NotClear" = some (some (.ref c_NotClear)))
  (xi_NoStep:L2.yA K c_NoStep=true)
  (xn_NoStep:L2.yB K c_NoStep "at" = true)
  (k_self:PySem.W.kitOne K (.ref c_NoStep) (.ref c_NoStep)=some true)
  (k_val:PySem.W.kitOne K (.ref c_NoStep) (.type "ValueError")=some true)
  (xm_NoStep:PySem.W.exmOne K (.ref c_NoStep) (.ref c_WebError)=some true)
  (xo_NoStep:PySem.W.kitAny K (.ref c_NoStep) [.ref c_NoText,.ref c_NotClear,.ref c_TooMany]=some false)
  (w_ga:PySem.W.specialIn K (.ref c_WebError) "__getattribute__" = some (some (.builtin "type.__getattribute__")))
  (w_rd:PySem.W.readsIn K c_WebError (.type "type")=true)
  (w_fd:PySem.W.findCls K (.ref c_WebError) (.type "type") "__init__" = some (.val (.builtin "ValueError.__init__")))
  (hi_NoStep:L2.uT K c_NoStep "__init__" "NoStep.__init__" hZ)
  : ∃fd:CT,(∀(s:BR) (v:BP),BindsTo s fd ⟨[v],[]⟩ [("script",v)])/\∀base:Heap,K.In base->base.Ns Ct mg->bS l.prog w K mg base CX0 9 fa fd ["script"] (qC K):=by
 obtain ⟨fl,od,an,sl,oc,kV,dc,pm,cd,ct,al,ll,cl,kl⟩:=h23
 have e:=hfa.symm.trans (DV X G al)
 cases e
 have F23:=gX ll cl kl
 have z_all:=CU X G y_all
 have z_any:=CU X G y_any
 have z_bool:=CU X G y_bool
 have z_int:=CU X G y_int
 have z_isinstance:=CU X G y_isinstance
 have z_len:=CU X G y_len
 have z_list:=CU X G y_list
 have z_max:=CU X G y_max
 have z_min:=CU X G y_min
 have z_range:=CU X G y_range
 have z_reversed:=CU X G y_reversed
 have z_sorted:=CU X G y_sorted
 have z_str:=CU X G y_str
 have z_sum:=CU X G y_sum
 have z_tuple:=CU X G y_tuple
 have z_zip:=CU X G y_zip
 have z_ValueError:=CU X G y_ValueError
 refine ⟨PySem.W.fnOf "law" "law" (bW uW) (bH uW) (aA uW) .none kV dc pm an cd ct,λs v =>.of_eq rfl,λbase kb nb =>?_⟩
 have B:Blt mg:=⟨z_all,z_any,z_bool,z_int,z_isinstance,z_len,z_list,z_max,z_min,z_range,z_reversed,z_sorted,z_str,z_sum,z_tuple,z_zip,z_ValueError⟩
 have x_WebError:=DV X G e_WebError
 have x_NoStep:=DV X G e_NoStep
 have x_NoText:=DV X G e_NoText
 have x_TooMany:=DV X G e_TooMany
 have x_NotClear:=DV X G e_NotClear
 have Z:Exs K mg c_WebError c_NoStep c_NoText c_TooMany c_NotClear:=⟨x_WebError,x_NoStep,x_NoText,x_TooMany,x_NotClear,xi_NoStep,xn_NoStep,k_self,k_val,xm_NoStep,xo_NoStep,w_ga,w_rd,w_fd⟩
 have cLTake:=h16.cal l.prog w base X G (λF=>yU F B) λ_ _ _ _ _ _ us hl=>match us,hl with | [_,_],_=>rfl
 have cLWeb:=h17.cal l.prog w base X G (λF=>AN F B cLTake) λ_ _ _ _ _ _ us hl=>match us,hl with | [_,_],_=>rfl
 have cBeginRules:=h1.cal l.prog w base X G (λF=>oN F B) λ_ _ _ _ _ _ us hl=>match us,hl with | [_],_=>rfl
 have cLDeal:=h15.cal l.prog w base X G (λF=>yV F B) λ_ _ _ _ _ _ us hl=>match us,hl with | [_,_],_=>rfl
 have cLSame:=h18.BE l.prog w base X G (λ_ _ _ _=>AM) (λn c=>λF=>y9 F B n c) (λ_ _ _ _ _ _ us hl=>match us,hl with | [_,_],_=>rfl) 5
 have cSameM:=h18.calM l.prog w base X G (λF=>xt F B) λ_ _ _ _ _ _ us hl=>match us,hl with | [_,_],_=>rfl
 have cLSteps:=h19.cal l.prog w base X G (λF=>xn F B) λ_ _ _ _ _ _ us hl=>match us,hl with | [_],_=>rfl
 have cLOdd:=h22.cal l.prog w base X G (λF=>AR F B cLTake) λ_ _ _ _ _ _ us hl=>match us,hl with | [_,_],_=>rfl
 have cIsAt:=h2.cal l.prog w base X G (λF=>AI F B) λ_ _ _ _ _ _ us hl=>match us,hl with | [_,_],_=>rfl
 have cBesideTies:=h3.cal l.prog w base X G (λF=>oI F B cIsAt) λ_ _ _ _ _ _ us hl=>match us,hl with | [_,_],_=>rfl
 have cPlaceWord:=h5.cal l.prog w base X G (λF=>qi F B cBesideTies) λ_ _ _ _ _ _ us hl=>match us,hl with | [_,_],_=>rfl
 have cFullPairs:=h6.cal l.prog w base X G (λF=>ql F B) λ_ _ _ _ _ _ us hl=>match us,hl with | [_],_=>rfl
 have cStepsNow:=h7.cal l.prog w base X G (λF=>rW F B cPlaceWord cFullPairs) λ_ _ _ _ _ _ us hl=>match us,hl with | [_],_=>rfl
 have cLBehind:=h20.cal l.prog w base X G (λF=>vf F B) λ_ _ _ _ _ _ us hl=>match us,hl with | [_,_],_=>rfl
 have cTiesBetween:=h4.cal l.prog w base X G (λF=>lZ F B) λ_ _ _ _ _ _ us hl=>match us,hl with | [_,_,_],_=>rfl
 have cManyDone:=h12.cal l.prog w base X G (λF=>rQ F B cTiesBetween) λ_ _ _ _ _ _ us hl=>match us,hl with | [_,_,_],_=>rfl
 have cOtherEnd:=h10.cal l.prog w base X G (λF=>rP F B) λ_ _ _ _ _ _ us hl=>match us,hl with | [_,_],_=>rfl
 have cWayFrom:=h9.cal l.prog w base X G (λF=>va F B) λ_ _ _ _ _ _ us hl=>match us,hl with | [_,_],_=>rfl
 have cJoinedTie:=h11.cal l.prog w base X G (λF=>qh F B cOtherEnd cBesideTies cWayFrom) λ_ _ _ _ _ _ us hl=>match us,hl with | [_,_],_=>rfl
 have cStepDone:=h13.cal l.prog w base X G (λF=>rR F B cManyDone cJoinedTie cIsAt) λ_ _ _ _ _ _ us hl=>match us,hl with | [_,_],_=>rfl
 have cCanDo:=h8.cal l.prog w base X G (λF=>y6 F B cPlaceWord cFullPairs) λ_ _ _ _ _ _ us hl=>match us,hl with | [_,_],_=>rfl
 have iNoStep:=hi_NoStep.ini (L2.rg xn_NoStep).1 (L2.oq xi_NoStep).2.1 l.prog w base (λF=>qw F Z) λ_ _ _ _ _ _ us hl=>match us,hl with | [_,_],_=>rfl
 have xRule:=h14.BA l.prog w base X G (λF=>rY F B Z iNoStep cStepDone cCanDo) λ_ _ _ _ _ _ us hl=>match us,hl with | [_,_],_=>rfl
 have cRuleStep:=xRule.calm (sp':=iO K) λvs H Q E h=>xC (E:=E) h
 have cLRefused:=h21.cal l.prog w base X G (λF=>se F B Z xRule cSameM) λ_ _ _ _ _ _ us hl=>match us,hl with | [_,_],_=>rfl
 exact BL F23 B cLWeb cBeginRules cLDeal cLSame cLSteps cLOdd cStepsNow cLBehind cLTake cLRefused cRuleStep
theorem walk {l:PySem.W.OpenLaw}{q:B7}{loose:List Str}{XP:(Str->Option BP)->Heap->Prop}{YP:CJ->Heap->Prop}{d:DefRec}{K:Params->BM}(hn:l.most=some 63)(hdf:d.params.defaults=[])
  (hY:∀(w:CJ) (h:Heap),YP w h->(K w.params).In h)
  (hT:∀(w:CJ) (h:Heap),YP w h->h.get? PJ=some (PySem.W.tabObj #[]))
  (hK:∀(w:CJ),(K w.params).lookup PJ=none)
  (hL:∀(w:CJ),pY (K w.params) "joined_tie" fw PJ)
  (F:∀(w:CJ) (mg:Str->Option BP) (fa:Addr) (h:Heap),(K w.params).In h->h.Ns Ct mg->mg d.name=some (.ref fa) →
   ∃fd:CT,(∀(s:BR) (u:BP),BindsTo s fd ⟨[u],[]⟩ [("script",u)])/\∀base:Heap,(K w.params).In base->base.Ns Ct mg->bS l.prog w (K w.params) mg base CX0 9 fa fd ["script"] (qC (K w.params))) :
  PySem.W.WalkO q loose XP YP l.row.toRowW d [] (λf vs=>PySem.call f vs):=by
 refine L2.wD (n:=63) (k:=9) (x := "script") (CX:=λ_=>CX0) (sp:=λw=>qC (K w.params)) (λb=>if b=PJ then some psJ else none) hn (by decide) hdf ⟨rfl,by decide,by decide⟩ hY (λw h Y P' ps e =>?_) F (λw H a ns hl _ hP hS=>⟨a,ns,rfl,hS,hl,hP PJ psJ (if_pos rfl),λ_=>rfl⟩) λ_ _ _ _ _ z=>z
 by_cases c:P'=PJ
 ·subst c
  have e:(if PJ=PJ then some psJ else none)=some ps:=e
  rw[if_pos rfl] at e
  cases e
  obtain ⟨f,cc,od,an,sl,oc,kV,dc,pm,ct,_,_,_,hd,_⟩:=hL w
  exact ⟨⟨cc,hd⟩,hK w,hT w h Y,tE⟩
 ·have e:(if P'=PJ then some psJ else none)=some ps:=e
  rw[if_neg c] at e
  cases e
end K19
def PySem.W.Fast.tw16206257034507292715:Nat:=0
def PySem.W.Fast.tw10796014499751692139:Nat:=0
def PySem.W.Fast.tw3500534854598445784:Nat:=0
def PySem.W.Fast.tw5196734983535603453:Nat:=0
def PySem.W.Fast.tw10542975473674329384:Nat:=0
def PySem.W.Fast.tw8330923185982014873:Nat:=0
def PySem.W.Fast.tw5814210058958664242:Nat:=0
def PySem.W.Fast.tw9191196879161857994:Nat:=0
def PySem.W.Fast.tw4501786937180217985:Nat:=0
def PySem.W.Fast.tw10569836748485700463:Nat:=0
def PySem.W.Fast.tw7637323703726776380:Nat:=0
def PySem.W.Fast.tw11935883425186677849:Nat:=0
def PySem.W.Fast.tw17580910479647224801:Nat:=0
def PySem.W.Fast.tw4024518968654929140:Nat:=0
def PySem.W.Fast.tw1528092438685945365:Nat:=0
def PySem.W.Fast.tw3823163605708400092:Nat:=0
def PySem.W.Fast.tw16224714234564746305:Nat:=0
def PySem.W.Fast.tw12649561336144734882:Nat:=0
def PySem.W.Fast.tw12139901900331147263:Nat:=0
def PySem.W.Fast.tw12260368967898692777:Nat:=0
def PySem.W.Fast.tw17218789674098387336:Nat:=0
def PySem.W.Fast.tw6465518463846977269:Nat:=0
def PySem.W.Fast.tw9090053142157633529:Nat:=0
def PySem.W.Fast.tw1186787762386246250:Nat:=0
def PySem.W.Fast.tw5740666559962042459:Nat:=0
def PySem.W.Fast.tw4348219962788482775:Nat:=0
def PySem.W.Fast.tw5128594351407171657:Nat:=0
def PySem.W.Fast.tw16309358796355638607:Nat:=0
def PySem.W.Fast.tw3499673252976450692:Nat:=0
def PySem.W.Fast.tw14532605633102973078:Nat:=0
def PySem.W.Fast.tw15920734874845448030:Nat:=0
def PySem.W.Fast.tw15248975188540887173:Nat:=0
def PySem.W.Fast.tw16451659843862174597:Nat:=0
def PySem.W.Fast.tw10971556133132764754:Nat:=0
def PySem.W.Fast.tw4838969061008250745:Nat:=0
def PySem.W.Fast.tw6671173388199122495:Nat:=0
def PySem.W.Fast.tw4800227614902348952:Nat:=0
def PySem.W.Fast.tw14639616376798480250:Nat:=0
def PySem.W.Fast.tw1256610506716573131:Nat:=0
def PySem.W.Fast.tw203410152083638627:Nat:=0
def PySem.W.Fast.tw4352719197479704499:Nat:=0
def PySem.W.Fast.tw14316034826857455936:Nat:=0
def PySem.W.Fast.tw3836691735545029280:Nat:=0
def PySem.W.Fast.tw8127500140085056360:Nat:=0
def PySem.W.Fast.tw16365979713367591664:Nat:=0
def PySem.W.Fast.tw8677728469905872527:Nat:=0
def PySem.W.Fast.tw3477843599872045046:Nat:=0
def PySem.W.Fast.tw293545729313647632:Nat:=0
def PySem.W.Fast.tw4219467466267720804:Nat:=0
def PySem.W.Fast.tw13222321004838779091:Nat:=0
def PySem.W.Fast.tw10906766642240848604:Nat:=0
def PySem.W.Fast.tw654583252864644847:Nat:=0
def PySem.W.Fast.tw16996982032068466501:Nat:=0
def PySem.W.Fast.tw13134299920271923964:Nat:=0
def PySem.W.Fast.tw13321168205022457107:Nat:=0
def PySem.W.Fast.tw15625288380311604783:Nat:=0
def PySem.W.Fast.tw6819719910268110447:Nat:=0
def PySem.W.Fast.tw1493792726284328460:Nat:=0
def PySem.W.Fast.tw169902043650009990:Nat:=0
def PySem.W.Fast.tw14661298782956798575:Nat:=0
def PySem.W.Fast.tw5011823456720586515:Nat:=0
def PySem.W.Fast.tw13093427744783771782:Nat:=0
def PySem.W.Fast.tw12115991601519834967:Nat:=0
def PySem.W.Fast.tw17032672152023584948:Nat:=0
def PySem.W.Fast.tw14485032118586152347:Nat:=0
def PySem.W.Fast.tw17437921787665482898:Nat:=0
def PySem.W.Fast.tw9873541978157479160:Nat:=0
def PySem.W.Fast.tw6970833292422187877:Nat:=0
def PySem.W.Fast.tw79482617300026274:Nat:=0
def PySem.W.Fast.tw2089909192957438204:Nat:=0
def PySem.W.Fast.tw5542540540516591993:Nat:=0
def PySem.W.Fast.tw15980684608993088418:Nat:=0
def PySem.W.Fast.tw11308653767200870787:Nat:=0
def PySem.W.Fast.tw2781949735265517389:Nat:=0
def PySem.W.Fast.tw1150399014418634411:Nat:=0
def PySem.W.Fast.tw13280186414121680206:Nat:=0
def PySem.W.Fast.tw867554311544214683:Nat:=0
def PySem.W.Fast.tw2411655968311936408:Nat:=0
def PySem.W.Fast.tw3907866538216018396:Nat:=0
def PySem.W.Fast.tw16284926237354544951:Nat:=0
def PySem.W.Fast.tw8947842017595337067:Nat:=0
def PySem.W.Fast.tw1714037160542493840:Nat:=0
def PySem.W.Fast.tw17965729702666325290:Nat:=0
def PySem.W.Fast.tw13641481685435944390:Nat:=0
def PySem.W.Fast.tw12008679295229935771:Nat:=0
def PySem.W.Fast.tw10576950787913258555:Nat:=0
def PySem.W.Fast.tw8280702986859548035:Nat:=0
def PySem.W.Fast.tw3362185212000600059:Nat:=0
def PySem.W.Fast.tw8378601079547575141:Nat:=0
def PySem.W.Fast.tw13318852662809803866:Nat:=0
def PySem.W.Fast.tw18372717097828172968:Nat:=0
def PySem.W.Fast.tw3077150281610904369:Nat:=0
def PySem.W.Fast.tw8674884749369691200:Nat:=0
def PySem.W.Fast.tw3985044970406347048:Nat:=0
def PySem.W.Fast.tw13797675337195225977:Nat:=0
def PySem.W.Fast.tw15920549182261032723:Nat:=0
def PySem.W.Fast.tw6889415436453183113:Nat:=0
def PySem.W.Fast.tw7656464434854710338:Nat:=0
def PySem.W.Fast.tw11375004069878628129:Nat:=0
def PySem.W.Fast.tw3787907107009572374:Nat:=0
def PySem.W.Fast.tw15939719116607476267:Nat:=0
def PySem.W.Fast.tw5650976969517781645:Nat:=0
def PySem.W.Fast.tw4013571338512054145:Nat:=0
def PySem.W.Fast.tw10354981993325708859:Nat:=0
def PySem.W.Fast.tw4329938872657298209:Nat:=0
def PySem.W.Fast.tw6438528622909329087:Nat:=0
def PySem.W.Fast.tw9959618496059565816:Nat:=0
def PySem.W.Fast.tw2350967078670947717:Nat:=0
def PySem.W.Fast.tw367268241542077350:Nat:=0
def PySem.W.Fast.tw7649245412126843873:Nat:=0
def PySem.W.Fast.tw235113446522800479:Nat:=0
def PySem.W.Fast.tw14931584339391729811:Nat:=0
def PySem.W.Fast.tw15392578739863376175:Nat:=0
def PySem.W.Fast.tw11505674222482571451:Nat:=0
def PySem.W.Fast.tw8249521644899220560:Nat:=0
def PySem.W.Fast.tw813464215455323261:Nat:=0
def PySem.W.Fast.tw6153520858276726201:Nat:=0
def PySem.W.Fast.tw10559863552081813126:Nat:=0
def PySem.W.Fast.tw7218793959298914329:Nat:=0
def PySem.W.Fast.tw4450198329931225842:Nat:=0
def PySem.W.Fast.tw5869827318115866277:Nat:=0
def PySem.W.Fast.tw6976377670345346440:Nat:=0
def PySem.W.Fast.tw15226542646966415102:Nat:=0
def PySem.W.Fast.tw981155797654863039:Nat:=0
def PySem.W.Fast.tw15829349053745219576:Nat:=0
def PySem.W.Fast.tw2695755556366278947:Nat:=0
def PySem.W.Fast.tw14332102188118643443:Nat:=0
def PySem.W.Fast.tw13857172358585486168:Nat:=0
def PySem.W.Fast.tw12318688508453161956:Nat:=0
open PySem PySem.W PyProof.Rows
set_option maxRecDepth 100000 in
set_option maxHeartbeats 0 in
theorem PySem.Challenge.cw_ringfell_k19_steps_told_holds : PySem.Challenge.rw_ringfell_k19_steps_told.Holds := by
 w_on;o_law;k_head;(case hw=>w_witness2)
 k_fill
 refine K19.walk (l:=PySem.Challenge.rw_ringfell_k19_steps_told) rfl rfl (λw h Y=>PySem.W.km_in_of Y) (λw h Y=>PySem.W.km_tabs_of Y K19.PJ (by unfold K19.PJ;simp)) ?hK ?hL ?F
 case hK =>
  intro w
  kernel_rfl
 case hL =>
  intro w
  refine' L2.pY.mk ?a ?l ?c ?d ?k
  case a=>k_is
  case l=>k_is
  case c=>k_is
  case d=>first | kernel_rfl | exact rfl | decide +kernel
  case k=>k_is
 case F =>
  intro w mg fa h KX G hmg
  refine' K19.all_mk KX G hmg ?_ ?_ ?_ ?_ ?_ ?_ ?_ ?_ ?_ ?_ ?_ ?_ ?_ ?_ ?_ ?_ ?_ ?_ ?_ ?_ ?_ ?_ ?_ ?_ ?_ ?_ ?_ ?_ ?_ ?_ ?_ ?_ ?_ ?_ ?_ ?_ ?_ ?_ ?_ ?_ ?_ ?_ ?_ ?_ ?_ ?_ ?_ ?_ ?_ ?_ ?_ ?_ ?_ ?_ ?_
  any_goals k_is
  any_goals (with_reducible refine' L2.pY.mk ?a ?l ?c ?d ?k;(case a=>k_is);(case l=>k_is);(case c=>k_is);(case d=>first | kernel_rfl | exact rfl | decide +kernel);(case k=>k_is))
  any_goals (refine' L2.cJ.mk ?a ?l ?c ?k;(case a=>k_is);(case l=>k_is);(case c=>k_is);(case k=>k_is))
  any_goals (with_reducible refine' L2.uT.mk ?i ?n ?l ?c ?k;(case i=>k_is);(case n=>k_is);(case l=>k_is);(case c=>k_is);(case k=>k_is))
  all_goals kernel_rfl
