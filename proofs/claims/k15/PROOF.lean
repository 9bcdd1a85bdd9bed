import PyProof.Rows.All
import Wide.All
import OpenK.AllK
import Wide.FinOn
import Lean
import PyProof.EqAt
import PyProof.EqKinds
import PyProof.TupleCall
import KE.KRevIter
import PyProof.MinMaxWalk
import PySem.Challenge.RW_ringfell_k15_thinned
open PySem renaming wpAny_bind → BJ,Value → BM,wpAny_pure → BN,Shared → BQ,sizeLine → B4,Program → Ca,wpAny → Ci,model → Cs,mainGlobals → Cz,World → CJ,starEach → CN,wpAny_newObj_type → CO,codeAny_builtin → CQ,Around → Dd,FuncData → De,wpAny_holding → Dj,plainId_quiet → Dk,bootBuiltins → Dn,wpAny_ite_split → Dv,wpAny_updateSeq → DD,builtinLookup_eq_fast → DI,wpAny_truthy_bool → DL,wpAny_call_entry → DS,wpAny_mono → DT,compareOp → DW,wpAny_Call_Name_kw → DX,wpAny_specialOf → D3,wpAny_of_eq → D4,wpAny_typeOf → D7,isSubtype_type → D8,wpAny_tryCatch → D9,sizeLine_eq → Er,typeLookup_type → Ey,wpAny_rule → EB,wpAny_callSpecial?_slot → EG,wpAny_seqItems → EH,mem_of_lookup → EL,intItems → ER,wpAny_isInstance → EU,wpAny_pyIter_tuple → EW,codeAny_call_builtin → E2,wpAny_passesOwn → E7,wpAny_pyIter_list → E8,codeAny_mono → Fc,wpAny_field → Fl,backTo → Fo,wpAny_runValue → Fp,wpAny_execs_nil → Fz,wpAny_letGo → FA,codeAny → FC,wpAny_attempt → FJ,wpAny_loadPart_at → FK,codeAny_extend_loopS → FQ,boot_len → FU,wpAny_forIn_list → FY,rawInt → Gw,richCompare_meets_room → GA,call_meets → GG,wpAny_newList → G4,wpAny_setField_rec → Hq,tupleKind_room_in1 → Hr,wpAny_load → HJ,intKind_is → HK,wpAny_standAt → HV,holding → HY,wpAny_execs_cons → Ie,noFill_tuple_add → Ig,wpAny_askSetting → Ih,entryFor_of_tree → Ii,wpAny_Call_method_late → Io,wpAny_isTrue_Compare1 → II,concat_meets → IJ,wpAny_eqIsQuiet_tuple → IK,codeAny_of_tree → IL,weight_type_call_type → IM,wpAny_call → IQ,typeIs_int → IS,wpAny_setField → Ja,wpAny_setEntries_of → Jj,intItems_at → Jk,rangeSize_one → Jz,seq_tuple_add → JA,wpAny_eqBool_tuple → JE,signature?_of → JF,call_function_tree → JG,wpAny_evalAll_cons → JH,wpAny_sequenceKey → JS,wpAny_pyIter_slot → JU,init_tuple_lookup → JV,callType_new → J2,seqIndex_of → Ku,wpAny_mkInt → Kx,wpAny_Name → KN,numAt_eq → KS
open List renaming length_map → BK,getElem?_eq_getElem → BO,length_append → BR,mem_singleton → BU,mem_of_getElem? → BV,size_toArray → BX,mem_append → B0,getElem?_eq_some_iff → B1,map_append → B5,getElem?_map → B7,getD_eq_getElem?_getD → B8,take_of_length_le → B9,mem_cons_of_mem → Cf,mem_cons → Cg,mem_cons_self → Ck,length_cons → Ct,mem_append_right → Cu,mem_map → Cv,append_assoc → Cy,getElem?_append_left → CB,map_cons → CC,replicate → CG,mem_append_left → CH,append_nil → CK,mem_iff_getElem? → CW,getElem?_append_right → C6,length_singleton → C7,mem_filter → Dc,pairwise_map → Dh,length_take → Di,range → Dl,getElem?_toArray → Dm,take_add_one → Dp,mem_range → Dr,length_drop → Dt,getElem?_eq_none → Du,mem_map_of_mem → Dw,pairwise_append → Dx,take_sublist → DB,drop_sublist → DC,take_append_drop → DG,length_reverse → DJ,getElem?_set_self → DY,nodup_cons → D1,extract_eq_take_drop → D2,length_range → D6,pairwise_singleton → Ea,getElem?_take → Ec,getElem?_set_ne → Ee,mem_of_mem_take → Ef,replicate_succ → Ej,flatten_cons → Ek,length_pos_iff → Eo,length_nil → Eu,perm_append_comm → Ew,getElem?_cons_succ → EF,all_eq_true → ES,not_mem_nil → ET,length_replicate → EV,drop_eq_getElem_cons → EY,pairwise_iff_getElem → EZ,filter_congr → E6,filterMap_cons → Fd,reverse_append → Ff,length_eq_zero_iff → Fg,getElem_of_mem → Fh,getElem_mem → Fm,mem_filterMap → Fs,getElem?_drop → Fu,find?_cons → Fx,length_filter_le → Fy,ext_getElem? → FF,map_drop → FG,reverse_cons → FH,nodup_append → FI,mem_of_mem_drop → FN,reverse_reverse → FO,length_eraseIdx → FP,nodup_nil → FV,lookup_cons → FX,idxOf_lt_length_iff → Ga,mem_of_mem_eraseIdx → Ge,getElem?_replicate → Gg,zip_cons_cons → Gh,any_cons → Gj,eraseIdx_cons_succ → Gk,nil_append → Gm,pairwise_cons → Gp,filter_append → Gs,filter_cons_of_pos → Gu,pairwise_lt_range → Gz,eraseIdxIfInBounds_toArray → GC,drop_zero → GH,take_zero → GI,map_map → GK,eq_nil_or_concat → GO,concat_eq_append → GP,one_le_count_iff → GQ,drop_append_of_le_length → GS,take_append_of_le_length → GU,filter_cons → GX,mem_reverse → GY,map_take → G3,length_set → G8,perm_ext_iff_of_nodup → Hl,set_set → Hn,getElem?_zip_eq_some → Hu,drop_left → Hv,find?_range_eq_none → HB,eq_of_mem_replicate → HH,filter_cons_of_neg → HU,range'_succ → Ia,mem_flatMap → Ic,drop_eq_nil_of_le → Ik,of_mem_zip → Ip,map_nil → Iq,foldl_cons → Ir,contains_iff_mem → Iz,getElem?_reverse → ID,filterMap_append → IH,getElem?_range → Jd,filter_sublist → Jh,getElem_idxOf → Jv,count_pos_iff → Jx,filter_filter → Jy,reverse_perm → JR,getElem_inj → J4,perm_middle → J8,nodup_range → Kb,ext_getElem → Ke,map_reverse → Kh,append_inj' → Ki,length_zip → Kl,range_succ → Kr,filter_map → Kt,drop_drop → KD,take_succ → KG,all_cons → KO
open PySem.Heap renaming get?_push_of_some → BL,get?_push_size → BZ,lt_size → B2,get?_update_other → Cm,get?_update_self → CY,size_push → DR,get?_update_ne → Jc
open PySem.W renaming Frag → BP,nsIn → CZ,mg_none_of → Df,mg_of → DP,kia_one → DZ,hideAll_get → HX,cellsFrom_some → Ij,kat_nil → Iy,callWith_K → Jn,kitx_list → JI,kitx_dict → JJ,looks_findIn → J3
open Nat renaming le_refl → BS,ne_of_lt → Cb,lt_of_lt_of_le → Cj,le_trans → CP,zero_le → CT,lt_irrefl → C0,lt_succ_of_lt → C8,lt_succ_self → Dz,lt_of_succ_lt → En,le_add_right → EC,le_sub_one_of_lt → EE,le_of_lt_succ → E5,ne_of_gt → E9,zero_add → Fb,add_sub_cancel_left → Fe,lt_of_not_le → Fn,eq_zero_of_not_pos → Fq,le_of_lt → Fv,le_antisymm → Fw,le_succ_of_le → FD,add_le_add_left → FZ,succ_pos → F3,lt_or_ge → Gf,lt_of_le_of_lt → Gn,eq_zero_or_pos → Gv,mod_lt → GD,le_of_not_lt → GR,sub_one_lt_of_lt → G1,not_lt_zero → G7,le_succ → HL,succ_le_succ → HZ,le_of_sub_eq_zero → Iv,min_self → Iw,lt_of_le_of_ne → Jp,sub_pos_of_lt → JL,le_of_succ_le → JM,sub_zero → JW,le_zero → Kp,add_assoc → KP
open Array renaming length_toList → BW,getElem?_toList → B3,getElem?_eq_getElem → Cp,mem_toList_iff → CI,toList_append → C3,size_map → C9,getElem?_eq_some_iff → DV,getD_eq_getD_getElem? → Ed,getElem?_eq_none → Eh,toList_push → Em,toList_extract → ED,toList_reverse → E1,size_push → E3,size_append → FE,toList_map → GV,toList_setIfInBounds → Hj,perm_iff_toList_perm → Hk,size_setIfInBounds → HA,getElem?_replicate → HC,getElem?_map → Jq,forIn_toList → Jr,getElem_mem → JN,toList_inj → Ka
open Bool renaming false_ne_true → B6,false_eq_true → Ce,and_eq_true → Dy,not_true → DN,eq_iff_iff → EK,eq_false_iff → E4,false_and → Hs,and_false → Ht,or_false → HP,not_false → IX,and_true → Jt,false_or → KQ
open PyProof.Rows renaming wpS_bind → Cc,Keyed → Cn,wpS_pure → Co,arrOf → Cq,pendingOf → CF,SortSt → CM,slot_tuple_getitem → Dg,callWith_type1 → DA,wpS_forRange → DH,wpS_mono → Et,IntsAre → Ez,wpS_modify → EJ,reverseSlice'_eq → GZ,KeyOrd → G9,wpS_get → Hx,wpS_lift → HW,subscriptTail_builtinR → Im,args_list_sort → IY,sortedHeap_old → IZ,getElem?_mirror_all → Ji,args_tuple_getitem → JB,listUpdate_at → JC,sortedHeap_at → JD,size_push' → JT,listItems_at → JY,plain_sorted → JZ,entry_sorted → J0,args_sorted1 → J1,len_tuple → Kv,kind_sorted → Kw
open PySem.Value renaming ref → Cd,int → DE,type → DM,none → Es,isInt_shape → GB
open PySem.F renaming plainAttrs_list → Cr,plain_min_loop → CS,slot_list_append → CU,type_list_append → CV,called_set → DQ,entry_min_loop → Ei,plain_extend_loop → EN,plain_list_iadd → Fj,args_object_init_2 → FL,args_tuple_add_2 → F1,slot_tuple_count → F8,slot_list_extend → Gb,type_list_extend → Gd,entry_tuple_add → Gi,slot_tuple_add → Gx,plain_list_iadd → GF,typeOf_object_class → GJ,slot_list_pop → GL,type_list_pop → GN,entry_proto_collect → G5,plain_proto_collect → G6,plain_extend_loop → Hw,typeCall_tuple_1 → HD,plain_min → HE,entry_min → HF,slot_tuple_index → HG,type_tuple_count → HI,entry_list_iadd → HQ,newCall_tuple_1 → HR,entry_tuple_new → HS,kind_min → Ib,typeCall_set_1 → Il,entry_proto_collect → IA,plain_proto_collect → IC,attrBase_ValueError → IG,called_tuple → IU,mro_reversed → IV,excBase_ValueError → IW,entry_extend_loop → Jf,slot_gs_get → Jw,entry_type_call → JO,entry_list_iadd → JP,entry_list_pop → J6,entry_set_init → Kc,args_list_ne_2 → Kf,slot_list_pop → Kj,slot_int_rmul → Kk,plain_set_new → Km,slot_set_iter → Kn,entry_list_ne → Ko
open Option.some renaming inj → Cw
open PySem.Builtin.List renaming listExtendWith → CA,listLengthHint → Ds,listSameRef → DF
open PySem.Around renaming under_plainId → CD,under_plain → Js
open PySem.PassesOwn renaming never → CL
open PyProof.Rows.KeyOrd renaming kle_trans → C2,kle_of_klt → DK,kle_refl → Eb,kle_antisymm → Jb
open Ne renaming symm → Dq
open PySem.Obj renaming mapSeq → DU,data_mapFields → Gr,isFreed_of_fields → IE
open List.Perm renaming append_left → D5,append_right → EO,refl → FR
open Iff renaming rfl → Eg
open PySem.Pv renaming boot_tuple → Ep
open List.Nodup renaming length_le_of_subset → Ex
open Int renaming emod_lt_of_pos → EA,toNat_natCast → EI,emod_nonneg → EM,fdiv_eq_ediv_of_nonneg → Hh,fmod_eq_emod_of_nonneg → Hi,zero_add → Ho,le_total → JX,ediv_nonneg → Kq
open PyProof.Rows.F renaming plain_set_update_loop → Fi,entry_set_update_loop → HM
open PySem.SeqAt.EqAt renaming int_int → Ft,int_str → Jl,str_int → Jm
open PySem.Calls renaming call_function_entry → FT,callWith_builtin → Gy,evalArgs_plain → G0,Name_function_global → Hg,spliced_cons → Hm,spliced_nil → Hy
open Classical renaming byContradiction → FW
open List.Pairwise renaming imp_of_mem → F7,imp → K1,and → K2
open PySem.Code renaming quiet_builtin → Gq
open PySem.StrLaws renaming seqIndex_nonneg → GW
open PySem.Paired renaming length → G2,snoc → KZ
open Option renaming isSome_iff_exists → Hz,map_some → Iu,isSome_map → JQ,getD_none → J5
open PySem.Walks renaming tuple → HN,list → JK
open Std.Legacy.Range renaming forIn_eq_forIn_range' → IP
open PySem.SeqAt renaming EqAt → IT
open PySem.Heap.SameBut renaming update → Je
open PySem.ItemsOf renaming nil → Jg
open Prod renaming ext → Jo
open PySem.Moved renaming eq_with → Ju,trans → KY
open PySem.Heap.ExtBut renaming push → Kg
open PySem.EqMixed renaming eq_bool_str → Ky,eq_str_bool → Kz,ne_bool_str → KA,ne_str_bool → KC,eq_int_str → KH,eq_str_int → KI,ne_int_str → KJ,ne_str_int → KL
open PySem.CmpOf renaming ints_lt → KR
open PySem.W.Looks renaming of_pure → KU
open PySem.W.KatTups renaming cons → KW
open PySem.Heap.IsSliceOf renaming new → K0
set_option Elab.async false
set_option linter.all false
set_option maxRecDepth 100000
namespace L2
open PySem PySem.Spec PyProof.Rows
abbrev Key:=Sum Int Str
def lX:Key->BM->Bool
 | .inl k,v=>Value.isInt k v
 | .inr x,v=>Value.isStrOf x v
def keyH (w:CJ):Key->Int
 | .inl k=>hashInt k
 | .inr x=>hashStr w x
theorem bR:∀{k:Key} {v:BM},lX k v=true->(∃i t,k=Sum.inl i/\v=DE i t)\/(∃x t,k=Sum.inr x/\v=Value.str x t)
 | .inl i,v,h=>by
  obtain ⟨t,e⟩:=GB (k:=i) (v:=v) h
  exact .inl ⟨i,t,rfl,e⟩
 | .inr x,v,h=>by
  obtain ⟨t,e⟩:=Value.isStrOf_shape (x:=x) (v:=v) h
  exact .inr ⟨x,t,rfl,e⟩
theorem uf (i:Int)(t:Tok):lX (.inl i) (.int i t)=true:=by simp[lX,Value.isInt]
theorem ug (x:Str)(t:Tok):lX (.inr x) (.str x t)=true:=by simp[lX,Value.isStrOf]
theorem zE (a b:Int):decide ((Sum.inl a:Key)=Sum.inl b)=(a == b):=by
 by_cases e:a=b
 ·subst e;simp
 ·have h:¬ (Sum.inl a:Key)=Sum.inl b:=λq=>e (Sum.inl.inj q)
  rw[decide_eq_false h]
  exact (beq_eq_false_iff_ne.mpr e).symm
theorem zF (a b:Str):decide ((Sum.inr a:Key)=Sum.inr b)=decide (a=b):=by
 by_cases e:a=b
 ·subst e;simp
 ·have h:¬ (Sum.inr a:Key)=Sum.inr b:=λq=>e (Sum.inr.inj q)
  rw[decide_eq_false h,decide_eq_false e]
theorem zG (a:Int)(b:Str):decide ((Sum.inl a:Key)=Sum.inr b)=false:=decide_eq_false (λq=>nomatch q)
theorem zI (a:Str)(b:Int):decide ((Sum.inr a:Key)=Sum.inl b)=false:=decide_eq_false (λq=>nomatch q)
def bX (prog:Ca)(w:CJ):PySem.KeyKind prog w Key where
 is:=lX
 hash:=keyH w
 inj:=λv a b ha hb=>by
  rcases bR ha with ⟨i,t,rfl,rfl⟩ | ⟨x,t,rfl,rfl⟩
  ·rcases bR hb with ⟨j,u,rfl,e⟩ | ⟨y,u,rfl,e⟩
   ·injection e with e1 _;rw[e1]
   ·exact nomatch e
  ·rcases bR hb with ⟨j,u,rfl,e⟩ | ⟨y,u,rfl,e⟩
   ·exact nomatch e
   ·injection e with e1 _;rw[e1]
 byValue:=λk v h=>by
  rcases bR h with ⟨i,t,rfl,rfl⟩ | ⟨x,t,rfl,rfl⟩ <;> rfl
 pyHash:=λhv h=>by
  rcases bR hv with ⟨i,t,rfl,rfl⟩ | ⟨x,t,rfl,rfl⟩
  ·exact wpAny_pyHash_int h
  ·exact wpAny_pyHash_str h
 eqBool:=λhu hv h=>by
  rcases bR hu with ⟨i,t,rfl,rfl⟩ | ⟨x,t,rfl,rfl⟩
  ·rcases bR hv with ⟨j,u,rfl,rfl⟩ | ⟨y,u,rfl,rfl⟩
   ·rw[zE] at h;exact wpAny_eqBool_int h
   ·rw[zG] at h;exact Jl i t y u _ _ _ _ h
  ·rcases bR hv with ⟨j,u,rfl,rfl⟩ | ⟨y,u,rfl,rfl⟩
   ·rw[zI] at h;exact Jm x t j u _ _ _ _ h
   ·rw[zF] at h;exact wpAny_eqBool_str h
 «strs» := λk x t v h=>by
  rcases bR h with ⟨i,u,rfl,e⟩ | ⟨y,u,rfl,e⟩
  ·exact nomatch e
  ·injection e with e1 _
   subst e1
   cases v <;> rfl
theorem oX (prog:Ca)(w:CJ)(i:Int)(t:Tok):(bX prog w).is (.inl i) (.int i t)=true:=uf i t
theorem oY (prog:Ca)(w:CJ)(x:Str)(t:Tok):(bX prog w).is (.inr x) (.str x t)=true:=ug x t
open PySem PySem.Spec PyProof.Rows
inductive V where
 | non | bl (b:Bool) | int (i:Int) | str (x:Str) | byt (b:Array UInt8) | flt (b:UInt64) | ref (a:Addr) | ty (n:String)
 deriving DecidableEq
def RelV:V->BM->Prop
 | .non,u=>u=Es
 | .bl b,u=>u=Value.bool b
 | .int i,u=>∃t,u=DE i t
 | .str x,u=>∃t,u=Value.str x t
 | .byt b,u=>∃t,u=Value.bytes b t
 | .flt b,u=>∃t,u=Value.float b t
 | .ref a,u=>u=Cd a
 | .ty n,u=>u=DM n
abbrev Vals:List V->List BM->Prop:=Paired RelV
theorem Vals.length {xs:List V}{us:List BM}(r:Vals xs us):xs.length=us.length:=G2 r
theorem Vals.get:∀{xs:List V} {us:List BM} {i:Nat} {x:V},Vals xs us->xs[i]? = some x->∃u,us[i]? = some u/\RelV x u
 | _,_,_,_,.nil,e=>by simp at e
 | _,_,0,_,.cons r _,e=>by simp at e;subst e;exact ⟨_,rfl,r⟩
 | _,_,i+1,x,.cons _ t,e=>by
  obtain ⟨u,h1,h2⟩:=Vals.get (i:=i) (x:=x) t (by simpa using e)
  exact ⟨u,by simpa using h1,h2⟩
theorem Vals.set {x:V}{u:BM}(r:RelV x u):∀{xs:List V} {us:List BM} (i:Nat),Vals xs us->Vals (xs.set i x) (us.set i u)
 | _,_,_,.nil =>.nil
 | _,_,0,.cons _ t =>.cons r t
 | _,_,i+1,.cons q t =>.cons q (Vals.set r i t)
theorem Vals.append:∀{xs ys:List V} {us ws:List BM},Vals xs us->Vals ys ws->Vals (xs++ys) (us++ws)
 | _,_,_,_,.nil,s=>s
 | _,_,_,_,.cons r t,s =>.cons r (Vals.append t s)
theorem Vals.take:∀{xs:List V} {us:List BM} (n:Nat),Vals xs us->Vals (xs.take n) (us.take n)
 | _,_,0,_ =>.nil
 | _,_,_+1,.nil =>.nil
 | _,_,n+1,.cons r t =>.cons r (Vals.take n t)
theorem Vals.drop:∀{xs:List V} {us:List BM} (n:Nat),Vals xs us->Vals (xs.drop n) (us.drop n)
 | _,_,0,r=>r
 | _,_,_+1,.nil =>.nil
 | _,_,n+1,.cons _ t=>Vals.drop n t
def jL:Option V->Option BM->Prop
 | some v,some u=>RelV v u
 | none,none=>True
 | _,_=>False
def KV {κ:Type}:List (κ×V)->List (κ×BM)->Prop:=Paired λ(p:κ×V) (q:κ×BM)=>p.1=q.1/\RelV p.2 q.2
def kV:Key->V
 | .inl i =>.int i
 | .inr x =>.str x
inductive HO where
  | lst (xs:List V)
  | tup (xs:List V)
  | dK (kvs:List (Key×V)) | dT (kvs:List (List Key×V))
  | set (S:Int->Bool) (n:Nat)
  | ins (C dx:Addr) (fs:List (Str×V))
  | own (x:Addr)
  | xd (fs:List (Str×V))
  | met (f x:Addr)
  | rng (lo hi:Int)
  | frz (o:Obj) (u:HO)
  | tbl (ps:Array BM)
  | ext (φ:Heap->Prop)
abbrev Hp:=Addr->Option HO
def upd (H:Hp)(a:Addr)(o:HO):Hp:=λb=>if b=a then some o else H b
theorem ah {H:Hp}{a:Addr}{o:HO}:upd H a o a=some o:=by unfold upd;rw[if_pos rfl]
theorem aE {H:Hp}{a b:Addr}{o:HO}(h:b≠a):upd H a o b=H b:=by unfold upd;rw[if_neg h]
theorem jb {H:Hp}{a b:Addr}{o u:HO}(h:H a=some o)(h':H b=some u)(d:o≠u):a≠b:=by
 intro e;subst e;rw[h] at h';exact d (Cw h')
theorem aB {H:Hp}{a b:Addr}{o:HO}(h:H a=some o)(h':H b=none):a≠b:=by
 intro e;subst e;rw[h] at h';cases h'
def dG (h:Heap)(a:Addr)(items:Array BM):Prop:=∃o,h.get? a=some o/\(o.cls = .type "tuple" /\ o.dict=none)/\∃n,o.data = .seq items n
theorem dG.tup {h:Heap}{a:Addr}{items:Array BM}(x:dG h a items):IsTup h a items:=let ⟨o,e,c,n,d⟩:=x;⟨o,e,c.1,n,d⟩
theorem dG.new (h:Heap)(items:Array BM):dG (h.push { cls :=.type "tuple",data :=.seq items }) h.objs.size items:=⟨_,BZ _ rfl,⟨rfl,rfl⟩,_,rfl⟩
section
variable  (P:Ca)(w:CJ)
def bB (H:Hp)(h:Heap)(a:Addr):HO->Prop
 | .lst xs=>xs.length<=B4/\∃(its:List BM) (n:Nat),Vals xs its/\h.get? a=some { cls :=.type "list",data :=.seq its.toArray n }
 | .tup xs=>xs.length<=B4/\∃its:List BM,Vals xs its/\dG h a its.toArray
 | .dK kvs=>kvs.length<=B4/\(a == sysModules)=false/\∃vs,KV kvs vs/\h.DictOf (bX P w) a vs
 | .dT kvs=>kvs.length<=B4/\(a == sysModules)=false/\∃xs:List (List Key×Addr×BM),
   Paired (λ(p:List Key×V) (q:List Key×Addr×BM)=>p.1=q.1/\H q.2.1=some (.tup (p.1.map kV))/\RelV p.2 q.2.2) kvs xs ∧
   ∃o es ep,h.get? a=some o/\o.ExactDict/\o.data = .dict es ep/\es.toList=xs.map (entryOfKey (tupleKind (bX P w)))/\(xs.map (·.1)).Nodup
 | .set S n=>h.SetOf (intKind P w) a S n
 | .ins C dx fs=>H dx=some (.own a)/\fs.length<=1000/\dx≠a/\h.get? a=some (PySem.W.instObj C dx) ∧
   ∃mA,h.Ns1 dx mA/\(∀f,jL (fs.lookup f) (mA f))/\PySem.Within mA (fs.map (·.1))
 | .own _=>∃o,h.get? a=some o
 | .xd fs=>∃mA,h.Ns1 a mA/\∀f,jL (fs.lookup f) (mA f)
 | .rng lo hi=>∃t u v,h.get? a=some { cls :=.type "range",data :=.fields #[.int lo t,.int hi u,.int 1 v] }
 | .frz o u=>h.get? a=some o/\bB H h a u
 | .tbl ps=>h.get? a=some { cls :=.none,data :=.fields ps }
 | .met f x=>h.get? a=some (PySem.W.methodObj (.ref f) (.ref x))
 | .ext φ=>φ h/\(∃o,h.get? a=some o)/\∀h1 h2:Heap, φ h1->(∀o,h1.get? a=some o->h2.get? a=some o) -> φ h2
def HOk (H:Hp)(h:Heap):Prop:=∀a o,H a=some o->bB P w H h a o
end
section
variable  {P:Ca}{w:CJ}{H H':Hp}{h h':Heap}{a:Addr}{o:HO}
theorem bB.lt (x:bB P w H h a o):a<h.objs.size:=by
 cases o with
 | lst xs=>obtain ⟨_,_,_,_,e⟩:=x;exact B2 e
 | tup xs=>obtain ⟨_,_,_,p⟩:=x;exact (dG.tup p).lt
 | dK kvs=>obtain ⟨_,_,_,_,o,_,_,e,_⟩:=x;exact B2 e
 | dT kvs=>obtain ⟨_,_,_,_,o,_,_,e,_⟩:=x;exact B2 e
 | set S n=>obtain ⟨o,_,_,_,e,_⟩:=x;exact B2 e
 | ins C dx fs=>obtain ⟨_,_,_,e,_⟩:=x;exact B2 e
 | own y=>obtain ⟨_,e⟩:=x;exact B2 e
 | xd fs=>obtain ⟨_,⟨_,_,_,e,_⟩,_⟩:=x;exact B2 e
 | rng lo hi=>obtain ⟨_,_,_,e⟩:=x;exact B2 e
 | frz ob u=>obtain ⟨e,_⟩:=x;exact B2 e
 | tbl ps=>exact B2 (show h.get? a=some _ from x)
 | met f y=>exact B2 (show h.get? a=some _ from x)
 | ext φ=>obtain ⟨_,⟨_,e⟩,_⟩:=x;exact B2 e
theorem Paired.zJ {α β:Type}{F G:α -> β -> Prop}:∀{l₁:List α} {l₂:List β},Paired F l₁ l₂->(∀a b,F a b->G a b)->Paired G l₁ l₂
 | _,_,.nil,_ =>.nil
 | _,_,.cons r t,f =>.cons (f _ _ r) (Paired.zJ t f)
theorem bB.stay (x:bB P w H h a o)(k:∀b u,(b=a\/H b=some (.own a))->h.get? b=some u->h'.get? b=some u)
  (ho:∀b,H b=some (.own a)->H' b=some (.own a)) (ht:∀b xs,H b=some (.tup xs)->H' b=some (.tup xs)):bB P w H' h' a o:=by
 induction o with
 | lst xs=>obtain ⟨z,its,n,r,e⟩:=x;exact ⟨z,its,n,r,k _ _ (.inl rfl) e⟩
 | tup xs=>obtain ⟨z,its,r,ob,e,c⟩:=x;exact ⟨z,its,r,ob,k _ _ (.inl rfl) e,c⟩
 | dK kvs=>obtain ⟨z,y,vs,r,ob,es,ep,e,c⟩:=x;exact ⟨z,y,vs,r,ob,es,ep,k _ _ (.inl rfl) e,c⟩
 | dT kvs =>
  obtain ⟨z,y,xs,r,ob,es,ep,e,c⟩:=x
  exact ⟨z,y,xs,Paired.zJ r λp q z=>⟨z.1,ht _ _ z.2.1,z.2.2⟩,ob,es,ep,k _ _ (.inl rfl) e,c⟩
 | set S n=>obtain ⟨ob,es,ep,t,e,c⟩:=x;exact ⟨ob,es,ep,t,k _ _ (.inl rfl) e,c⟩
 | ins C dx fs =>
  obtain ⟨d,z,ne,e,mA,⟨od,es,ep,e2,c⟩,r⟩:=x
  exact ⟨ho _ d,z,ne,k _ _ (.inl rfl) e,mA,⟨od,es,ep,k _ _ (.inr d) e2,c⟩,r⟩
 | own y=>obtain ⟨ob,e⟩:=x;exact ⟨ob,k _ _ (.inl rfl) e⟩
 | xd fs=>obtain ⟨mA,⟨od,es,ep,e,c⟩,r⟩:=x;exact ⟨mA,⟨od,es,ep,k _ _ (.inl rfl) e,c⟩,r⟩
 | rng lo hi=>obtain ⟨t,u,v,e⟩:=x;exact ⟨t,u,v,k _ _ (.inl rfl) e⟩
 | frz ob u ih=>obtain ⟨e,q⟩:=x;exact ⟨k _ _ (.inl rfl) e,ih q⟩
 | tbl ps =>
  have e:h.get? a=some { cls :=.none,data :=.fields ps }:=x
  show h'.get? a=some { cls :=.none,data :=.fields ps }
  exact k a _ (.inl rfl) e
 | met f y =>
  have e:h.get? a=some (PySem.W.methodObj (.ref f) (.ref y)):=x
  show h'.get? a=some (PySem.W.methodObj (.ref f) (.ref y))
  exact k a _ (.inl rfl) e
 | ext φ=>obtain ⟨p,⟨o,e⟩,st⟩:=x;exact ⟨st _ _ p λo q=>k _ _ (.inl rfl) q,⟨o,k _ _ (.inl rfl) e⟩,st⟩
theorem HOk.lt (x:HOk P w H h)(e:H a=some o):a<h.objs.size:=(x a o e).lt
theorem HOk.fresh (x:HOk P w H h)(e:h.objs.size<=a):H a=none:=by
 cases q:H a with
 | none=>rfl
 | some u=>exact absurd (Cj (x.lt q) e) (C0 _)
theorem HOk.kept (x:HOk P w H h)(k:∀b u,h.get? b=some u->h'.get? b=some u):HOk P w H h':=λa o e =>
 (x a o e).stay (λb u _ q=>k b u q) (λ_ q=>q) λ_ _ q=>q
theorem HOk.laid (x:HOk P w H h)(k:∀b u,h.get? b=some u->h'.get? b=some u)(hp:h.objs.size<=a)(new:bB P w (upd H a o) h' a o):HOk P w (upd H a o) h':=λb u e=>by
 have hn:=x.fresh hp
 by_cases hb:b=a
 ·subst hb;rw[ah] at e;cases e;exact new
 ·rw[aE hb] at e
  exact (x b u e).stay (λc v _ q=>k c v q) (λc q=>by rw[aE (aB q hn)];exact q) λc xs q=>by rw[aE (aB q hn)];exact q
end
def Rd (H:Hp)(a:Addr)(u:HO):Prop:=H a=some u\/∃o,H a=some (.frz o u)
theorem Rd.ok {P:Ca}{w:CJ}{H:Hp}{h:Heap}{a:Addr}{u:HO}(r:Rd H a u)(x:HOk P w H h):bB P w H h a u:=by
 rcases r with r | ⟨o,r⟩
 ·exact x a u r
 ·obtain ⟨_,q⟩:=x a _ r
  exact q
def Mut:Option HO->Prop
 | some (.lst _)=>True
 | some (.dK _)=>True
 | some (.dT _)=>True
 | some (.set _ _)=>True
 | some (.ins _ _ _)=>True
 | some (.ext _)=>True
 | _=>False
section
variable  {P:Ca}{w:CJ}{H:Hp}{h h':Heap}{x e:Addr}{o':HO}
theorem HOk.write (ok:HOk P w H h)(mu:Mut (H x))(he:e=x\/H e=some (.own x))(k:∀b u,b≠e->h.get? b=some u->h'.get? b=some u)(heo:∃u,h'.get? e=some u)
  (new:bB P w (upd H x o') h' x o'):HOk P w (upd H x o') h':=λb u q=>by
 have nown:∀c y,H c=some (.own y)->c≠x:=λc y r z=>by subst z;rw[r] at mu;exact mu
 have ntup:∀c xs,H c=some (.tup xs)->c≠x:=λc xs r z=>by subst z;rw[r] at mu;exact mu
 by_cases hb:b=x
 ·subst hb;rw[ah] at q;cases q;exact new
 ·rw[aE hb] at q
  by_cases hbe:b=e
  ·have q':H b=some (.own x):=by
    rcases he with z | z
    ·exact absurd (hbe.trans z) hb
    ·rw[hbe];exact z
   rw[q] at q';cases q'
   obtain ⟨v,hv⟩:=heo
   exact ⟨v,by rw[hbe];exact hv⟩
  ·refine (ok b u q).stay (λc v hc r=>k c v ?_ r) (λc r=>by rw[aE (nown c b r)];exact r) λc xs r=>by rw[aE (ntup c xs r)];exact r
   rcases hc with rfl | hc
   ·exact hbe
   ·rintro rfl
    rcases he with z | z
    ·exact nown c b hc z
    ·rw[hc] at z;cases z;exact hb rfl
end
structure Un (fs ex:List Addr)(H H':Hp)(h h':Heap):Prop where
 keep:∀b o,h.get? b=some o->H b=none->b∉fs->b∉ex->h'.get? b=some o
 slot:∀b o,h.get? b=some o->H b=none->b∈fs->b∉ex->∃sl,h'.get? b=some { o with slots:=sl }
 free:∀b o,h.get? b=some o->H b=none->b∉ex->H' b=none
 there:∀b o,h.get? b=some o->b∉ex->∃o',h'.get? b=some o'
 tups:∀b xs,H b=some (.tup xs)->H' b=some (.tup xs)
 frzs:∀b o u,H b=some (.frz o u)->H' b=some (.frz o u)
 tbls:∀b ps,H b=some (.tbl ps)->∃more,H' b=some (.tbl (ps++more))
section
variable  {fs fs' ex ex':List Addr}{H H1 H2:Hp}{h h1 h2 h':Heap}{a x e:Addr}{o:HO}
theorem Un.any (u:Un fs ex H H1 h h1){b:Addr}{ob:Obj}(q:h.get? b=some ob)(n:H b=none)(hx:b∉ex):∃sl,h1.get? b=some { ob with slots:=sl }:=by
 by_cases hb:b∈fs
 ·exact u.slot b ob q n hb hx
 ·exact ⟨ob.slots,u.keep b ob q n hb hx⟩
theorem Un.kept (k:∀b u,h.get? b=some u->h'.get? b=some u):Un fs ex H H h h' :=
 ⟨λb ob q _ _ _=>k b ob q,λb ob q _ _ _=>⟨ob.slots,k b ob q⟩,λ_ _ _ n _=>n,λb ob q _=>⟨ob,k b ob q⟩,λ_ _ q=>q,λ_ _ _ q=>q,λ_ ps q=>⟨#[],by rw[q];simp⟩⟩
theorem Un.refl:Un fs ex H H h h:=Un.kept λ_ _ q=>q
theorem Un.laid (k:∀b u,h.get? b=some u->h'.get? b=some u)(hp:h.objs.size<=a)(hn:H a=none):Un fs ex H (upd H a o) h h' where
 keep:=λb u q _ _ _=>k b u q
 slot:=λb u q _ _ _=>⟨u.slots,k b u q⟩
 free:=λb u q n _=>by rw[aE (Cb (Cj (B2 q) hp))];exact n
 there:=λb u q _=>⟨u,k b u q⟩
 tups:=λb xs q=>by rw[aE (aB q hn)];exact q
 frzs:=λb u xs q=>by rw[aE (aB q hn)];exact q
 tbls:=λb ps q=>⟨#[],by rw[aE (aB q hn),q];simp⟩
theorem Un.write (mu:Mut (H x))(he:e=x\/H e=some (.own x))(k:∀b u,b≠e->h.get? b=some u->h'.get? b=some u)(heo:∃u,h'.get? e=some u):Un fs ex H (upd H x o) h h':=by
 have hx:∀b,H b=none->b≠x:=λb n z=>by subst z;rw[n] at mu;exact mu
 have hb:∀b,H b=none->b≠e:=λb n z=>by
  subst z
  rcases he with r | r
  ·exact hx b n r
  ·rw[n] at r;cases r
 have hm:∀b u,H b=some u->¬ Mut (some u)->b≠x:=λb u q nm z=>by subst z;rw[q] at mu;exact nm mu
 refine ⟨λb u q n _ _=>k b u (hb b n) q,λb u q n _ _=>⟨u.slots,k b u (hb b n) q⟩,λb u q n _=>by rw[aE (hx b n)];exact n,λb u q _ =>?_,
  λb xs q=>by rw[aE (hm b _ q λz=>z)];exact q,λb u xs q=>by rw[aE (hm b _ q λz=>z)];exact q,λb ps q=>⟨#[],by rw[aE (hm b _ q λz=>z),q];simp⟩⟩
 by_cases hbe:b=e
 ·subst hbe;exact heo
 ·exact ⟨u,k b u hbe q⟩
end
def trk (h:Heap)(H:Hp):List Addr:=(Dl h.objs.size).filter λa=>(H a).isSome
def nE (h:Heap)(H:Hp):Heap:=PySem.W.hideAll h (trk h H)
theorem uh (h:Heap)(H:Hp):(nE h H).objs.size=h.objs.size:=PySem.W.hideAll_size _ _
theorem vC {h:Heap}{H:Hp}{b:Addr}{o:Obj}(e:h.get? b=some o)(n:H b=none):(nE h H).get? b=some o :=
 PySem.W.hideAll_get _ e λhm=>by
  have q:(H b).isSome=true:=(Dc.mp hm).2
  rw[n] at q;simp at q
theorem xP {h:Heap}{H:Hp}{b:Addr}{o:Obj}(e:(nE h H).get? b=some o):h.get? b=some o/\H b=none:=by
 have e':h.get? b=some o:=PySem.W.of_hideAll (trk h H) e
 refine ⟨e',?_⟩
 cases q:H b with
 | none=>rfl
 | some x =>
  have hm:b∈trk h H:=Dc.mpr ⟨Dr.mpr (B2 e'),by simp[q]⟩
  have z:(nE h H).get? b=none:=PySem.W.hideAll_none (trk h H) hm
  rw[z] at e;cases e
def xQ (g h:Heap)(L:Addr):List (Addr×Obj):=(Dl h.objs.size).filterMap λa=>if a=L\/(g.get? a).isSome=true then none else (h.get? a).map λo=>(a,o)
def rest (g h:Heap)(L d:Addr):List (Addr×Obj):=(xQ g h L).filter λp=>decide (p.1≠d)
open PySem PySem.Spec PyProof.Rows
structure Mod (K:BP)(mg:Str->Option BM)(base:Heap):Prop where
 kin:K.In base
 glob:base.Ns Cz mg
 blt:∃mb,base.Ns builtinsNs mb/\∀x:Str,x ≠ "__name__" -> mb x=Dn x
 nolimit:base.NoLimit
structure Cx where
 prog:Ca
 w:CJ
 K:BP
 mg:Str->Option BM
 base:Heap
 A:Dd
 N:List Str
 s₀:BQ
 H₀:Hp
 env:Env
 outer:List Env
 stack:List Env
 ex:List Addr
 fn:Str->Bool
 calm:Bool
 pn:List (Addr×Obj)
 xe:BM->BQ->Prop
def frs (l:List Env):List Addr:=l.filterMap (·.frame)
abbrev Cx.fs (X:Cx):List Addr:=frs X.outer
def Vis (sc:Scope)(x:Str):Prop:=sc.names.lookup x=some .local\/sc.names.lookup x=some .cell\/sc.names.lookup x=some .free
def Loc (sc:Scope)(x:Str):Prop:=sc.names.lookup x=some .local\/sc.names.lookup x=some .cell
def Look (env:Env)(h:Heap)(m:Str->Option BM)(x:Str)(u:BM):Prop :=
 (env.kindOf x=some .local/\m x=some u)\/((env.kindOf x=some .cell\/env.kindOf x=some .free)/\∃c,env.cells.lookup x=some c/\h.IsCell c (some u))
structure Cx.Ok (X:Cx):Prop where
 mod:Mod X.K X.mg X.base
 kind:X.env.scope.kind = .function
 glob:X.env.globals=Cz
 blt:X.env.builtins=builtinsNs
 above:X.s₀.heap.objs.size<=X.env.locals
 inj:∀x y c,X.env.cells.lookup x=some c->X.env.cells.lookup y=some c->x=y
 has:∀x,(X.env.kindOf x=some .cell\/X.env.kindOf x=some .free)->∃c,X.env.cells.lookup x=some c
 cab:∀x c,X.fn x=true->X.env.cells.lookup x=some c->X.s₀.heap.objs.size<=c
 hd:X.calm=true->X.A.handled=none
 frames:X.A.frames=some X.stack
 stk:X.stack=X.outer\/(X.stack=X.env :: X.outer/\X.env.frame=some X.env.locals)
 exf:∀b∈X.ex,b≠X.env.locals/\∀x c,X.env.cells.lookup x=some c->c≠b
 bs:∀b o,X.base.get? b=some o->X.s₀.heap.get? b=some o/\X.H₀ b=none
 bsz:X.base.objs.size<=X.s₀.heap.objs.size
 noex:∀b o,X.base.get? b=some o->b∉X.ex
 exfs:∀b∈X.ex,b∉X.fs
 funs:X.s₀.heap.FunFrames X.base X.outer
 frf:∀b∈X.fs,X.H₀ b=none
structure Inv (X:Cx)(pins:List (Addr×Obj))(σ:List (Option V))(H:Hp)(s:BQ):Prop where
 ok:X.Ok
 os:s.os=X.s₀.os
 bare:AllBare s.gens
 base:Un X.fs X.ex X.H₀ H X.s₀.heap s.heap
 loc:∃m,s.heap.Ns X.env.locals m/\∀(i:Nat) (x:Str) (v:V),X.N[i]? = some x->σ[i]? = some (some v)->Vis X.env.scope x->∃u,RelV v u/\Look X.env s.heap m x u
 cell:∀x c,X.env.cells.lookup x=some c->∃v,s.heap.IsCell c v
 free:H X.env.locals=none
 freeC:∀x c,X.env.cells.lookup x=some c->H c=none
 pin:∀p∈X.pn++pins,s.heap.get? p.1=some p.2/\H p.1=none/\p.1≠X.env.locals/\p.1∉X.fs/\∀v,p.2.data ≠ .cell v
 hok:HOk X.prog X.w H s.heap
 len:σ.length=X.N.length
section
variable  {X:Cx}{pins:List (Addr×Obj)}{σ:List (Option V)}{H H':Hp}{s:BQ}{h':Heap}
theorem Cx.Ok.nofr (ok:X.Ok){b:Addr}{o:Obj}(e:X.base.get? b=some o):b∉X.fs:=λhb=>by
 have:=(ok.funs.mem hb).1
 rw[e] at this;cases this
theorem Inv.bs (I:Inv X pins σ H s):∀b o,X.base.get? b=some o->s.heap.get? b=some o/\H b=none:=λb o e =>
 ⟨I.base.keep b o (I.ok.bs b o e).1 (I.ok.bs b o e).2 (I.ok.nofr e) (I.ok.noex b o e),I.base.free b o (I.ok.bs b o e).1 (I.ok.bs b o e).2 (I.ok.noex b o e)⟩
theorem Inv.bk (I:Inv X pins σ H s):∀b o,X.base.get? b=some o->s.heap.get? b=some o:=λb o e=>(I.bs b o e).1
theorem Inv.mod (I:Inv X pins σ H s):Mod X.K X.mg X.base:=I.ok.mod
theorem Inv.kIn (I:Inv X pins σ H s):X.K.In s.heap:=I.ok.mod.kin.keeps I.bk
theorem Inv.lt (I:Inv X pins σ H s):X.env.locals<s.heap.objs.size:=let ⟨_,hn,_⟩:=I.loc;hn.lt
theorem Inv.sz (I:Inv X pins σ H s):X.s₀.heap.objs.size<=s.heap.objs.size:=CP I.ok.above (Fv I.lt)
theorem Inv.zK (I:Inv X pins σ H s){a:Addr}(h:s.heap.objs.size<=a):a∉X.fs:=λhb=>by
 obtain ⟨_,o,ho,_⟩:=I.ok.funs.mem hb
 exact absurd (Cj (B2 ho) (CP I.sz h)) (C0 _)
theorem Inv.cne (I:Inv X pins σ H s):∀x c,X.env.cells.lookup x=some c->c≠X.env.locals:=λx c e z=>by
 obtain ⟨v,o,ho,hd⟩:=I.cell x c e
 obtain ⟨m,⟨o',es,ep,ho',hd',_⟩,_⟩:=I.loc
 rw[z,ho'] at ho;cases ho;rw[hd'] at hd;cases hd
theorem Inv.funs (I:Inv X pins σ H s):s.heap.FunFrames X.base X.outer:=by
 have all:∀(l:List Env),(∀b∈frs l,b∈X.fs)->X.s₀.heap.FunFrames X.base l->s.heap.FunFrames X.base l:=by
  intro l
  induction l with
  | nil=>intro _ _;trivial
  | cons env r ih =>
   intro hs hl
   obtain ⟨hk,⟨L,o,hf,hn,ho,hd⟩,hr⟩:=hl
   have hL:L∈X.fs:=hs L (by unfold frs;rw[Fd,hf];exact Ck)
   obtain ⟨sl,e⟩:=I.base.slot L o ho (I.ok.frf L hL) hL λz=>I.ok.exfs L z hL
   exact ⟨hk,⟨L,_,hf,hn,e,hd⟩,ih (λb hb=>hs b (by unfold frs;rw[Fd,hf];exact Cf _ hb)) hr⟩
 exact all X.outer (λ_ hb=>hb) I.ok.funs
theorem Inv.stack (I:Inv X pins σ H s):s.heap.FunFrames X.base X.stack:=by
 rcases I.ok.stk with e | ⟨e,hf⟩
 ·rw[e];exact I.funs
 ·rw[e]
  obtain ⟨m,hn,_⟩:=I.loc
  refine .cons (by rw[I.ok.kind];decide) hf hn ?_ I.funs
  exact Heap.get?_none_of_le (CP I.ok.bsz I.ok.above)
theorem Inv.nF (I:Inv X pins σ H s):∀b∈frs X.stack,b∈X.env.locals :: X.fs:=λb hb=>by
 rcases I.ok.stk with e | ⟨e,hf⟩
 ·rw[e] at hb;exact Cf _ hb
 ·rw[e] at hb
  unfold frs at hb
  rw[Fd,hf] at hb
  exact hb
theorem Inv.nG (I:Inv X pins σ H s):∀b∈frs X.stack,H b=none:=λb hb=>by
 rcases Cg.mp (I.nF b hb) with e | hb
 ·rw[e];exact I.free
 ·obtain ⟨_,o,ho,_⟩:=I.ok.funs.mem hb
  exact I.base.free b o ho (I.ok.frf b hb) λz=>I.ok.exfs b z hb
theorem Inv.step {g':Array GenState}{t':Nat}{d':Drawn}{ch:List Addr}(I:Inv X pins σ H s)
  (hch:∀b∈ch,(b∈X.ex\/X.s₀.heap.objs.size<=b)/\b≠X.env.locals/\(∀x c,X.env.cells.lookup x=some c->c≠b)/\∀p∈X.pn++pins,p.1≠b)
  (keep:∀b o,b≠X.env.locals->b∉X.fs->b∉ch->s.heap.get? b=some o->H b=none->h'.get? b=some o)
  (slot:∀b o,b≠X.env.locals->b∈X.fs->b∉ch->s.heap.get? b=some o->H b=none->∃sl,h'.get? b=some { o with slots:=sl }) (free:∀b o,b∉ch->s.heap.get? b=some o->H b=none->H' b=none)
  (there:∀b o,b∉ch->s.heap.get? b=some o->∃o',h'.get? b=some o')
  (tups:∀b xs,H b=some (.tup xs)->H' b=some (.tup xs)) (frzs:∀b o u,H b=some (.frz o u)->H' b=some (.frz o u)) (tbls:∀b ps,H b=some (.tbl ps)->∃more,H' b=some (.tbl (ps++more)))
  (ns:∀m,s.heap.Ns X.env.locals m->h'.Ns X.env.locals m) (hok:HOk X.prog X.w H' h') (hg:AllBare g') :
  Inv X pins σ H' { s with heap:=h',gens:=g',drawn:=d',toks:=t' }:=by
 have neL:∀b o,X.s₀.heap.get? b=some o->b≠X.env.locals:=λb o e=>Cb (Cj (B2 e) I.ok.above)
 have neC:∀b o,X.s₀.heap.get? b=some o->b∉X.ex->b∉ch:=λb o e hx hb=>by
  rcases (hch b hb).1 with z | z
  ·exact hx z
  ·exact absurd (Cj (B2 e) z) (C0 _)
 have cellK:∀x c,X.env.cells.lookup x=some c->∀v,s.heap.IsCell c v->h'.IsCell c v:=λx c e v ⟨o,ho,hd⟩=>by
  have nch:c∉ch:=λz=>(hch c z).2.2.1 x c e rfl
  by_cases hc:c∈X.fs
  ·obtain ⟨sl,q⟩:=slot c o (I.cne x c e) hc nch ho (I.freeC x c e)
   exact ⟨_,q,hd⟩
  ·exact ⟨o,keep c o (I.cne x c e) hc nch ho (I.freeC x c e),hd⟩
 refine ⟨I.ok,I.os,hg,⟨λb o e n hb hx =>?_,λb o e n hb hx =>?_,λb o e n hx =>?_,λb o e hx =>?_,λb xs e=>tups b xs (I.base.tups b xs e),λb o xs e=>frzs b o xs (I.base.frzs b o xs e),λb ps e =>?_⟩,?_,λx c e =>?_,?_,λx c e =>?_,λp hp =>?_,hok,I.len⟩
 ·exact keep b o (neL b o e) hb (neC b o e hx) (I.base.keep b o e n hb hx) (I.base.free b o e n hx)
 ·obtain ⟨sl,e1⟩:=I.base.slot b o e n hb hx
  obtain ⟨sl',e2⟩:=slot b _ (neL b o e) hb (neC b o e hx) e1 (I.base.free b o e n hx)
  exact ⟨sl',e2⟩
 ·obtain ⟨o',e1⟩:=I.base.there b o e hx
  exact free b o' (neC b o e hx) e1 (I.base.free b o e n hx)
 ·obtain ⟨o',e1⟩:=I.base.there b o e hx
  exact there b o' (neC b o e hx) e1
 ·obtain ⟨m1,e1⟩:=I.base.tbls b ps e
  obtain ⟨m2,e2⟩:=tbls b _ e1
  exact ⟨m1++m2,by rw[e2,Array.append_assoc]⟩
 ·obtain ⟨m,hn,hl⟩:=I.loc
  refine ⟨m,ns m hn,λi x v e1 e2 e3 =>?_⟩
  obtain ⟨u,r,l⟩:=hl i x v e1 e2 e3
  refine ⟨u,r,?_⟩
  rcases l with l | ⟨k,c,e,z⟩
  ·exact .inl l
  ·exact .inr ⟨k,c,e,cellK x c e _ z⟩
 ·obtain ⟨v,z⟩:=I.cell x c e
  exact ⟨v,cellK x c e v z⟩
 ·obtain ⟨m,⟨o,_,_,ho,_⟩,_⟩:=I.loc
  exact free _ o (λz=>(hch _ z).2.1 rfl) ho I.free
 ·obtain ⟨v,o,ho,hd⟩:=I.cell x c e
  exact free c o (λz=>(hch c z).2.2.1 x c e rfl) ho (I.freeC x c e)
 ·obtain ⟨e,n,ne,nf,d⟩:=I.pin p hp
  have nch:p.1∉ch:=λz=>(hch p.1 z).2.2.2 p hp rfl
  exact ⟨keep p.1 p.2 ne nf nch e n,free p.1 p.2 nch e n,ne,nf,d⟩
theorem Inv.un {t':Nat}(I:Inv X pins σ H s)(u:Un X.fs [] H H' s.heap h')(hok:HOk X.prog X.w H' h'):Inv X pins σ H' { s with heap:=h',toks:=t' }:=by
 obtain ⟨m,⟨o,es,ep,ho,r⟩,_⟩:=id I.loc
 obtain ⟨sl,hL⟩:=u.any ho I.free (by simp)
 exact I.step (g':=s.gens) (d':=s.drawn) (ch:=[]) (λ_ z=>nomatch z) (λb o _ hb _ e n=>u.keep b o e n hb (by simp)) (λb o _ hb _ e n=>u.slot b o e n hb (by simp)) (λb o _ e n=>u.free b o e n (by simp)) (λb o _ e=>u.there b o e (by simp)) u.tups u.frzs u.tbls (λm' hm=>by
  obtain ⟨o',es',ep',ho',r'⟩:=hm
  rw[ho] at ho';cases ho'
  exact ⟨_,es',ep',hL,r'⟩) hok I.bare
theorem Inv.call {g':Array GenState}{t':Nat}{d':Drawn}{ch:List Addr}(I:Inv X pins σ H s)(u:Un (frs X.stack) ch H H' s.heap h')(hok:HOk X.prog X.w H' h')(hg:AllBare g')
  (hch:∀b∈ch,(b∈X.ex\/X.s₀.heap.objs.size<=b)/\b≠X.env.locals/\(∀x c,X.env.cells.lookup x=some c->c≠b)/\∀p∈X.pn++pins,p.1≠b) :
  Inv X pins σ H' { s with heap:=h',gens:=g',drawn:=d',toks:=t' }:=by
 obtain ⟨m,⟨o,es,ep,ho,r⟩,_⟩:=id I.loc
 obtain ⟨sl,hL⟩:=u.any ho I.free λz=>(hch _ z).2.1 rfl
 exact I.step (ch:=ch) hch (λb o hL hb hc e n=>u.keep b o e n (λz=>(Cg.mp (I.nF b z)).elim hL hb) hc) (λb o _ _ hc e n=>u.any e n hc) (λb o hc e n=>u.free b o e n hc) (λb o hc e=>u.there b o e hc) u.tups u.frzs u.tbls (λm' hm=>by
  obtain ⟨o',es',ep',ho',r'⟩:=hm
  rw[ho] at ho';cases ho'
  exact ⟨_,es',ep',hL,r'⟩) hok hg
theorem Inv.turned {t':Nat}{it:Addr}(I:Inv X pins σ H s)(k:∀b o,b≠it->s.heap.get? b=some o->h'.get? b=some o)(hn:H it=none)(hL:it≠X.env.locals)
  (h1:it∈X.ex\/X.s₀.heap.objs.size<=it) (h2:∀x c,X.env.cells.lookup x=some c->c≠it) (h3:∀p∈X.pn++pins,p.1≠it):Inv X pins σ H { s with heap:=h',toks:=t' }:=by
 have nit:∀b u,H b=some u->b≠it:=λb u e z=>by rw[z,hn] at e;cases e
 refine I.step (g':=s.gens) (d':=s.drawn) (ch:=[it]) (λb hb =>?_) (λb o _ _ hc e _=>k b o (λz=>hc (by simp[z])) e) (λb o _ _ hc e _=>⟨o.slots,k b o (λz=>hc (by simp[z])) e⟩) (λ_ _ _ _ n=>n)
  (λb o hc e=>⟨o,k b o (λz=>hc (by simp[z])) e⟩) (λ_ _ e=>e) (λ_ _ _ e=>e) (λb ps e=>⟨#[],by rw[e];simp⟩) (λm hm =>?_) (λb u e =>?_) I.bare
 ·have e:b=it:=by simpa using hb
  subst e
  exact ⟨h1,hL,h2,h3⟩
 ·obtain ⟨o,es,ep,ho,r⟩:=hm
  exact ⟨o,es,ep,k _ o (Dq hL) ho,r⟩
 ·refine (I.hok b u e).stay (λc v hc q=>k c v ?_ q) (λ_ q=>q) λ_ _ q=>q
  rcases hc with z | z
  ·rw[z];exact nit b u e
  ·exact nit c _ z
theorem Inv.tok (I:Inv X pins σ H s)(t:Nat):Inv X pins σ H { s with toks:=t }:=I.un (h':=s.heap) (t':=t) Un.refl I.hok
theorem Inv.kept {t':Nat}(I:Inv X pins σ H s)(k:∀b u,s.heap.get? b=some u->h'.get? b=some u):Inv X pins σ H { s with heap:=h',toks:=t' }:=I.un (Un.kept k) (I.hok.kept k)
theorem Inv.laid {a:Addr}{o:HO}{t':Nat}(I:Inv X pins σ H s)(k:∀b u,s.heap.get? b=some u->h'.get? b=some u)(hp:s.heap.objs.size<=a)(new:bB X.prog X.w (upd H a o) h' a o) :
  Inv X pins σ (upd H a o) { s with heap:=h',toks:=t' }:=I.un (Un.laid k hp (I.hok.fresh hp)) (I.hok.laid k hp new)
theorem Inv.write {x e:Addr}{o:HO}{t':Nat}(I:Inv X pins σ H s)(mu:Mut (H x))(he:e=x\/H e=some (.own x))(k:∀b u,b≠e->s.heap.get? b=some u->h'.get? b=some u)(heo:∃u,h'.get? e=some u)
  (new:bB X.prog X.w (upd H x o) h' x o):Inv X pins σ (upd H x o) { s with heap:=h',toks:=t' }:=I.un (Un.write mu he k heo) (I.hok.write mu he k heo new)
theorem Inv.hX {pins':List (Addr×Obj)}(I:Inv X pins σ H s)(h:∀p∈pins',s.heap.get? p.1=some p.2/\H p.1=none/\p.1≠X.env.locals/\p.1∉X.fs/\∀v,p.2.data ≠ .cell v):Inv X pins' σ H s :=
 ⟨I.ok,I.os,I.bare,I.base,I.loc,I.cell,I.free,I.freeC,λp hp=>(B0.mp hp).elim (λz=>I.pin p (CH _ z)) (h p),I.hok,I.len⟩
theorem jM {N:List Str}(hN:N.Nodup){i j:Nat}{x:Str}(a:N[i]? = some x)(b:N[j]? = some x):i=j:=by
 obtain ⟨h1,e1⟩:=B1.mp a
 obtain ⟨h2,e2⟩:=B1.mp b
 exact (J4 hN).mp (e1.trans e2.symm)
theorem uj {M:Model}{A:Dd}{E:BM->BQ->Prop}{i:Nat}{x:Str}{v:V}{u:BM}{Q:Unit->BQ->Prop}(I:Inv X pins σ H s)(hN:X.N.Nodup)(hi:X.N[i]? = some x)(hx:Loc X.env.scope x)(r:RelV v u)
  (h:∀s',Inv X pins (σ.set i (some v)) H s'->(∃a,Heap.SameBut a s.heap s'.heap/\(a=X.env.locals\/X.env.cells.lookup x=some a))->Q () s') (hf:X.fn x=true\/X.env.scope.names.lookup x=some .local:=by first | exact .inl rfl | exact .inr rfl | assumption):Ci M A (storeName X.env x u) Q E s:=by
 obtain ⟨m,hn,hl⟩:=id I.loc
 have hcls:(X.env.scope.kind == .class || (X.env.scope.kind == .module && X.env.locals != X.env.globals))=false:=by rw[I.ok.kind];rfl
 have hiσ:i<σ.length:=by rw[I.len];exact (B1.mp hi).1
 have cne:=I.cne
 have tracked:∀{a:Addr} {h':Heap},(∃o,s.heap.get? a=some o/\H a=none)->Heap.SameBut a s.heap h'->HOk X.prog X.w H h':=λ{a h'} ha hs b ob e=>by
  obtain ⟨_,_,hfree⟩:=ha
  refine (I.hok b ob e).stay (λc w' hc q=>(hs.2 c ?_).trans q) (λ_ q=>q) λ_ _ q=>q
  rintro rfl
  rcases hc with rfl | hc
  ·rw[hfree] at e;cases e
  ·rw[hfree] at hc;cases hc
 rcases hx with hk | hk
 ·refine wpAny_storeName_local hk hn (λh' hn' hs =>?_) hcls
  obtain ⟨oL,_,_,hoL,_⟩:=id hn
  refine h _ ⟨I.ok,I.os,I.bare,⟨λb o e n hb hx =>?_,λb o e n hb hx =>?_,I.base.free,λb o e hx =>?_,I.base.tups,I.base.frzs,I.base.tbls⟩,⟨_,hn',λj y v' e1 e2 e3 =>?_⟩,λy c e =>?_,I.free,I.freeC,λp hp =>?_,tracked ⟨oL,hoL,I.free⟩ hs,by simpa using I.len⟩ ⟨_,hs,.inl rfl⟩
  ·exact (hs.2 b (Cb (Cj (B2 e) I.ok.above))).trans (I.base.keep b o e n hb hx)
  ·obtain ⟨sl,e1⟩:=I.base.slot b o e n hb hx
   exact ⟨sl,(hs.2 b (Cb (Cj (B2 e) I.ok.above))).trans e1⟩
  ·obtain ⟨o',e1⟩:=I.base.there b o e hx
   exact ⟨o',(hs.2 b (Cb (Cj (B2 e) I.ok.above))).trans e1⟩
  ·by_cases hj:j=i
   ·subst hj
    rw[hi] at e1;cases e1
    rw[DY hiσ] at e2
    cases e2
    exact ⟨u,r,.inl ⟨hk,by simp⟩⟩
   ·rw[Ee (Dq hj)] at e2
    obtain ⟨u',r',q⟩:=hl j y v' e1 e2 e3
    refine ⟨u',r',?_⟩
    rcases q with ⟨k,e⟩ | ⟨k,c,e,z⟩
    ·refine .inl ⟨k,?_⟩
     have:y≠x:=λe=>hj (jM hN e1 (e ▸ hi))
     simp[this,e]
    ·exact .inr ⟨k,c,e,z.sameBut hs (cne y c e)⟩
  ·obtain ⟨w',z⟩:=I.cell y c e
   exact ⟨w',z.sameBut hs (cne y c e)⟩
  ·obtain ⟨e,n,ne,nf,d⟩:=I.pin p hp
   exact ⟨(hs.2 p.1 ne).trans e,n,ne,nf,d⟩
 ·have hfn:X.fn x=true:=by
   rcases hf with z | z
   ·exact z
   ·rw[z] at hk;cases hk
  obtain ⟨c,hc⟩:=I.ok.has x (.inl hk)
  obtain ⟨w',z⟩:=I.cell x c hc
  refine wpAny_storeName_cell I.ok.kind hk hc z (λh' hc' hs =>?_)
  obtain ⟨oc,hoc,hocd⟩:=id z
  refine h { s with heap:=h' } ⟨I.ok,I.os,I.bare,⟨λb o e n hb hx =>?_,λb o e n hb hx =>?_,I.base.free,λb o e hx =>?_,I.base.tups,I.base.frzs,I.base.tbls⟩,⟨m,hn.sameBut hs (Dq (cne x c hc)),λj y v' e1 e2 e3 =>?_⟩,λy c' e =>?_,I.free,I.freeC,λp hp =>?_,tracked ⟨oc,hoc,I.freeC x c hc⟩ hs,by simpa using I.len⟩ ⟨c,hs,.inr hc⟩
  ·exact (hs.2 b (Cb (Cj (B2 e) (I.ok.cab x c hfn hc)))).trans (I.base.keep b o e n hb hx)
  ·obtain ⟨sl,e1⟩:=I.base.slot b o e n hb hx
   exact ⟨sl,(hs.2 b (Cb (Cj (B2 e) (I.ok.cab x c hfn hc)))).trans e1⟩
  ·obtain ⟨o',e1⟩:=I.base.there b o e hx
   exact ⟨o',(hs.2 b (Cb (Cj (B2 e) (I.ok.cab x c hfn hc)))).trans e1⟩
  ·by_cases hj:j=i
   ·subst hj
    rw[hi] at e1;cases e1
    rw[DY hiσ] at e2
    cases e2
    exact ⟨u,r,.inr ⟨.inl hk,c,hc,hc'⟩⟩
   ·rw[Ee (Dq hj)] at e2
    obtain ⟨u',r',q⟩:=hl j y v' e1 e2 e3
    refine ⟨u',r',?_⟩
    rcases q with q | ⟨k,c',e,z'⟩
    ·exact .inl q
    ·refine .inr ⟨k,c',e,z'.sameBut hs ?_⟩
     rintro rfl
     exact hj (jM hN e1 (I.ok.inj _ _ _ e hc ▸ hi))
  ·by_cases hcc:c'=c
   ·subst hcc;exact ⟨_,hc'⟩
   ·obtain ⟨w2,z2⟩:=I.cell y c' e
    exact ⟨w2,z2.sameBut hs hcc⟩
  ·obtain ⟨e,n,ne,nf,d⟩:=I.pin p hp
   refine ⟨(hs.2 p.1 ?_).trans e,n,ne,nf,d⟩
   intro q
   rw[q,hoc] at e
   have q':oc=p.2:=Cw e
   exact d w' (by rw[<- q'];exact hocd)
theorem jN {M:Model}{A:Dd}{E:BM->BQ->Prop}{i:Nat}{x:Str}{v:V}{u:BM}{Q:Unit->BQ->Prop}(I:Inv X pins σ H s)(hN:X.N.Nodup)(hi:X.N[i]? = some x)(hx:Loc X.env.scope x)(r:RelV v u)
  (h:∀s',Inv X pins (σ.set i (some v)) H s'->Q () s') (hf:X.fn x=true\/X.env.scope.names.lookup x=some .local:=by first | exact .inl rfl | exact .inr rfl | assumption):Ci M A (storeName X.env x u) Q E s :=
 uj I hN hi hx r (λs' I' _=>h s' I') hf
theorem Inv.zh {s':BQ}{ch:List Addr}(I:Inv X pins σ H s)(ho:s'.os=s.os)(u:Un (frs X.stack) ch H H' s.heap s'.heap)(hok:HOk X.prog X.w H' s'.heap)(hg:AllBare s'.gens)
  (hch:∀b∈ch,(b∈X.ex\/X.s₀.heap.objs.size<=b)/\b≠X.env.locals/\(∀x c,X.env.cells.lookup x=some c->c≠b)/\∀p∈X.pn++pins,p.1≠b):Inv X pins σ H' s':=by
 obtain ⟨h',g',d',t',o'⟩:=s'
 have e:o'=s.os:=ho
 subst e
 exact I.call (g':=g') (t':=t') (d':=d') u hok hg hch
end
abbrev XK:=BM->Option Addr->Hp->Prop
abbrev St:=List (Option V)
abbrev VK:=V->Hp->Prop
abbrev TE:=St->Hp->VK->Prop
abbrev TT:=St->Hp->(Bool->Hp->Prop)->Prop
abbrev TA:=St->Hp->(List V->Hp->Prop)->Prop
structure Ends where
 nx:St->Hp->Prop
 rt:VK
 bk:St->Hp->Prop:=λ_ _=>False
 ct:St->Hp->Prop:=λ_ _=>False
abbrev TS:=Ends->St->Hp->Prop
def EP (X:Cx)(pins:List (Addr×Obj))(σ:St)(Q:VK)(u:BM)(s':BQ):Prop:=∃v H',Inv X pins σ H' s'/\RelV v u/\Q v H'
def TP (X:Cx)(pins:List (Addr×Obj))(σ:St)(Q:Bool->Hp->Prop)(b:Bool)(s':BQ):Prop:=∃H',Inv X pins σ H' s'/\Q b H'
def AP (X:Cx)(pins:List (Addr×Obj))(σ:St)(Q:List V->Hp->Prop)(us:List BM)(s':BQ):Prop:=∃vs H',Inv X pins σ H' s'/\Vals vs us/\Q vs H'
def SP (X:Cx)(pins:List (Addr×Obj))(D:Ends)(f:Flow)(s':BQ):Prop :=
 match f with
 | .next=>∃σ' H',Inv X pins σ' H' s'/\D.nx σ' H'
 | .brk=>∃σ' H',Inv X pins σ' H' s'/\D.bk σ' H'
 | .cont=>∃σ' H',Inv X pins σ' H' s'/\D.ct σ' H'
 | .ret u=>∃v σ' H',Inv X pins σ' H' s'/\RelV v u/\D.rt v H'
def PE (X:Cx)(e:Expr)(t:TE):Prop :=
 ∀(pins:List (Addr×Obj)) (s:BQ) (σ:St) (H:Hp) (Q:VK),Inv X pins σ H s->t σ H Q->Ci (Cs X.prog X.w) X.A (eval e X.env) (EP X pins σ Q) X.xe s
def PT (X:Cx)(e:Expr)(t:TT):Prop :=
 ∀(pins:List (Addr×Obj)) (s:BQ) (σ:St) (H:Hp) (Q:Bool->Hp->Prop),Inv X pins σ H s->t σ H Q->Ci (Cs X.prog X.w) X.A (isTrue e X.env (eval e X.env)) (TP X pins σ Q) X.xe s
def PW (X:Cx)(e:Expr)(t:TT):Prop :=
 ∀(whole:Sem BM) (pins:List (Addr×Obj)) (s:BQ) (σ:St) (H:Hp) (Q:Bool->Hp->Prop),Inv X pins σ H s->t σ H Q->Ci (Cs X.prog X.w) X.A (isTrue e X.env whole) (TP X pins σ Q) X.xe s
theorem PW.pt {X:Cx}{e:Expr}{t:TT}(h:PW X e t):PT X e t:=h _
def PA (X:Cx)(es:List Expr)(t:TA):Prop :=
 ∀(pos:Pos) (pins:List (Addr×Obj)) (s:BQ) (σ:St) (H:Hp) (Q:List V->Hp->Prop),Inv X pins σ H s->t σ H Q->Ci (Cs X.prog X.w) X.A (spliced (Fo pos (CN es X.env))) (AP X pins σ Q) X.xe s
def PS (X:Cx)(st:Stmt)(t:TS):Prop :=
 ∀(pins:List (Addr×Obj)) (s:BQ) (σ:St) (H:Hp) (D:Ends),Inv X pins σ H s->t D σ H->Ci (Cs X.prog X.w) X.A (exec st X.env) (SP X pins D) X.xe s
def PSs (X:Cx)(st:List Stmt)(t:TS):Prop :=
 ∀(pins:List (Addr×Obj)) (s:BQ) (σ:St) (H:Hp) (D:Ends),Inv X pins σ H s->t D σ H->Ci (Cs X.prog X.w) X.A (execs st X.env) (SP X pins D) X.xe s
theorem thn {α:Type}{t:Sem α}{Q Q':α -> BQ->Prop}{M:Model}{A:Dd}{E:BM->BQ->Prop}{s:BQ}(h:Ci M A t Q E s)(hQ:∀a s,Q a s->Q' a s):Ci M A t Q' E s:=DT h hQ λ_ _ x=>x
open PySem PySem.Spec PyProof.Rows
section
variable  {X:Cx}
theorem bin {a b:Expr}{ta tb:TE}(ha:PE X a ta)(hb:PE X b tb){pins:List (Addr×Obj)}{s:BQ}{σ:St}{H:Hp}{R:V->V->Hp->Prop}(I:Inv X pins σ H s)(h:ta σ H λx H1=>tb σ H1 λy H2=>R x y H2)
  {α:Type} {Q:α -> BQ->Prop} {f:BM->BM->Sem α}
  (hf:∀v u s2 x y H2,Inv X pins σ H2 s2->RelV x v->RelV y u->R x y H2->Ci (Cs X.prog X.w) X.A (f v u) Q X.xe s2) :
  Ci (Cs X.prog X.w) X.A (eval a X.env) (λv s₁=>Ci (Cs X.prog X.w) X.A (eval b X.env) (λu s₂=>Ci (Cs X.prog X.w) X.A (f v u) Q X.xe s₂) X.xe s₁) X.xe s:=by
 refine thn (ha pins s σ H _ I h) λv s1 ⟨x,H1,I1,r1,q1⟩ =>?_
 refine thn (hb pins s1 σ H1 _ I1 q1) λu s2 ⟨y,H2,I2,r2,q2⟩ =>?_
 exact hf v u s2 x y H2 I2 r1 r2 q2
def AS (i:Nat):TE:=λσ H Q=>∃v,σ[i]? = some (some v)/\Q v H
def tC (v:V):TE:=λ_ H Q=>Q v H
theorem zL {i:Nat}{x:Str}{pos:Pos}(hN:X.N[i]? = some x)(hv:Vis X.env.scope x)(hd:(x == ("__debug__" : Str))=false:=by decide)(hcd:(x == ("__classdict__" : Str))=false:=by decide):PE X (.Name x pos) (AS i):=by
 intro pins s σ H Q I h
 obtain ⟨v,e,h⟩:=h
 obtain ⟨m,hn,hl⟩:=I.loc
 obtain ⟨u,r,l⟩:=hl i x v hN e hv
 have fin:EP X pins σ Q u s:=⟨v,H,I,r,h⟩
 rcases l with ⟨hk,hm⟩ | ⟨hk,c,hc,hcell⟩
 ·exact KN (wpAny_loadName_local I.ok.kind hk hn hm fin) hd
 ·rcases hk with hk | hk
  ·exact KN (wpAny_loadName_cell I.ok.kind hk hc hcell fin) hd
  ·exact KN (wpAny_loadName_free I.ok.kind hk hc hcell fin hcd) hd
theorem ak {i j pos}:PE X (.Constant (.int i) j pos) (tC (.int i)):=λ_ _ _ H _ I h=>wpAny_Constant_int ⟨.int i,H,I.tok _,⟨_,rfl⟩,h⟩
theorem gF {b j pos}:PE X (.Constant (.bool b) j pos) (tC (.bl b)):=λ_ _ _ H _ I h=>Constant_bool ⟨.bl b,H,I,rfl,h⟩
theorem gJ {j pos}:PE X (.Constant .none j pos) (tC .non):=λ_ _ _ H _ I h=>Constant_none ⟨.non,H,I,rfl,h⟩
theorem zM {x j pos}:PE X (.Constant (.str x) j pos) (tC (.str x)):=λ_ _ _ H _ I h=>Calls.Constant_str ⟨.str x,H,I.tok _,⟨_,rfl⟩,h⟩
def Gl (X:Cx)(x:Str):Prop:=X.env.kindOf x=some .globalImplicit
theorem hZ {E:BM->BQ->Prop}{pins:List (Addr×Obj)}{s:BQ}{σ:St}{H:Hp}{x:Str}{u:BM}{pos:Pos}{Q:BM->BQ->Prop}(I:Inv X pins σ H s)(hg:Gl X x)(hm:X.mg x=some u)(h:Q u s)
  (hd:(x == ("__debug__" : Str))=false:=by decide):Ci (Cs X.prog X.w) X.A (eval (.Name x pos) X.env) Q E s :=
 Hg I.ok.kind hg (Calls.loadGlobal_global (by rw[I.ok.glob];exact I.mod.glob.keeps I.bk) hm h) hd
theorem dH {E:BM->BQ->Prop}{pins:List (Addr×Obj)}{s:BQ}{σ:St}{H:Hp}{x:Str}{u:BM}{pos:Pos}{Q:BM->BQ->Prop}(I:Inv X pins σ H s)(hg:Gl X x)(hm:X.mg x=none)(hv:Dn x=some u)(h:Q u s)
  (hn:x ≠ "__name__" := by decide) (hd:(x == ("__debug__" : Str))=false:=by decide):Ci (Cs X.prog X.w) X.A (eval (.Name x pos) X.env) Q E s:=by
 obtain ⟨mb,h1,h2⟩:=I.mod.blt
 exact Hg I.ok.kind hg (Calls.loadGlobal_builtin (by rw[I.ok.glob];exact I.mod.glob.keeps I.bk) hm (by rw[I.ok.blt];exact h1.keeps I.bk) ((h2 x hn).trans hv) h) hd
theorem cM {x:Str}{v:V}{u:BM}{pos:Pos}(hg:Gl X x)(hm:X.mg x=some u)(r:RelV v u)(hd:(x == ("__debug__" : Str))=false:=by decide):PE X (.Name x pos) (tC v) :=
 λ_ _ _ H _ I h=>hZ I hg hm ⟨v,H,I,r,h⟩ hd
theorem gj {x:Str}{v:V}{u:BM}{pos:Pos}(hg:Gl X x)(hm:X.mg x=none)(hv:Dn x=some u)(r:RelV v u)(hn:x ≠ "__name__" := by decide)(hd:(x == ("__debug__" : Str))=false:=by decide):PE X (.Name x pos) (tC v) :=
 λ_ _ _ H _ I h=>dH I hg hm hv ⟨v,H,I,r,h⟩ hn hd
variable  {a b:Expr}{ta tb:TE}{pos:Pos}
def PC (X:Cx)(op:CmpOp)(a b:Expr)(t:TE):Prop :=
 ∀(pins:List (Addr×Obj)) (s:BQ) (σ:St) (H:Hp) (Q:VK),Inv X pins σ H s->t σ H Q →
  Ci (Cs X.prog X.w) X.A (eval a X.env) (λv s₁=>Ci (Cs X.prog X.w) X.A (eval b X.env) (λu s₂=>Ci (Cs X.prog X.w) X.A (DW op v u) (EP X pins σ Q) X.xe s₂) X.xe s₁) X.xe s
theorem vD (b:Expr){op:CmpOp}(h:op ≠ .In)(h2:op ≠ .NotIn):behindInMarks op b=false:=by
 have e1:(op == CmpOp.In)=false:=by cases op <;> first | rfl | exact absurd rfl h
 have e2:(op == CmpOp.NotIn)=false:=by cases op <;> first | rfl | exact absurd rfl h2
 cases b <;> simp[behindInMarks,e1,e2]
def tB (t:TE):TT:=λσ H Q=>t σ H λx H1=>∃c,x = .bl c/\Q c H1
theorem jO {op:CmpOp}{t:TE}(h:PC X op a b t)(h1:behindInMarks op b=false:=by first | exact vD _ (by decide) (by decide) | rfl):PT X (.Compare a [op] [b] pos) (tB t):=by
 intro pins s σ H Q I hw
 refine II (thn (h pins s σ H _ I hw) λv s1 h1=>thn h1 λu s2 h2=>thn h2 λc s3 ⟨x,H1,I1,r1,q1⟩ =>?_) h1
 obtain ⟨d,rfl,q⟩:=q1
 cases r1
 exact DL ⟨H1,I1,q⟩
theorem cN {e:Expr}{t:TE}(h:PE X e t)(he:∀whole,isTrue e X.env whole=(do let v ← whole;standAt e.pos;HY [v] (truthy v)):=by intro _;rfl):PT X e (tB t):=by
  intro pins s σ H Q I hw
  refine isTrue_plain (thn (h pins s σ H _ I hw) λv s1 ⟨x,H1,I1,r1,q1⟩ =>?_) (he _)
  obtain ⟨d,rfl,q⟩:=q1
  cases r1
  exact DL ⟨H1,I1,q⟩
variable  {tA tB':TT}{rest:List Expr}
def tAnd (t u:TT):TT:=λσ H Q=>t σ H λc H1=>if c=true then u σ H1 Q else Q false H1
def tOr (t u:TT):TT:=λσ H Q=>t σ H λc H1=>if c=true then Q true H1 else u σ H1 Q
def tNot (t:TT):TT:=λσ H Q=>t σ H λc H1=>Q (!c) H1
theorem jA (ha:PT X a tA):PW X (.BoolOp .And [a] pos) tA:=by
 intro wh pins s σ H Q I h
 refine isTrue_and (thn (ha pins s σ H Q I h) λc s1 e =>?_)
 cases c with
 | true=>exact isTrue_and_nil e
 | false=>exact e
theorem iK (ha:PT X a tA):PW X (.BoolOp .Or [a] pos) tA:=by
 intro wh pins s σ H Q I h
 refine isTrue_or (thn (ha pins s σ H Q I h) λc s1 e =>?_)
 cases c with
 | false=>exact isTrue_or_nil e
 | true=>exact e
theorem nH (ha:PT X a tA)(hb:PW X (.BoolOp .And (b :: rest) pos) tB'):PW X (.BoolOp .And (a :: b :: rest) pos) (tAnd tA tB'):=by
 intro wh pins s σ H Q I h
 refine isTrue_and (thn (ha pins s σ H _ I h) λc s1 ⟨H1,I1,q1⟩ =>?_)
 cases c with
 | true=>exact hb wh pins s1 σ H1 Q I1 q1
 | false=>exact ⟨H1,I1,q1⟩
theorem ia (ha:PT X a tA)(hb:PW X (.BoolOp .Or (b :: rest) pos) tB'):PW X (.BoolOp .Or (a :: b :: rest) pos) (tOr tA tB'):=by
 intro wh pins s σ H Q I h
 refine isTrue_or (thn (ha pins s σ H _ I h) λc s1 ⟨H1,I1,q1⟩ =>?_)
 cases c with
 | true=>exact ⟨H1,I1,q1⟩
 | false=>exact hb wh pins s1 σ H1 Q I1 q1
theorem dr (ha:PT X a tA):PT X (.UnaryOp .Not a pos) (tNot tA):=by
 intro pins s σ H Q I h
 exact isTrue_not (ha pins s σ H (λc H1=>Q (!c) H1) I h)
def AU (ta tb:TE):TE:=λσ H Q=>ta σ H λx H1=>∃c,x = .bl c/\if c=true then tb σ H1 Q else Q (.bl false) H1
def AV (ta:TE):TE:=λσ H Q=>ta σ H λx H1=>∃c,x = .bl c/\Q (.bl (!c)) H1
theorem qQ {op}{t:TE}(h:PE X a t):PE X (.BoolOp op [a] pos) t:=λpins s σ H Q I hw=>BoolOp_one (h pins s σ H Q I hw)
theorem qR (ha:PE X a ta)(hb:PE X (.BoolOp .And (b :: rest) pos) tb):PE X (.BoolOp .And (a :: b :: rest) pos) (AU ta tb):=by
 intro pins s σ H Q I h
 refine BoolOp_and (thn (ha pins s σ H _ I h) λv s1 ⟨x,H1,I1,r1,q1⟩ =>?_)
 obtain ⟨c,rfl,q1⟩:=q1
 cases r1
 refine DL ?_
 cases c with
 | true=>exact hb pins s1 σ H1 Q I1 q1
 | false=>exact ⟨.bl false,H1,I1,rfl,q1⟩
theorem zN (ha:PE X a ta):PE X (.UnaryOp .Not a pos) (AV ta):=by
 intro pins s σ H Q I h
 refine UnaryOp_ (thn (ha pins s σ H _ I h) λv s1 ⟨x,H1,I1,r1,q1⟩ =>?_)
 obtain ⟨c,rfl,q1⟩:=q1
 cases r1
 exact not_of (DL ⟨.bl (!c),H1,I1,rfl,q1⟩)
def tIf (t:TT)(ta tb:TE):TE:=λσ H Q=>t σ H λc H1=>if c=true then ta σ H1 Q else tb σ H1 Q
theorem vE {c:Expr}(hc:PT X c tA)(ha:PE X a ta)(hb:PE X b tb):PE X (.IfExp c a b pos) (tIf tA ta tb):=by
 intro pins s σ H Q I h
 refine wpAny_IfExp (thn (hc pins s σ H _ I h) λd s1 ⟨H1,I1,q1⟩ =>?_)
 cases d with
 | true=>exact ha pins s1 σ H1 Q I1 q1
 | false=>exact hb pins s1 σ H1 Q I1 q1
end
open PySem PySem.Spec PyProof.Rows
def SqL (K:BP)(H:Hp)(a:Addr)(xs:List V):Prop :=
 Rd H a (.lst xs) ∨
  ∃(o:Obj) (its:Array BM) (n:Nat),K.lookup a=some o/\o.cls = .type "list" /\ o.dict=none/\o.data = .seq its n/\its.size<=B4/\Vals xs its.toList
def SqT (K:BP)(H:Hp)(a:Addr)(xs:List V):Prop :=
 Rd H a (.tup xs) ∨
  ∃(o:Obj) (its:Array BM) (n:Nat),K.lookup a=some o/\o.cls = .type "tuple" /\ o.data = .seq its n/\its.size<=B4/\Vals xs its.toList
def absV:BM->Option V
 | .none=>some .non
 | .bool b=>some (.bl b)
 | .int i _=>some (.int i)
 | .str x _=>some (.str x)
 | .bytes b _=>some (.byt b)
 | .float b _=>some (.flt b)
 | .ref a=>some (.ref a)
 | .type n=>some (.ty n)
 | _=>none
theorem RelV.abs {x:V}{u:BM}(r:RelV x u):absV u=some x:=by
 cases x with
 | non=>cases r;rfl
 | bl _=>cases r;rfl
 | int _=>obtain ⟨t,rfl⟩:=r;rfl
 | str _=>obtain ⟨t,rfl⟩:=r;rfl
 | byt _=>obtain ⟨t,rfl⟩:=r;rfl
 | flt _=>obtain ⟨t,rfl⟩:=r;rfl
 | ref _=>cases r;rfl
 | ty _=>cases r;rfl
theorem RelV.inj {x y:V}{u:BM}(r:RelV x u)(q:RelV y u):x=y:=Cw (r.abs.symm.trans q.abs)
theorem Vals.inj:∀{xs ys:List V} {us:List BM},Vals xs us->Vals ys us->xs=ys
 | _,_,_,.nil,.nil=>rfl
 | _,_,_,.cons r t,.cons r' t'=>by rw[r.inj r',Vals.inj t t']
section
variable  {X:Cx}{pins:List (Addr×Obj)}{σ:St}{H:Hp}{s:BQ}{a:Addr}{xs ys:List V}
theorem SqL.of {K:BP}(h:H a=some (.lst xs)):SqL K H a xs :=.inl (.inl h)
theorem SqT.of {K:BP}(h:H a=some (.tup xs)):SqT K H a xs :=.inl (.inl h)
theorem Inv.list (I:Inv X pins σ H s)(h:SqL X.K H a xs):∃its:List BM,Vals xs its/\PlainL s.heap a its.toArray/\xs.length<=B4:=by
 rcases h with h | ⟨o,its,n,hk,hc,hd,hs,hz,r⟩
 ·obtain ⟨z,its,n,r,e⟩:=h.ok I.hok
  exact ⟨its,r,⟨_,n,e,rfl,rfl,rfl⟩,z⟩
 ·refine ⟨its.toList,r,⟨o,n,I.kIn a o hk,hc,hd,by simpa using hs⟩,?_⟩
  have e:=r.length
  simp only[BW] at e
  lia
theorem Inv.tuple (I:Inv X pins σ H s)(h:SqT X.K H a xs):∃its:List BM,Vals xs its/\IsTup s.heap a its.toArray/\xs.length<=B4:=by
 rcases h with h | ⟨o,its,n,hk,hc,hs,hz,r⟩
 ·obtain ⟨z,its,r,p⟩:=h.ok I.hok
  exact ⟨its,r,p.tup,z⟩
 ·refine ⟨its.toList,r,⟨o,I.kIn a o hk,hc,n,by simpa using hs⟩,?_⟩
  have e:=r.length
  simp only[BW] at e
  lia
theorem Inv.vF (I:Inv X pins σ H s)(h:SqL X.K H a xs)(h':SqL X.K H a ys):xs=ys:=by
 obtain ⟨its,r,⟨o,n,e,_,_,d⟩,_⟩:=I.list h
 obtain ⟨its',r',⟨o',n',e',_,_,d'⟩,_⟩:=I.list h'
 rw[e] at e';cases e'
 rw[d] at d'
 injection d' with d1 _
 have:its=its':=by simpa using congrArg Array.toList d1
 subst this
 exact r.inj r'
theorem Inv.lY (I:Inv X pins σ H s)(h:SqT X.K H a xs)(h':SqT X.K H a ys):xs=ys:=by
 obtain ⟨its,r,⟨o,e,_,n,d⟩,_⟩:=I.tuple h
 obtain ⟨its',r',⟨o',e',_,n',d'⟩,_⟩:=I.tuple h'
 rw[e] at e';cases e'
 rw[d] at d'
 injection d' with d1 _
 have:its=its':=by simpa using congrArg Array.toList d1
 subst this
 exact r.inj r'
end
abbrev Cx.jP (X:Cx)(E:BM->BQ->Prop):Cx:={ X with xe:=E }
abbrev Cx.nox (X:Cx):Cx:=X.jP λ_ _=>False
theorem Cx.Ok.jP {X:Cx}(ok:X.Ok)(E:BM->BQ->Prop):(X.jP E).Ok :=
 ⟨ok.mod,ok.kind,ok.glob,ok.blt,ok.above,ok.inj,ok.has,ok.cab,ok.hd,ok.frames,ok.stk,ok.exf,ok.bs,ok.bsz,ok.noex,ok.exfs,ok.funs,ok.frf⟩
theorem Cx.Ok.dZ {X:Cx}{E:BM->BQ->Prop}(ok:(X.jP E).Ok):X.Ok :=
 ⟨ok.mod,ok.kind,ok.glob,ok.blt,ok.above,ok.inj,ok.has,ok.cab,ok.hd,ok.frames,ok.stk,ok.exf,ok.bs,ok.bsz,ok.noex,ok.exfs,ok.funs,ok.frf⟩
section
variable  {X:Cx}{pins:List (Addr×Obj)}{σ:St}{H:Hp}{s:BQ}{E:BM->BQ->Prop}
theorem Inv.jP (I:Inv X pins σ H s)(E:BM->BQ->Prop):Inv (X.jP E) pins σ H s:=⟨I.ok.jP E,I.os,I.bare,I.base,I.loc,I.cell,I.free,I.freeC,I.pin,I.hok,I.len⟩
theorem Inv.dZ (I:Inv (X.jP E) pins σ H s):Inv X pins σ H s:=⟨I.ok.dZ,I.os,I.bare,I.base,I.loc,I.cell,I.free,I.freeC,I.pin,I.hok,I.len⟩
theorem SP.dZ {D:Ends}{f:Flow}{s':BQ}(h:SP (X.jP E) pins D f s'):SP X pins D f s':=by
 cases f with
 | next=>obtain ⟨σ',H',I,q⟩:=h;exact ⟨σ',H',I.dZ,q⟩
 | brk=>obtain ⟨σ',H',I,q⟩:=h;exact ⟨σ',H',I.dZ,q⟩
 | cont=>obtain ⟨σ',H',I,q⟩:=h;exact ⟨σ',H',I.dZ,q⟩
 | ret u=>obtain ⟨v,σ',H',I,r,q⟩:=h;exact ⟨v,σ',H',I.dZ,r,q⟩
theorem PSs.nox {st:List Stmt}{t:TS}(h:PSs X.nox st t):PSs X st t:=λpins s σ H D I hw =>
 DT (h pins s σ H D (I.jP _) hw) (λ_ _ q=>q.dZ) λ_ _ z=>False.elim z
end
section
variable  {X:Cx}{st:Stmt}{rest:List Stmt}{t u:TS}{e:Expr}{te:TE}{pos:Pos}
def AW:TS:=λD σ H=>D.nx σ H
def AX (t u:TS):TS:=λD σ H=>t { D with nx:=u D } σ H
theorem aO:PSs X [] AW:=λ_ _ σ H _ I h=>Fz ⟨σ,H,I,h⟩
theorem ai (h1:PS X st t)(h2:PSs X rest u):PSs X (st :: rest) (AX t u):=by
 intro pins s σ H D I h
 refine Ie (thn (h1 pins s σ H { D with nx:=u D } I h) λf s1 q =>?_)
 cases f with
 | next =>
  obtain ⟨σ',H',I',q⟩:=q
  exact h2 pins s1 σ' H' D I' q
 | ret v=>exact q
 | brk=>exact q
 | cont=>exact q
theorem au (h1:PS X st t):PSs X [st] t:=by
 intro pins s σ H D I h
 refine Ie (thn (h1 pins s σ H D I h) λf s1 q =>?_)
 cases f with
 | next=>exact Fz q
 | ret v=>exact q
 | brk=>exact q
 | cont=>exact q
def AY:TS:=λD σ H=>D.ct σ H
theorem oZ:PS X (.Continue pos) AY:=λ_ _ σ H _ I h=>wpAny_Continue ⟨σ,H,I,h⟩
theorem Inv.quiet {pins:List (Addr×Obj)}{σ:St}{H:Hp}{s:BQ}(I:Inv X pins σ H s):interactive X.env=false:=by simp[interactive,I.ok.kind]
def AZ (te:TE):TS:=λD σ H=>te σ H λ_ H1=>D.nx σ H1
theorem bN (he:PE X e te)(hs:swapsWith e none pos.line X.env=pure false:=by rfl):PS X (.Expr e pos) (AZ te):=by
 intro pins s σ H D I h
 exact wpAny_Expr_any (thn (he pins s σ H _ I h) λv s1 ⟨x,H1,I1,r1,q1⟩=>⟨σ,H1,I1,q1⟩) I.quiet hs
def tRet (te:TE):TS:=λD σ H=>te σ H D.rt
theorem aH (he:PE X e te):PS X (.Return (some e) pos) (tRet te):=by
 intro pins s σ H D I h
 exact wpAny_Return_some (thn (he pins s σ H _ I h) λv s1 ⟨x,H1,I1,r1,q1⟩=>⟨x,σ,H1,I1,r1,q1⟩)
def tIfS (c:TT)(t u:TS):TS:=λD σ H=>c σ H λb H1=>if b=true then t D σ H1 else u D σ H1
theorem bE {c:Expr}{a b:List Stmt}{tc:TT}(hc:PT X c tc)(ha:PSs X a t)(hb:PSs X b u):PS X (.If c a b pos) (tIfS tc t u):=by
 intro pins s σ H D I h
 refine wpAny_If (thn (hc pins s σ H _ I h) λd s1 ⟨H1,I1,q1⟩ =>?_)
 cases d with
 | true=>exact ha pins s1 σ H1 D I1 q1
 | false=>exact hb pins s1 σ H1 D I1 q1
def zO:TS:=λ_ _ _=>False
theorem cU {sts:List Stmt}:PSs X sts zO:=λ_ _ _ _ _ _ h=>h.elim
end
abbrev TG:=V->St->Hp->(St->Hp->Prop)->Prop
abbrev TGs:=List V->St->Hp->(St->Hp->Prop)->Prop
def PG (X:Cx)(target:Expr)(t:TG):Prop :=
 ∀(pins:List (Addr×Obj)) (s:BQ) (σ:St) (H:Hp) (v:V) (u:BM) (Q:St->Hp->Prop),Inv X pins σ H s->RelV v u->t v σ H Q →
  Ci (Cs X.prog X.w) X.A (assign target X.env u) (λ_ s'=>∃σ' H',Inv X pins σ' H' s'/\Q σ' H') X.xe s
def PGs (X:Cx)(ts:List Expr)(t:TGs):Prop :=
 ∀(pins:List (Addr×Obj)) (s:BQ) (σ:St) (H:Hp) (vs:List V) (us:List BM) (Q:St->Hp->Prop),Inv X pins σ H s->Vals vs us->t vs σ H Q →
  Ci (Cs X.prog X.w) X.A (assignInOrder ((assignEach ts X.env).map (·.2)) us) (λ_ s'=>∃σ' H',Inv X pins σ' H' s'/\Q σ' H') X.xe s
section
variable  {X:Cx}{pos:Pos}
def fG (i:Nat):TG:=λv σ H Q=>Q (σ.set i (some v)) H
theorem aq {i:Nat}{x:Str}(hN:X.N.Nodup)(hi:X.N[i]? = some x)(hx:Loc X.env.scope x)(hf:X.fn x=true\/X.env.scope.names.lookup x=some .local:=by first | exact .inl rfl | exact .inr rfl | assumption):PG X (.Name x pos) (fG i):=by
 intro pins s σ H v u Q I r h
 exact wpAny_assign_Name (jN I hN hi hx r (λs' I'=>⟨_,H,I',h⟩) hf)
def A0:TGs:=λvs σ H Q=>vs=[]/\Q σ H
def vG (t:TG)(u:TGs):TGs:=λvs σ H Q=>∃v r,vs=v :: r/\t v σ H λσ' H'=>u r σ' H' Q
theorem aT:PGs X [] A0:=by
 intro pins s σ H vs us Q I r h
 obtain ⟨e,h⟩:=h
 subst e
 cases r
 exact assignInOrder_nil ⟨σ,H,I,h⟩
theorem az {e:Expr}{es:List Expr}{t:TG}{u:TGs}(h1:PG X e t)(h2:PGs X es u)
  (hs:(assignEach (e :: es) X.env).map (·.2)=assign e X.env :: (assignEach es X.env).map (·.2):=by rfl):PGs X (e :: es) (vG t u):=by
 intro pins s σ H vs us Q I r h
 obtain ⟨v,vr,e1,h⟩:=h
 subst e1
 cases r with
 | cons r rr =>
  rw[hs]
  refine assignInOrder_cons (thn (h1 pins s σ H _ _ _ I r h) λ_ s1 ⟨σ1,H1,I1,q1⟩ =>?_)
  exact h2 pins s1 σ1 H1 _ _ Q I1 rr q1
def A1 (K:BP)(n:Nat)(t:TGs):TG:=λv σ H Q=>∃a xs,v = .ref a/\SqT K H a xs/\xs.length=n/\t xs σ H Q
theorem bo {es:List Expr}{k:Nat}{t:TGs}{n:Nat}(hc:X.calm=true)(h:PGs X es t)
  (hn:(assignEach es X.env).length=n:=by rfl) (hst:(assignEach es X.env).findIdx? (·.1)=none:=by rfl):PG X (.Tuple es k pos) (A1 X.K n t):=by
 intro pins s σ H v u Q I r hw
 obtain ⟨a,xs,e1,hq,hl,hw⟩:=hw
 subst e1
 cases r
 obtain ⟨its,rv,ht,hz⟩:=I.tuple hq
 refine assign_Tuple_tuple (I.ok.hd hc) ht (by simp[hn, <- hl,rv.length]) hst λh' hx =>?_
 have I1:Inv X pins σ H { s with heap:=h' }:=I.kept (t':=s.toks) λb o e=>hx b o (Cb (B2 e)) e
 exact h pins _ σ H xs _ Q I1 (by simpa using rv) hw
def zP (te:TE)(g:TG):TS:=λD σ H=>te σ H λx H1=>g x σ H1 D.nx
theorem bD {tg e:Expr}{te:TE}{g:TG}(he:PE X e te)(hg:PG X tg g)(hs:swapsWithSole [tg] e pos.line X.env=pure false:=by rfl)(hw:swappedStores [tg] e X.env=pure none:=by rfl)
  (h1:(assignEach [tg] X.env).map (·.2)=[assign tg X.env]:=by rfl):PS X (.Assign [tg] e pos) (zP te g):=by
 intro pins s σ H D I h
 refine wpAny_Assign_stores (thn (he pins s σ H _ I h) λv s1 ⟨x,H1,I1,r1,q1⟩ =>?_) hs hw
 rw[h1]
 exact thn (hg pins s1 σ H1 x v _ I1 r1 q1) λ_ s2 q=>q
theorem aM {i:Nat}{x:Str}{e:Expr}{te:TE}{pos':Pos}(hN:X.N.Nodup)(hi:X.N[i]? = some x)(hx:Loc X.env.scope x)(he:PE X e te)(hs:swapsWith e (some (.Name x pos')) pos.line X.env=pure false:=by rfl)(hf:X.fn x=true\/X.env.scope.names.lookup x=some .local:=by first | exact .inl rfl | exact .inr rfl | assumption) :
  PS X (.Assign [.Name x pos'] e pos) (zP te (fG i)):=by
 intro pins s σ H D I h
 refine wpAny_Assign_Name (thn (he pins s σ H _ I h) λv s1 ⟨y,H1,I1,r1,q1⟩ =>?_) hs
 exact jN I1 hN hi hx r1 (λs2 I2=>⟨_,H1,I2,q1⟩) hf
end
section
variable  {X:Cx}{pos:Pos}
def vH (c:TT)(tb:TS):TS:=λD σ H=>∃W:Nat->St->Hp->Prop,(∃m,W m σ H)/\∀m σ H,W m σ H →
 c σ H λb H1=>if b=true then ∃N:St->Hp->Prop,(∀σ' H',N σ' H'->∃m',m'<m/\W m' σ' H')/\tb { D with nx:=N,ct:=N,bk:=D.nx } σ H1 else D.nx σ H1
theorem jQ {c:Expr}{body:List Stmt}{tc:TT}{tb:TS}(hp:PassesOwn (Cs X.prog X.w) X.A X.env X.xe)(hc:PT X c tc)(hb:PSs X body tb):PS X (.While c body [] pos) (vH tc tb):=by
 intro pins s σ H D I h
 obtain ⟨W,⟨m0,w0⟩,turn⟩:=h
 refine wpAny_While (codeAny_whileLoop (λn s'=>∃σ' H',Inv X pins σ' H' s'/\W n σ' H') ?_ m0 ⟨σ,H,I,w0⟩)
 rintro n s1 ⟨σ1,H1,I1,w1⟩
 refine E7 hp (thn (hc pins s1 σ1 H1 _ I1 (turn n σ1 H1 w1)) λb s2 ⟨H2,I2,q2⟩ =>?_)
 cases b with
 | true =>
  obtain ⟨N,hN,q2⟩:=q2
  rw[if_pos rfl]
  refine E7 hp (thn (hb pins s2 σ1 H2 _ I2 q2) λf s3 q3 =>?_)
  cases f with
  | next =>
   obtain ⟨σ3,H3,I3,n3⟩:=q3
   obtain ⟨m',hm,w3⟩:=hN σ3 H3 n3
   exact ⟨m',hm,σ3,H3,I3,w3⟩
  | cont =>
   obtain ⟨σ3,H3,I3,n3⟩:=q3
   obtain ⟨m',hm,w3⟩:=hN σ3 H3 n3
   exact ⟨m',hm,σ3,H3,I3,w3⟩
  | brk=>exact q3
  | ret v=>exact q3
 | false =>
  rw[if_neg B6]
  exact Fz ⟨σ1,H2,I2,q2⟩
end
structure It where
 go:Nat->Hp->Prop
 yld:Nat->Hp->V->Hp->Prop
 stop:Nat->Hp->Prop
def lE (X:Cx)(pins:List (Addr×Obj))(H:Hp)(b:Addr):Prop :=
 H b=none/\b≠X.env.locals/\b∉X.fs/\(b∈X.ex\/X.s₀.heap.objs.size<=b)/\(∀x c,X.env.cells.lookup x=some c->c≠b)/\∀p∈X.pn++pins,p.1≠b
theorem Inv.xR {X:Cx}{pins:List (Addr×Obj)}{σ:St}{H H':Hp}{s:BQ}{b:Addr}(I:Inv X pins σ H s)(hb:s.heap.objs.size<=b)(hn:H' b=none):lE X pins H' b:=by
 refine ⟨hn,E9 (Cj I.lt hb),I.zK hb,.inr (CP I.sz hb),λx c e z =>?_,λp hp z =>?_⟩
 ·obtain ⟨v,q⟩:=I.cell x c e
  exact absurd (Cj q.lt (by rw[z];exact hb)) (C0 _)
 ·exact absurd (Cj (B2 (I.pin p hp).1) (by rw[z];exact hb)) (C0 _)
structure Turn (P:Ca)(w:CJ)(K:BP)(tg:Expr)(J:It)(fp:List Addr)(it:Addr)(tn:Nat->Heap->Prop):Prop where
 mem:it∈fp
 obj:∀i h,tn i h->∀b∈fp,∃o,h.get? b=some o/\∀v,o.data ≠ .cell v
 keep:∀i h h',tn i h->(∀b∈fp,∀o,h.get? b=some o->h'.get? b=some o)->tn i h'
 item:∀(X:Cx),X.prog=P->X.w=w->X.K=K->X.calm=true->∀(i:Nat) (pins:List (Addr×Obj)) (s:BQ) (σ:St) (H:Hp) (E:BM->BQ->Prop),Inv X pins σ H s->(∀b∈fp,lE X pins H b)->tn i s.heap->J.go i H →
  Ci (Cs P w) X.A (pyNext (.ref it)) (λr s1=>∃u,r=some u ∧
   Ci (Cs P w) X.A (letOwnedTupleGo tg (.ref it) u) (λ_ s2=>∃x H',Inv X pins σ H' s2/\RelV x u/\J.yld i H x H'/\tn (i+1) s2.heap/\∀b∈fp,H' b=none) E s1) E s
 done:∀(X:Cx),X.prog=P->X.w=w->X.K=K->X.calm=true->∀(i:Nat) (pins:List (Addr×Obj)) (s:BQ) (σ:St) (H:Hp) (E:BM->BQ->Prop),Inv X pins σ H s->(∀b∈fp,lE X pins H b)->tn i s.heap->J.stop i H →
  Ci (Cs P w) X.A (pyNext (.ref it)) (λr s1=>r=none/\Inv X pins σ H s1) E s
 self:∀(A:Dd) (i:Nat) (s:BQ) (Q:BM->BQ->Prop) (E:BM->BQ->Prop),tn i s.heap->Q (.ref it) s->Ci (Cs P w) A (pyIter (.ref it)) Q E s
abbrev TI:=St->Hp->(It->Hp->Prop)->Prop
def PIE (X:Cx)(pins:List (Addr×Obj))(σ:St)(tg:Expr)(R:It->Hp->Prop)(itv:BM)(s2:BQ):Prop :=
 ∃(it:Addr) (fp:List Addr) (tn:Nat->Heap->Prop) (J:It) (H':Hp),itv = .ref it/\Inv X pins σ H' s2/\Turn X.prog X.w X.K tg J fp it tn/\tn 0 s2.heap/\(∀b∈fp,lE X pins H' b)/\R J H'
def PI (X:Cx)(tg iter:Expr)(wi:TI):Prop :=
 ∀(pins:List (Addr×Obj)) (s:BQ) (σ:St) (H:Hp) (R:It->Hp->Prop),Inv X pins σ H s->wi σ H R →
  Ci (Cs X.prog X.w) X.A (eval iter X.env) (λv s1=>Ci (Cs X.prog X.w) X.A (pyIter v) (PIE X pins σ tg R) X.xe s1) X.xe s
theorem vI {M:Model}{A:Dd}{E:BM->BQ->Prop}{s:BQ}{tg:Expr}{it:Addr}{u:BM}{o:Obj}{n:String}{vs:Array BM}{Q:Unit->BQ->Prop}(ho:s.heap.get? it=some o)(hc:o.cls = .type n)(hd:o.data = .fields vs)
    (hn:["enumerate", "zip", "dict_itemiterator", "dict_reverseitemiterator", "odict_iterator", "itertools.zip_longest", "itertools.pairwise"].contains n=false) (hQ:Q () s):Ci M A (letOwnedTupleGo tg (.ref it) u) Q E s:=by
  unfold letOwnedTupleGo
  cases tg <;> first
    | exact BN hQ
    | (cases u <;> first
        | exact BN hQ
        | (refine BJ (HJ ho ?_)
           rw[hc,hd]
           show Ci M A (if (["enumerate", "zip", "dict_itemiterator", "dict_reverseitemiterator", "odict_iterator", "itertools.zip_longest", "itertools.pairwise"].contains n && vs[0]? == some (Gw _))=true then _ else _) Q E s
           rw[if_neg (by intro h;rw[hn,Hs] at h;cases h)]
           exact BN hQ))
def Itl (K:BP)(a:Addr):It :=
 ⟨λi H=>∃xs x,SqL K H a xs/\xs[i]? = some x,λi H x H'=>H'=H/\∀xs,SqL K H a xs->xs[i]? = some x,λi H=>∃xs,SqL K H a xs/\xs.length<=i⟩
def Itt (K:BP)(a:Addr):It :=
 ⟨λi H=>∃xs x,SqT K H a xs/\xs[i]? = some x,λi H x H'=>H'=H/\∀xs,SqT K H a xs->xs[i]? = some x,λi H=>∃xs,SqT K H a xs/\xs.length<=i⟩
def Itr (lo:Int)(n:Nat):It:=⟨λi _=>i<n,λi H x H'=>H'=H/\x = .int (lo+i),λi _=>n<=i⟩
theorem ma {P:Ca}{w:CJ}{K:BP}{tg:Expr}(a it:Addr):Turn P w K tg (Itl K a) [it] it (λi h=>h.IsListIter it a i) where
 mem:=by simp
 obj:=λi h st b hb=>by
  have e:b=it:=by simpa using hb
  subst e
  obtain ⟨o,e,c,d⟩:=st
  exact ⟨o,e,λv z=>by rw[d] at z;cases z⟩
 keep:=λi h h' st k=>st.at λo e=>k it (by simp) o e
 item:=by
  intro X hP hw hK hc i pins s σ H E I hf st hg
  subst hP hw hK
  obtain ⟨xs,x,hq,hx⟩:=hg
  obtain ⟨its,rv,p,hz⟩:=I.list hq
  obtain ⟨u,hu,ru⟩:=rv.get hx
  obtain ⟨f0,f1,f2,f3,f4,f5⟩:=hf it (by simp)
  refine wpAny_pyNext_list_item st p.isList (x:=u) (by simpa using hu) λh' st' sb =>?_
  have I1:Inv X pins σ H { s with heap:=h' }:=I.turned (t':=s.toks) (λb o hb e=>(sb.2 b hb).trans e) f0 f1 f3 f4 f5
  obtain ⟨o,e,c,d⟩:=id st'
  exact ⟨u,rfl,vI (s:={ s with heap:=h' }) e c d (by decide) ⟨x,H,I1,ru,⟨rfl,λys hy=>by rw[I.vF hy hq];exact hx⟩,st',λb hb=>(hf b hb).1⟩⟩
 done:=by
  intro X hP hw hK hc i pins s σ H E I hf st hg
  subst hP hw hK
  obtain ⟨xs,hq,hx⟩:=hg
  obtain ⟨its,rv,p,hz⟩:=I.list hq
  obtain ⟨f0,f1,f2,f3,f4,f5⟩:=hf it (by simp)
  have hl:=rv.length
  exact wpAny_pyNext_list_end (I.ok.hd hc) st p.isList (by simp;lia) λh' eb=>⟨rfl,I.turned (t':=s.toks) (λb o hb e=>eb b o hb e) f0 f1 f3 f4 f5⟩
 self:=λ_ _ _ _ _ st h=>wpAny_pyIter_listiter st h
theorem jR {P:Ca}{w:CJ}{K:BP}{tg:Expr}(a it:Addr):Turn P w K tg (Itt K a) [it] it (λi h=>h.IsTupleIter it a i) where
 mem:=by simp
 obj:=λi h st b hb=>by
  have e:b=it:=by simpa using hb
  subst e
  obtain ⟨o,e,c,d⟩:=st
  exact ⟨o,e,λv z=>by rw[d] at z;cases z⟩
 keep:=λi h h' st k=>st.at λo e=>k it (by simp) o e
 item:=by
  intro X hP hw hK hc i pins s σ H E I hf st hg
  subst hP hw hK
  obtain ⟨xs,x,hq,hx⟩:=hg
  obtain ⟨its,rv,p,hz⟩:=I.tuple hq
  obtain ⟨u,hu,ru⟩:=rv.get hx
  obtain ⟨f0,f1,f2,f3,f4,f5⟩:=hf it (by simp)
  refine wpAny_pyNext_tuple_item st (show s.heap.IsTuple a its.toArray from p) (x:=u) (by simpa using hu) λh' st' sb =>?_
  have I1:Inv X pins σ H { s with heap:=h' }:=I.turned (t':=s.toks) (λb o hb e=>(sb.2 b hb).trans e) f0 f1 f3 f4 f5
  obtain ⟨o,e,c,d⟩:=id st'
  exact ⟨u,rfl,vI (s:={ s with heap:=h' }) e c d (by decide) ⟨x,H,I1,ru,⟨rfl,λys hy=>by rw[I.lY hy hq];exact hx⟩,st',λb hb=>(hf b hb).1⟩⟩
 done:=by
  intro X hP hw hK hc i pins s σ H E I hf st hg
  subst hP hw hK
  obtain ⟨xs,hq,hx⟩:=hg
  obtain ⟨its,rv,p,hz⟩:=I.tuple hq
  obtain ⟨f0,f1,f2,f3,f4,f5⟩:=hf it (by simp)
  have hl:=rv.length
  exact wpAny_pyNext_tuple_end (I.ok.hd hc) st (show s.heap.IsTuple a its.toArray from p) (by simp;lia) λh' eb=>⟨rfl,I.turned (t':=s.toks) (λb o hb e=>eb b o hb e) f0 f1 f3 f4 f5⟩
 self:=λ_ _ _ _ _ st h=>wpAny_pyIter_tupleiter st h
theorem qS {P:Ca}{w:CJ}{K:BP}{tg:Expr}(it:Addr)(lo:Int)(n:Nat):Turn P w K tg (Itr lo n) [it] it (λi h=>IsRangeIter h it (lo+(i:Nat)*1) ((n:Int)-(i:Nat)) 1) where
 mem:=by simp
 obj:=λi h st b hb=>by
  have e:b=it:=by simpa using hb
  subst e
  exact ⟨_,st,λv z=>by
   have z':Data.fields _=Data.cell v:=z
   cases z'⟩
 keep:=λi h h' st k=>k it (by simp) _ st
 item:=by
  intro X hP hw hK hc i pins s σ H E I hf st hg
  subst hP hw hK
  obtain ⟨f0,f1,f2,f3,f4,f5⟩:=hf it (by simp)
  have W:=Walks.range (prog:=X.prog) (w:=X.w) (I.ok.hd hc) it lo 1 n
  refine W.item i s _ _ hg st λv h' tk hv st' kk =>?_
  obtain ⟨t,rfl⟩:=hv
  have I1:Inv X pins σ H { s with heap:=h',toks:=tk }:=I.turned (λb o hb e=>kk b o (by simpa using hb) e) f0 f1 f3 f4 f5
  refine ⟨_,rfl,vI (s:={ s with heap:=h',toks:=tk }) (n := "range_iterator") st' rfl rfl (by decide) ⟨.int (lo+i),H,I1,⟨t,?_⟩,⟨rfl,rfl⟩,st',λb hb=>(hf b hb).1⟩⟩
  rw[Int.mul_one]
 done:=by
  intro X hP hw hK hc i pins s σ H E I hf st hg
  subst hP hw hK
  obtain ⟨f0,f1,f2,f3,f4,f5⟩:=hf it (by simp)
  exact wpAny_pyNext_range_end (I.ok.hd hc) st (by have:n<=i:=hg;lia) λh' eb=>⟨rfl,I.turned (t':=s.toks) (λb o hb e=>eb b o hb e) f0 f1 f3 f4 f5⟩
 self:=λ_ _ _ _ _ st h=>wpAny_pyIter_rangeiter st h
open PySem PySem.Spec PyProof.Rows
section
variable  {X:Cx}{tg:Expr}
def A2 (K:BP)(tl:TE):TI:=λσ H R=>tl σ H λx H1=>∃a,x = .ref a/\(∃xs,SqL K H1 a xs)/\R (Itl K a) H1
def iTup (K:BP)(tl:TE):TI:=λσ H R=>tl σ H λx H1=>∃a,x = .ref a/\(∃xs,SqT K H1 a xs)/\R (Itt K a) H1
theorem bO {l:Expr}{tl:TE}(hl:PE X l tl):PI X tg l (A2 X.K tl):=by
 intro pins s σ H R I h
 refine thn (hl pins s σ H _ I h) λv s1 ⟨x,H1,I1,r1,q1⟩ =>?_
 obtain ⟨a,e,⟨xs,hq⟩,q⟩:=q1
 subst e
 cases r1
 obtain ⟨its,rv,p,hz⟩:=I1.list hq
 refine E8 p.isList ?_
 refine ⟨s1.heap.objs.size,[s1.heap.objs.size],_,_,H1,rfl,I1.kept (t':=s1.toks) λb o e=>BL _ e,ma a _,⟨_,BZ _ rfl,rfl,rfl⟩,λb hb =>?_,q⟩
 have e:b=s1.heap.objs.size:=by simpa using hb
 subst e
 exact I1.xR (BS _) (I1.hok.fresh (BS _))
theorem eR {l:Expr}{tl:TE}(hl:PE X l tl):PI X tg l (iTup X.K tl):=by
 intro pins s σ H R I h
 refine thn (hl pins s σ H _ I h) λv s1 ⟨x,H1,I1,r1,q1⟩ =>?_
 obtain ⟨a,e,⟨xs,hq⟩,q⟩:=q1
 subst e
 cases r1
 obtain ⟨its,rv,p,hz⟩:=I1.tuple hq
 refine EW (show s1.heap.IsTuple a its.toArray from p) ?_
 refine ⟨s1.heap.objs.size,[s1.heap.objs.size],_,_,H1,rfl,I1.kept (t':=s1.toks) λb o e=>BL _ e,jR a _,⟨_,BZ _ rfl,rfl,rfl⟩,λb hb =>?_,q⟩
 have e:b=s1.heap.objs.size:=by simpa using hb
 subst e
 exact I1.xR (BS _) (I1.hok.fresh (BS _))
theorem o3 {pins:List (Addr×Obj)}{σ:St}{H:Hp}{s:BQ}{R:It->Hp->Prop}{E:BM->BQ->Prop}{lo hi:Int}{t u v:Tok}{tk:Nat}(I:Inv X pins σ H s)(h1 : -(2 ^ 62)<=lo)(h2:lo<2 ^ 62)(h3 : -(2 ^ 62)<=hi)(h4:hi<2 ^ 62)
  (q:R (Itr lo (hi-lo).toNat) H):Ci (Cs X.prog X.w) X.A (pyIter (.ref s.heap.objs.size)) (PIE X pins σ tg R) E { s with heap:=s.heap.push { cls :=.type "range",data :=.fields #[.int lo t,.int hi u,.int 1 v] },toks:=tk }:=by
 refine wpAny_pyIter_range (IsRange.new ..) (small_one h1 h2 h3 h4) ?_
 have I1:Inv X pins σ H { s with heap:=s.heap.push { cls :=.type "range",data :=.fields #[.int lo t,.int hi u,.int 1 v] },toks:=tk }:=I.kept λb o e=>BL _ e
 refine ⟨(s.heap.push { cls :=.type "range",data :=.fields #[.int lo t,.int hi u,.int 1 v] }).objs.size,[(s.heap.push { cls :=.type "range",data :=.fields #[.int lo t,.int hi u,.int 1 v] }).objs.size],_,_,H,rfl,
  I1.kept (t':=tk) λb o e=>BL _ e,qS _ lo (hi-lo).toNat,?_,λb hb =>?_,q⟩
 ·have e1:lo+((0:Nat):Int)*1=lo:=by simp
  have e2:(((hi-lo).toNat:Nat):Int)-((0:Nat):Int)=Builtin.Range.rangeSize lo hi 1:=by rw[Jz];split <;> lia
  show IsRangeIter _ _ (lo+((0:Nat):Int)*1) ((((hi-lo).toNat:Nat):Int)-((0:Nat):Int)) 1
  rw[e1,e2]
  exact BZ _ rfl
 ·have e:b=(s.heap.push { cls :=.type "range",data :=.fields #[.int lo t,.int hi u,.int 1 v] }).objs.size:=by simpa using hb
  subst e
  exact I1.xR (BS _) (I1.hok.fresh (BS _))
def A3 (ta:TA):TI:=λσ H R=>ta σ H λvs H1=>∃j:Int,vs=[.int j] /\ -(2 ^ 62)<=j/\j<2 ^ 62/\R (Itr 0 j.toNat) H1
def A4 (ta:TA):TI:=λσ H R=>ta σ H λvs H1=>∃i j:Int,vs=[.int i,.int j]/\(-(2 ^ 62)<=i/\i<2 ^ 62 /\ -(2 ^ 62)<=j/\j<2 ^ 62)/\R (Itr i (j-i).toNat) H1
theorem bJ {a:Expr}{ta:TA}{p pos:Pos}(hg:Gl X "range")(hm:X.mg "range" = none)(ha:PA X [a] ta)(hs:CN [a] X.env=[(false,eval a X.env)]:=by rfl):PI X tg (.Call (.Name "range" p) [a] [] pos) (A3 ta):=by
 intro pins s σ H R I h
 refine Call_ (dH I hg hm boot_range (DA (thn (ha pos pins s σ H _ I h) λus s1 ⟨vs,H1,I1,r1,q1⟩ =>?_) hs rfl))
 obtain ⟨j,e,q1,q2,q⟩:=q1
 subst e
 cases r1 with
 | cons r rr =>
  cases rr
  obtain ⟨t,rfl⟩:=r
  exact call_range_1 (o3 I1 (by lia) (by lia) q1 q2 (by simpa using q))
theorem gk {a b:Expr}{ta:TA}{p pos:Pos}(hg:Gl X "range")(hm:X.mg "range" = none)(ha:PA X [a,b] ta)(hs:CN [a,b] X.env=[(false,eval a X.env),(false,eval b X.env)]:=by rfl)(hs2:CN [b] X.env=[(false,eval b X.env)]:=by rfl) :
  PI X tg (.Call (.Name "range" p) [a,b] [] pos) (A4 ta):=by
 intro pins s σ H R I h
 refine Call_ (dH I hg hm boot_range (DA (thn (ha pos pins s σ H _ I h) λus s1 ⟨vs,H1,I1,r1,q1⟩ =>?_) (by rw[hs,hs2]) (by rw[hs2];rfl)))
 obtain ⟨i,j,e,⟨q1,q2,q3,q4⟩,q⟩:=q1
 subst e
 cases r1 with
 | cons r rr =>
  cases rr with
  | cons r' rr =>
   cases rr
   obtain ⟨t,rfl⟩:=r
   obtain ⟨t',rfl⟩:=r'
   exact call_range_2 (o3 I1 q1 q2 q3 q4 q)
def tFor (wi:TI)(g:TG)(tb:TS):TS:=λD σ H=>wi σ H λJ H1=>∃W:Nat->Nat->St->Hp->Prop,(∃m,W 0 m σ H1)/\∀i m σ H,W i m σ H →
 (J.stop i H/\D.nx σ H)\/(J.go i H/\∃N:St->Hp->Prop,(∀σ' H',N σ' H'->∃m',m'<m/\W (i+1) m' σ' H')/\∀x H',J.yld i H x H'->g x σ H' λσ2 H2=>tb { D with nx:=N,ct:=N,bk:=D.nx } σ2 H2)
def gK (fp:List Addr)(h:Heap):List (Addr×Obj):=fp.filterMap λb=>(h.get? b).map λo=>(b,o)
theorem dI {fp:List Addr}{h:Heap}{b:Addr}{o:Obj}(hb:b∈fp)(e:h.get? b=some o):(b,o)∈gK fp h:=Fs.mpr ⟨b,hb,by rw[e];rfl⟩
theorem me {fp:List Addr}{h:Heap}{p:Addr×Obj}(hp:p∈gK fp h):p.1∈fp/\h.get? p.1=some p.2:=by
 obtain ⟨b,hb,e⟩:=Fs.mp hp
 cases q:h.get? b with
 | none=>rw[q] at e;cases e
 | some o =>
  rw[q] at e
  have e':(b,o)=p:=Cw e
  subst e'
  exact ⟨hb,q⟩
theorem Inv.pinned {pins:List (Addr×Obj)}{σ:St}{H:Hp}{s:BQ}{fp:List Addr}(I:Inv X pins σ H s)(hf:∀b∈fp,lE X pins H b)(ho:∀b∈fp,∃o,s.heap.get? b=some o/\∀v,o.data ≠ .cell v):Inv X (pins++gK fp s.heap) σ H s :=
 I.hX λp hp=>(B0.mp hp).elim (λz=>I.pin p (Cu _ z)) λz=>by
  obtain ⟨hb,e⟩:=me z
  obtain ⟨f0,f1,f2,_⟩:=hf p.1 hb
  obtain ⟨o,e',d⟩:=ho p.1 hb
  rw[e] at e';cases e'
  exact ⟨e,f0,f1,f2,d⟩
theorem Inv.eA {pins pl:List (Addr×Obj)}{σ:St}{H:Hp}{s:BQ}(I:Inv X (pins++pl) σ H s):Inv X pins σ H s:=I.hX λp hp=>I.pin p (Cu _ (CH _ hp))
theorem bP {iter:Expr}{body:List Stmt}{wi:TI}{g:TG}{tb:TS}{pos:Pos}(hp:PassesOwn (Cs X.prog X.w) X.A X.env X.xe)(hc:X.calm=true)(hi:PI X tg iter wi)(hg:PG X tg g)(hb:PSs X body tb)
  (hs:∀x,foldedSetIterable iter X.env x=pure x:=by intro _;rfl):PS X (.For tg iter body [] pos) (tFor wi g tb):=by
 intro pins s σ H D I h
 refine wpAny_For (thn (hi pins s σ H _ I h) λv s1 h1=>thn h1 λitv s2 h2 =>?_) hs
 obtain ⟨it,fp,tn,J,H2,e,I2,T,st2,f2,W,⟨m0,w0⟩,turn⟩:=h2
 subst e
 have stat:∀{H':Hp},(∀b∈fp,H' b=none)->∀b∈fp,lE X pins H' b:=λhn b hb=>⟨hn b hb,(f2 b hb).2⟩
 refine codeAny_forLoop_any (λn s'=>∃i σ' H',Inv X pins σ' H' s'/\tn i s'.heap/\(∀b∈fp,H' b=none)/\W i n σ' H') ?_ m0 ⟨0,σ,H2,I2,st2,λb hb=>(f2 b hb).1,w0⟩
 rintro n s3 ⟨i,σ3,H3,I3,st3,fr3,w3⟩
 rcases turn i n σ3 H3 w3 with ⟨stop,qn⟩ | ⟨go,N,hN,step⟩
 ·refine E7 hp (thn (T.done X rfl rfl rfl hc i pins s3 σ3 H3 X.xe I3 (stat fr3) st3 stop) λr s4 ⟨hr,I4⟩ =>?_)
  subst hr
  exact Fz ⟨σ3,H3,I4,qn⟩
 ·refine E7 hp (thn (T.item X rfl rfl rfl hc i pins s3 σ3 H3 X.xe I3 (stat fr3) st3 go) λr s4 ⟨u,hr,h4⟩ =>?_)
  subst hr
  refine E7 hp (thn h4 λ_ s5 ⟨x,H5,I5,r5,y5,st5,fr5⟩ =>?_)
  have I5':=I5.pinned (stat fr5) (T.obj _ _ st5)
  refine E7 hp (thn (hg _ s5 σ3 H5 x u _ I5' r5 (step x H5 y5)) λ_ s6 ⟨σ6,H6,I6,q6⟩ =>?_)
  refine E7 hp (thn (hb _ s6 σ6 H6 _ I6 q6) λf s7 q7 =>?_)
  have again:∀{σ7:St} {H7:Hp},Inv X (pins++gK fp s5.heap) σ7 H7 s7->N σ7 H7->∃m,m<n/\∃i σ' H',Inv X pins σ' H' s7/\tn i s7.heap/\(∀b∈fp,H' b=none)/\W i m σ' H':=λ{σ7 H7} I7 n7=>by
   obtain ⟨m',hm,w7⟩:=hN σ7 H7 n7
   refine ⟨m',hm,i+1,σ7,H7,I7.eA,T.keep _ _ _ st5 λb hb o e=>(I7.pin (b,o) (Cu _ (Cu _ (dI hb e)))).1,λb hb =>?_,w7⟩
   obtain ⟨o,e,d⟩:=T.obj _ _ st5 b hb
   exact (I7.pin (b,o) (Cu _ (Cu _ (dI hb e)))).2.1
  cases f with
  | next=>obtain ⟨σ7,H7,I7,n7⟩:=q7;exact again I7 n7
  | cont=>obtain ⟨σ7,H7,I7,n7⟩:=q7;exact again I7 n7
  | brk=>obtain ⟨σ7,H7,I7,q7⟩:=q7;exact ⟨σ7,H7,I7.eA,q7⟩
  | ret v=>obtain ⟨x7,σ7,H7,I7,r7,q7⟩:=q7;exact ⟨x7,σ7,H7,I7.eA,r7,q7⟩
end
theorem dJ {K:BP}{a:Addr}{xs:List V}{g:TG}{tb:TS}{D:Ends}{σ:St}{H:Hp}(Pv:Nat->St->Hp->Prop)(h0:Pv 0 σ H)(hl:∀i σ H,i<=xs.length->Pv i σ H->SqL K H a xs)
  (hs:∀i x σ H,xs[i]? = some x->Pv i σ H->g x σ H λσ2 H2=>tb { D with nx:=Pv (i+1),ct:=Pv (i+1),bk:=D.nx } σ2 H2) (hd:∀σ H,Pv xs.length σ H->D.nx σ H) :
  ∃W:Nat->Nat->St->Hp->Prop,(∃m,W 0 m σ H)/\∀i m σ H,W i m σ H →
   ((Itl K a).stop i H/\D.nx σ H)\/((Itl K a).go i H/\∃N:St->Hp->Prop,(∀σ' H',N σ' H'->∃m',m'<m/\W (i+1) m' σ' H')/\∀x H',(Itl K a).yld i H x H'->g x σ H' λσ2 H2=>tb { D with nx:=N,ct:=N,bk:=D.nx } σ2 H2):=by
 refine ⟨λi m σ H=>m=xs.length-i/\i<=xs.length/\Pv i σ H,⟨xs.length,by simp,CT _,h0⟩,?_⟩
 rintro i m σ H ⟨rfl,hi,p⟩
 have q:=hl i σ H hi p
 by_cases hlt:i<xs.length
 ·refine .inr ⟨⟨xs,xs[i],q,by simp[hlt]⟩,Pv (i+1),λσ' H' p'=>⟨xs.length-(i+1),by lia,rfl,hlt,p'⟩,λx H' y =>?_⟩
  obtain ⟨e,y⟩:=y
  subst e
  exact hs i x σ _ (y xs q) p
 ·have e:i=xs.length:=by lia
  subst e
  exact .inl ⟨⟨xs,q,BS _⟩,hd σ H p⟩
theorem sq {K:BP}{a:Addr}{xs:List V}{g:TG}{tb:TS}{D:Ends}{σ:St}{H:Hp}(Pv:Nat->St->Hp->Prop)(h0:Pv 0 σ H)(hl:∀i σ H,i<=xs.length->Pv i σ H->SqT K H a xs)
  (hs:∀i x σ H,xs[i]? = some x->Pv i σ H->g x σ H λσ2 H2=>tb { D with nx:=Pv (i+1),ct:=Pv (i+1),bk:=D.nx } σ2 H2) (hd:∀σ H,Pv xs.length σ H->D.nx σ H) :
  ∃W:Nat->Nat->St->Hp->Prop,(∃m,W 0 m σ H)/\∀i m σ H,W i m σ H →
   ((Itt K a).stop i H/\D.nx σ H)\/((Itt K a).go i H/\∃N:St->Hp->Prop,(∀σ' H',N σ' H'->∃m',m'<m/\W (i+1) m' σ' H')/\∀x H',(Itt K a).yld i H x H'->g x σ H' λσ2 H2=>tb { D with nx:=N,ct:=N,bk:=D.nx } σ2 H2):=by
 refine ⟨λi m σ H=>m=xs.length-i/\i<=xs.length/\Pv i σ H,⟨xs.length,by simp,CT _,h0⟩,?_⟩
 rintro i m σ H ⟨rfl,hi,p⟩
 have q:=hl i σ H hi p
 by_cases hlt:i<xs.length
 ·refine .inr ⟨⟨xs,xs[i],q,by simp[hlt]⟩,Pv (i+1),λσ' H' p'=>⟨xs.length-(i+1),by lia,rfl,hlt,p'⟩,λx H' y =>?_⟩
  obtain ⟨e,y⟩:=y
  subst e
  exact hs i x σ _ (y xs q) p
 ·have e:i=xs.length:=by lia
  subst e
  exact .inl ⟨⟨xs,q,BS _⟩,hd σ H p⟩
theorem bK {lo:Int}{n:Nat}{g:TG}{tb:TS}{D:Ends}{σ:St}{H:Hp}(Pv:Nat->St->Hp->Prop)(h0:Pv 0 σ H)
  (hs:∀i σ H,i<n->Pv i σ H->g (.int (lo+i)) σ H λσ2 H2=>tb { D with nx:=Pv (i+1),ct:=Pv (i+1),bk:=D.nx } σ2 H2) (hd:∀σ H,Pv n σ H->D.nx σ H) :
  ∃W:Nat->Nat->St->Hp->Prop,(∃m,W 0 m σ H)/\∀i m σ H,W i m σ H →
   ((Itr lo n).stop i H/\D.nx σ H)\/((Itr lo n).go i H/\∃N:St->Hp->Prop,(∀σ' H',N σ' H'->∃m',m'<m/\W (i+1) m' σ' H')/\∀x H',(Itr lo n).yld i H x H'->g x σ H' λσ2 H2=>tb { D with nx:=N,ct:=N,bk:=D.nx } σ2 H2):=by
 refine ⟨λi m σ H=>m=n-i/\i<=n/\Pv i σ H,⟨n,by simp,CT _,h0⟩,?_⟩
 rintro i m σ H ⟨rfl,hi,p⟩
 by_cases hlt:i<n
 ·refine .inr ⟨hlt,Pv (i+1),λσ' H' p'=>⟨n-(i+1),by lia,rfl,hlt,p'⟩,λx H' y =>?_⟩
  obtain ⟨e,y⟩:=y
  subst e y
  exact hs i σ _ hlt p
 ·have e:i=n:=by lia
  subst e
  exact .inl ⟨BS _,hd σ H p⟩
theorem jS {c:TT}{tb:TS}{D:Ends}{σ:St}{H:Hp}(Pv:St->Hp->Prop)(μ:St->Hp->Nat)(h0:Pv σ H)
  (hs:∀σ H,Pv σ H->c σ H λb H1=>if b=true then tb { D with nx:=λσ' H'=>Pv σ' H' /\ μ σ' H'<μ σ H,ct:=λσ' H'=>Pv σ' H' /\ μ σ' H'<μ σ H,bk:=D.nx } σ H1 else D.nx σ H1)
  (mono:∀σ H Q Q',(∀b H1,Q b H1->Q' b H1)->c σ H Q->c σ H Q'):vH c tb D σ H:=by
 refine ⟨λm σ H=>m=μ σ H/\Pv σ H,⟨_,rfl,h0⟩,?_⟩
 rintro m σ H ⟨rfl,p⟩
 refine mono σ H _ _ (λb H1 q =>?_) (hs σ H p)
 cases b with
 | true=>exact ⟨_,λσ' H' ⟨p',l⟩=>⟨_,l,rfl,p'⟩,q⟩
 | false=>exact q
open PySem PySem.Spec PyProof.Rows
abbrev R2:=V->V->Hp->VK->Prop
def OpR (X:Cx)(f:BM->BM->Sem BM)(r:R2):Prop :=
 ∀(pins:List (Addr×Obj)) (s:BQ) (σ:St) (H:Hp) (x y:V) (v u:BM) (Q:VK),Inv X pins σ H s->RelV x v->RelV y u->r x y H Q →
  Ci (Cs X.prog X.w) X.A (f v u) (EP X pins σ Q) X.xe s
def UnR (X:Cx)(f:BM->Sem BM)(r:V->Hp->VK->Prop):Prop :=
 ∀(pins:List (Addr×Obj)) (s:BQ) (σ:St) (H:Hp) (x:V) (v:BM) (Q:VK),Inv X pins σ H s->RelV x v->r x H Q →
  Ci (Cs X.prog X.w) X.A (f v) (EP X pins σ Q) X.xe s
def bC (X:Cx)(f:BM)(r:List V->Hp->VK->Prop):Prop :=
 ∀(pins:List (Addr×Obj)) (s:BQ) (σ:St) (H:Hp) (xs:List V) (us:List BM) (Q:VK),Inv X pins σ H s->Vals xs us->r xs H Q →
  Ci (Cs X.prog X.w) X.A (call f us) (EP X pins σ Q) X.xe s
def TruR (X:Cx)(r:V->Hp->(Bool->Hp->Prop)->Prop):Prop :=
 ∀(pins:List (Addr×Obj)) (s:BQ) (σ:St) (H:Hp) (x:V) (v:BM) (Q:Bool->Hp->Prop),Inv X pins σ H s->RelV x v->r x H Q →
  Ci (Cs X.prog X.w) X.A (truthy v) (TP X pins σ Q) X.xe s
def tOp (r:R2)(ta tb:TE):TE:=λσ H Q=>ta σ H λx H1=>tb σ H1 λy H2=>r x y H2 Q
def tUn (r:V->Hp->VK->Prop)(ta:TE):TE:=λσ H Q=>ta σ H λx H1=>r x H1 Q
def rI (C:Int->Int->Prop)(g:Int->Int->V):R2:=λx y H Q=>∃i j,x = .int i/\y = .int j/\C i j/\Q (g i j) H
def rI0 (g:Int->Int->V):R2:=λx y H Q=>∃i j,x = .int i/\y = .int j/\Q (g i j) H
def rU (g:Int->V):V->Hp->VK->Prop:=λx H Q=>∃i,x = .int i/\Q (g i) H
section
variable  {X:Cx}{a b c:Expr}{ta tb tc:TE}{pos:Pos}
theorem zQ (ha:PE X a ta)(hb:PE X b tb){pins:List (Addr×Obj)}{s:BQ}{σ:St}{H:Hp}{R:V->V->Hp->Prop}(I:Inv X pins σ H s)
  (h:ta σ H λx H1=>tb σ H1 λy H2=>R x y H2) {Q:BM->BQ->Prop} {f:BM->BM->Sem BM}
  (hf:∀v u s2 x y H2,Inv X pins σ H2 s2->RelV x v->RelV y u->R x y H2->Ci (Cs X.prog X.w) X.A (f v u) Q X.xe s2) :
  Ci (Cs X.prog X.w) X.A (eval a X.env) (λv s₁=>Ci (Cs X.prog X.w) X.A (eval b X.env) (λu s₂=>Ci (Cs X.prog X.w) X.A (f v u) Q X.xe s₂) X.xe s₁) X.xe s:=by
 refine thn (ha pins s σ H _ I h) λv s1 ⟨x,H1,I1,r1,q1⟩ =>?_
 refine thn (hb pins s1 σ H1 _ I1 q1) λu s2 ⟨y,H2,I2,r2,q2⟩ =>?_
 exact hf v u s2 x y H2 I2 r1 r2 q2
theorem aQ {op:Operator}{r:R2}(ho:OpR X (binaryOp op) r)(ha:PE X a ta)(hb:PE X b tb):PE X (.BinOp a op b pos) (tOp r ta tb):=by
 intro pins s σ H Q I h
 exact wpAny_BinOp (zQ ha hb I h λv u s2 x y H2 I2 rx ry q=>ho pins s2 σ H2 x y v u Q I2 rx ry q)
theorem A5 {op:UnaryOp}{r:V->Hp->VK->Prop}(ho:UnR X (unaryOp op) r)(ha:PE X a ta):PE X (.UnaryOp op a pos) (tUn r ta):=by
 intro pins s σ H Q I h
 exact UnaryOp_ (thn (ha pins s σ H _ I h) λv s1 ⟨x,H1,I1,r1,q1⟩=>ho pins s1 σ H1 x v Q I1 r1 q1)
theorem opI {f:BM->BM->Sem BM}{C:Int->Int->Prop}{g:Int->Int->Int}
  (rule:∀(i j:Int) (t u:Tok) (s:BQ) (Q:BM->BQ->Prop) (E:BM->BQ->Prop),C i j->Q (.int (g i j) s.toks) { s with toks:=s.toks+1 }->Ci (Cs X.prog X.w) X.A (f (.int i t) (.int j u)) Q E s) :
  OpR X f (rI C λi j =>.int (g i j)):=by
 intro pins s σ H x y v u Q I rx ry h
 obtain ⟨i,j,rfl,rfl,hc,q⟩:=h
 obtain ⟨t,rfl⟩:=rx
 obtain ⟨t',rfl⟩:=ry
 exact rule i j t t' s _ _ hc ⟨.int (g i j),H,I.tok _,⟨_,rfl⟩,q⟩
theorem A6 {f:BM->BM->Sem BM}{g:Int->Int->Int}
  (rule:∀(i j:Int) (t u:Tok) (s:BQ) (Q:BM->BQ->Prop) (E:BM->BQ->Prop),Q (.int (g i j) s.toks) { s with toks:=s.toks+1 }->Ci (Cs X.prog X.w) X.A (f (.int i t) (.int j u)) Q E s) :
  OpR X f (rI0 λi j =>.int (g i j)):=by
 intro pins s σ H x y v u Q I rx ry h
 obtain ⟨i,j,rfl,rfl,q⟩:=h
 obtain ⟨t,rfl⟩:=rx
 obtain ⟨t',rfl⟩:=ry
 exact rule i j t t' s _ _ ⟨.int (g i j),H,I.tok _,⟨_,rfl⟩,q⟩
theorem xS {f:BM->BM->Sem BM}{g:Int->Int->Bool}
  (rule:∀(i j:Int) (t u:Tok) (s:BQ) (Q:BM->BQ->Prop) (E:BM->BQ->Prop),Q (.bool (g i j)) s->Ci (Cs X.prog X.w) X.A (f (.int i t) (.int j u)) Q E s) :
  OpR X f (rI0 λi j =>.bl (g i j)):=by
 intro pins s σ H x y v u Q I rx ry h
 obtain ⟨i,j,rfl,rfl,q⟩:=h
 obtain ⟨t,rfl⟩:=rx
 obtain ⟨t',rfl⟩:=ry
 exact rule i j t t' s _ _ ⟨.bl (g i j),H,I,rfl,q⟩
def CDiv (i j:Int):Prop:=0<j/\j<1073741824
def CPow (i j:Int):Prop:=0<=j/\j<=1000000/\i.natAbs<2 ^ 64
def zR (i j:Int):Prop:=(-(2 ^ 64)<i/\i<2 ^ 64)\/(-(2 ^ 64)<j/\j<2 ^ 64)
theorem zR.ok {i j:Int}(h:zR i j):IntMulOk i j:=by
 rcases h with ⟨h1,h2⟩ | ⟨h1,h2⟩
 ·exact .of_left (intBits_le_64 h1 h2)
 ·exact .of_right (intBits_le_64 h1 h2)
theorem cD:OpR X (binaryOp .Add) (rI0 λi j =>.int (i+j)):=A6 λ_ _ _ _ _ _ _ q=>add_int q
theorem cV:OpR X (binaryOp .Sub) (rI0 λi j =>.int (i-j)):=A6 λ_ _ _ _ _ _ _ q=>sub_int q
theorem eU:OpR X (binaryOp .Mult) (rI zR λi j =>.int (i*j)):=opI λ_ _ _ _ _ _ _ hc q=>mul_int q hc.ok
theorem xT:OpR X (binaryOp .FloorDiv) (rI CDiv λi j =>.int (i/j)):=opI λi j _ _ _ _ _ hc q=>by
 have h1:(0:Int)<j:=hc.1
 have h2:j<1073741824:=hc.2
 exact floordiv_int (by lia) (by rw[Hh i (by lia)];exact q) (.inl (PyProof.noPylong_small (by lia)))
theorem eV:OpR X (binaryOp .Mod) (rI (λ_ j=>0<j) λi j =>.int (i%j)):=opI λi j _ _ _ _ _ hc q=>by
 have h1:(0:Int)<j:=hc
 exact mod_int' (by lia) (by rw[Hi i (by lia)];exact q)
theorem vJ:OpR X (binaryOp .Pow) (rI CPow λi j =>.int (i ^ j.toNat)):=opI λ_ _ _ _ _ _ _ hc q=>pow_int_small hc.1 hc.2.1 hc.2.2 q
theorem unI {f:BM->Sem BM}{g:Int->Int}
  (rule:∀(i:Int) (t:Tok) (s:BQ) (Q:BM->BQ->Prop) (E:BM->BQ->Prop),Q (.int (g i) s.toks) { s with toks:=s.toks+1 }->Ci (Cs X.prog X.w) X.A (f (.int i t)) Q E s) :
  UnR X f (rU λi =>.int (g i)):=by
 intro pins s σ H x v Q I rx h
 obtain ⟨i,rfl,q⟩:=h
 obtain ⟨t,rfl⟩:=rx
 exact rule i t s _ _ ⟨.int (g i),H,I.tok _,⟨_,rfl⟩,q⟩
theorem zS:UnR X (unaryOp .USub) (rU λi =>.int (-i)):=unI λ_ _ _ _ _ q=>neg_int q
end
def A7:V->V->Bool
 | .non,.non=>true | .non,.int _=>true | .int _,.non=>true | .non,.bl _=>true | .bl _,.non=>true | .non,.str _=>true | .str _,.non=>true
 | .int _,.int _=>true | .bl _,.bl _=>true | .str _,.str _=>true | .byt _,.byt _=>true
 | .int _,.str _=>true | .str _,.int _=>true | .bl _,.str _=>true | .str _,.bl _=>true
 | _,_=>false
def rEq:R2:=λx y H Q=>A7 x y=true/\Q (.bl (decide (x=y))) H
def rNe:R2:=λx y H Q=>A7 x y=true/\Q (.bl (!decide (x=y))) H
theorem sr {i j:Int}:decide (V.int i=V.int j)=(i == j):=by
 rw[EK]
 simp
theorem vK {i j:Bool}:decide (V.bl i=V.bl j)=(i == j):=by
 rw[EK]
 simp
theorem su {i j:Str}:decide (V.str i=V.str j)=(i == j):=by
 rw[EK]
 simp
theorem sv {i j:Array UInt8}:decide (V.byt i=V.byt j)=(i.toList == j.toList):=by
 rw[EK]
 cases i
 cases j
 simp
section
variable  {X:Cx}{a b c:Expr}{ta tb tc:TE}{pos:Pos}
theorem aX {pins:List (Addr×Obj)}{σ:St}{H:Hp}{s:BQ}{Q:VK}{k k':Bool}(I:Inv X pins σ H s)(q:Q (.bl k) H)(e:k=k'):EP X pins σ Q (.bool k') s:=by
 subst e
 exact ⟨.bl k,H,I,rfl,q⟩
theorem du:OpR X (DW .Eq) rEq:=by
 intro pins s σ H x y v u Q I rx ry h
 obtain ⟨hs,q⟩:=h
 cases x with
 | non =>
  cases rx
  cases y with
  | non=>cases ry;exact PySem.EqNone.eq_none_none (aX I q (by simp))
  | bl j=>cases ry;exact PySem.EqNone.eq_none_bool (aX I q (by simp))
  | int j=>obtain ⟨t',rfl⟩:=ry;exact PySem.EqNone.eq_none_int (aX I q (by simp))
  | str j=>obtain ⟨t',rfl⟩:=ry;exact PySem.EqNone.eq_none_str (aX I q (by simp))
  | _=>exact absurd (show false=true from hs) B6
 | bl i =>
  cases rx
  cases y with
  | non=>cases ry;exact PySem.EqNone.eq_bool_none (aX I q (by simp))
  | bl j=>cases ry;exact eq_bool (aX I q vK)
  | str j=>obtain ⟨t',rfl⟩:=ry;exact Ky (aX I q (by simp))
  | _=>exact absurd (show false=true from hs) B6
 | int i =>
  obtain ⟨t,rfl⟩:=rx
  cases y with
  | non=>cases ry;exact PySem.EqNone.eq_int_none (aX I q (by simp))
  | int j=>obtain ⟨t',rfl⟩:=ry;exact eq_int (aX I q sr)
  | str j=>obtain ⟨t',rfl⟩:=ry;exact KH (aX I q (by simp))
  | _=>exact absurd (show false=true from hs) B6
 | str i =>
  obtain ⟨t,rfl⟩:=rx
  cases y with
  | non=>cases ry;exact PySem.EqNone.eq_str_none (aX I q (by simp))
  | bl j=>cases ry;exact Kz (aX I q (by simp))
  | int j=>obtain ⟨t',rfl⟩:=ry;exact KI (aX I q (by simp))
  | str j=>obtain ⟨t',rfl⟩:=ry;exact eq_str (aX I q su)
  | _=>exact absurd (show false=true from hs) B6
 | byt i =>
  obtain ⟨t,rfl⟩:=rx
  cases y with
  | byt j=>obtain ⟨t',rfl⟩:=ry;exact PySem.W.eq_bytes (aX I q sv)
  | _=>exact absurd (show false=true from hs) B6
 | _=>cases y <;> exact absurd (show false=true from hs) B6
theorem o4:OpR X (DW .NotEq) rNe:=by
 intro pins s σ H x y v u Q I rx ry h
 obtain ⟨hs,q⟩:=h
 cases x with
 | non =>
  cases rx
  cases y with
  | non=>cases ry;exact PySem.EqNone.ne_none_none (aX I q (by simp))
  | bl j=>cases ry;exact PySem.EqNone.ne_none_bool (aX I q (by simp))
  | int j=>obtain ⟨t',rfl⟩:=ry;exact PySem.EqNone.ne_none_int (aX I q (by simp))
  | str j=>obtain ⟨t',rfl⟩:=ry;exact PySem.EqNone.ne_none_str (aX I q (by simp))
  | _=>exact absurd (show false=true from hs) B6
 | bl i =>
  cases rx
  cases y with
  | non=>cases ry;exact PySem.EqNone.ne_bool_none (aX I q (by simp))
  | bl j=>cases ry;exact ne_bool (aX I q (congrArg not vK))
  | str j=>obtain ⟨t',rfl⟩:=ry;exact KA (aX I q (by simp))
  | _=>exact absurd (show false=true from hs) B6
 | int i =>
  obtain ⟨t,rfl⟩:=rx
  cases y with
  | non=>cases ry;exact PySem.EqNone.ne_int_none (aX I q (by simp))
  | int j=>obtain ⟨t',rfl⟩:=ry;exact ne_int (aX I q (congrArg not sr))
  | str j=>obtain ⟨t',rfl⟩:=ry;exact KJ (aX I q (by simp))
  | _=>exact absurd (show false=true from hs) B6
 | str i =>
  obtain ⟨t,rfl⟩:=rx
  cases y with
  | non=>cases ry;exact PySem.EqNone.ne_str_none (aX I q (by simp))
  | bl j=>cases ry;exact KC (aX I q (by simp))
  | int j=>obtain ⟨t',rfl⟩:=ry;exact KL (aX I q (by simp))
  | str j=>obtain ⟨t',rfl⟩:=ry;exact ne_str (aX I q (congrArg not su))
  | _=>exact absurd (show false=true from hs) B6
 | byt i =>
  obtain ⟨t,rfl⟩:=rx
  cases y with
  | byt j=>obtain ⟨t',rfl⟩:=ry;exact PySem.W.ne_bytes (aX I q (congrArg not sv))
  | _=>exact absurd (show false=true from hs) B6
 | _=>cases y <;> exact absurd (show false=true from hs) B6
theorem sC:OpR X (DW .Lt) (rI0 λi j =>.bl (decide (i<j))):=xS λ_ _ _ _ _ _ _ q=>lt_int q
theorem A8:OpR X (DW .LtE) (rI0 λi j =>.bl (decide (i<=j))):=xS λ_ _ _ _ _ _ _ q=>le_int q
theorem zi:OpR X (DW .Gt) (rI0 λi j =>.bl (decide (j<i))):=xS λ_ _ _ _ _ _ _ q=>gt_int q
theorem vL:OpR X (DW .GtE) (rI0 λi j =>.bl (decide (j<=i))):=xS λ_ _ _ _ _ _ _ q=>ge_int q
theorem zT:OpR X (DW .Is) (λx y H Q=>y = .non/\Q (.bl (decide (x = .non))) H):=by
 intro pins s σ H x y v u Q I rx ry h
 obtain ⟨rfl,q⟩:=h
 cases ry
 refine is_none_gen (aX I q ?_)
 cases x <;> first
  | (cases rx;rfl)
  | (obtain ⟨t,rfl⟩:=rx;rfl)
theorem sD:OpR X (DW .IsNot) (λx y H Q=>y = .non/\Q (.bl (!decide (x = .non))) H):=by
 intro pins s σ H x y v u Q I rx ry h
 obtain ⟨rfl,q⟩:=h
 cases ry
 refine isnot_none_gen (aX I q ?_)
 cases x <;> first
  | (cases rx;rfl)
  | (obtain ⟨t,rfl⟩:=rx;rfl)
theorem aU (b:Expr){op:CmpOp}(h:op ≠ .In:=by decide)(h2:op ≠ .NotIn:=by decide):behindInMarks op b=false:=by
 have e1:(op == CmpOp.In)=false:=by cases op <;> first | rfl | exact absurd rfl h
 have e2:(op == CmpOp.NotIn)=false:=by cases op <;> first | rfl | exact absurd rfl h2
 cases b <;> simp[behindInMarks,e1,e2]
theorem gm {op:CmpOp}{r:R2}(ho:OpR X (DW op) r)(ha:PE X a ta)(hb:PE X b tb)(hm:behindInMarks op b=false):PE X (.Compare a [op] [b] pos) (tOp r ta tb):=by
 intro pins s σ H Q I h
 exact wpAny_Compare1 (zQ ha hb I h λv u s2 x y H2 I2 rx ry q=>ho pins s2 σ H2 x y v u Q I2 rx ry q) hm
def A9 (t:TE):TT:=λσ H Q=>t σ H λx H'=>∃k,x = .bl k/\Q k H'
theorem aJ {op:CmpOp}{r:R2}(ho:OpR X (DW op) r)(ha:PE X a ta)(hb:PE X b tb)(hm:behindInMarks op b=false):PT X (.Compare a [op] [b] pos) (A9 (tOp r ta tb)):=by
 intro pins s σ H Q I h
 refine II (thn (ha pins s σ H _ I h) λv s1 ⟨x,H1,I1,r1,q1⟩=>thn (hb pins s1 σ H1 _ I1 q1) λu s2 ⟨y,H2,I2,r2,q2⟩ =>
  thn (ho pins s2 σ H2 x y v u _ I2 r1 r2 q2) λc s3 ⟨z,H3,I3,r3,k,e,q3⟩ =>?_) hm
 subst e
 cases r3
 exact DL ⟨H3,I3,q3⟩
def zU (r r':R2)(ta tb tc:TE):TE:=λσ H Q=>ta σ H λx H1=>tb σ H1 λy H2=>r x y H2 λz H3=>∃k,z = .bl k ∧
 (if k=true then tc σ H3 λw' H4=>r' y w' H4 Q else Q (.bl false) H3)
theorem vM {op op':CmpOp}{r r':R2}(ho:OpR X (DW op) r)(ho':OpR X (DW op') r')(ha:PE X a ta)(hb:PE X b tb)(hc:PE X c tc)
  (hm:lastMarks [op,op'] [b,c]=false:=by with_unfolding_all rfl):PE X (.Compare a [op,op'] [b,c] pos) (zU r r' ta tb tc):=by
 intro pins s σ H Q I h
 refine Compare_chain (thn (ha pins s σ H _ I h) λv s1 ⟨x,H1,I1,r1,q1⟩=>chain_link (thn (hb pins s1 σ H1 _ I1 q1) λu s2 ⟨y,H2,I2,r2,q2⟩ =>
  thn (ho pins s2 σ H2 x y v u _ I2 r1 r2 q2) λd s3 ⟨z,H3,I3,r3,k,e,q3⟩ =>?_)) hm
 subst e
 cases r3
 refine DL ?_
 cases k with
 | false=>exact ite_ff ⟨.bl false,H3,I3,rfl,q3⟩
 | true=>exact ite_tt (chain_last (thn (hc pins s3 σ H3 _ I3 q3) λw' s4 ⟨z',H4,I4,r4,q4⟩=>ho' pins s4 σ H4 y z' u w' Q I4 r2 r4 q4))
def Ba (K:BP)(x:V)(H:Hp)(k:Bool):Prop :=
 match x with
 | .non=>k=false
 | .bl b=>k=b
 | .int i=>k=(i != 0)
 | .str y=>y.length<=B4/\k=((y.length:Int) != 0)
 | .byt y=>y.size<=B4/\k=((y.size:Int) != 0)
 | .ref p=>(∃xs,SqL K H p xs/\k = !xs.isEmpty)\/(∃xs,SqT K H p xs/\k = !xs.isEmpty)\/∃kvs,H p=some (.dK kvs)/\k = !kvs.isEmpty
 | _=>False
theorem qT {κ:Type}{kvs:List (κ×V)}{vs:List (κ×BM)}(r:KV kvs vs):(!vs.isEmpty) = !kvs.isEmpty:=by
 cases r <;> rfl
theorem jT {xs:List V}{its:List BM}(r:Vals xs its):(!its.toArray.isEmpty) = !xs.isEmpty:=by
 cases r <;> simp
theorem nI:(B4:Nat)<2 ^ 63:=by rw[Er];decide
theorem zV:TruR X (λx H Q=>∃k,Ba X.K x H k/\Q k H):=by
 intro pins s σ H x v Q I rx h
 obtain ⟨k,e,q⟩:=h
 have hl:=nI
 have hs:B4=16777216:=Er
 cases x with
 | non =>
  cases rx
  have e':k=false:=e
  subst e'
  exact truthy_none ⟨H,I,q⟩
 | bl b =>
  cases rx
  have e':k=b:=e
  subst e'
  exact DL ⟨H,I,q⟩
 | int i =>
  obtain ⟨t,rfl⟩:=rx
  have e':k=(i != 0):=e
  subst e'
  exact PySem.P.truthy_int ⟨H,I,q⟩
 | str y =>
  obtain ⟨t,rfl⟩:=rx
  obtain ⟨hy,e'⟩:y.length<=B4/\k=((y.length:Int) != 0):=e
  subst e'
  exact PySem.P.truthy_str (by lia) ⟨H,I.tok _,q⟩
 | byt y =>
  obtain ⟨t,rfl⟩:=rx
  obtain ⟨hy,e'⟩:y.size<=B4/\k=((y.size:Int) != 0):=e
  subst e'
  exact PySem.W.truthy_bytes (by lia) ⟨H,I.tok _,q⟩
 | ref p =>
  cases rx
  have e':(∃xs,SqL X.K H p xs/\k = !xs.isEmpty)\/(∃xs,SqT X.K H p xs/\k = !xs.isEmpty)\/∃kvs,H p=some (.dK kvs)/\k = !kvs.isEmpty:=e
  rcases e' with ⟨xs,hx,e'⟩ | ⟨xs,hx,e'⟩ | ⟨kvs,hx,e'⟩
  ·subst e'
   obtain ⟨its,r,pl,hz⟩:=I.list hx
   have hlen:=r.length
   exact wpAny_truthy_list pl.isList (by simp only[BX];lia) ⟨H,I.tok _,by rw[jT r];exact q⟩
  ·subst e'
   obtain ⟨its,r,pl,hz⟩:=I.tuple hx
   have hlen:=r.length
   exact truthy_tuple pl (by simp only[BX];lia) ⟨H,I.tok _,by rw[jT r];exact q⟩
  ·subst e'
   obtain ⟨hz,hS,vs,r,m⟩:kvs.length<=B4/\(p == sysModules)=false/\∃vs,KV kvs vs/\s.heap.DictOf (bX X.prog X.w) p vs:=I.hok p _ hx
   have hlen:kvs.length=vs.length:=G2 r
   exact wpAny_truthy_dict hS m (by lia) ⟨H,I.tok _,by rw[qT r];exact q⟩
 | _=>exact (show False from e).elim
theorem o6 (ha:PE X a ta)(he:∀whole,isTrue a X.env whole=(do let v ← whole;standAt a.pos;HY [v] (truthy v))) :
    PT X a (λσ H Q=>ta σ H λx H'=>∃k,Ba X.K x H' k/\Q k H'):=by
  intro pins s σ H Q I h
  exact isTrue_plain (thn (ha pins s σ H _ I h) λv s1 ⟨x,H1,I1,r1,q1⟩=>zV pins s1 σ H1 x v Q I1 r1 q1) (he _)
theorem vals1 {x:V}{us:List BM}(r:Vals [x] us):∃u,us=[u]/\RelV x u:=by
 cases r with
 | cons r1 r2=>cases r2;exact ⟨_,rfl,r1⟩
theorem vals2 {x y:V}{us:List BM}(r:Vals [x,y] us):∃u w',us=[u,w']/\RelV x u/\RelV y w':=by
 cases r with
 | cons r1 r2 =>
  cases r2 with
  | cons r3 r4=>cases r4;exact ⟨_,_,rfl,r1,r3⟩
theorem gn (hc:X.calm=true):bC X (.builtin "max") (λxs H Q=>∃i j,xs=[.int i,.int j]/\Q (.int (if j>i then j else i)) H):=by
 intro pins s σ H xs us Q I r h
 obtain ⟨i,j,rfl,q⟩:=h
 obtain ⟨u,w',rfl,⟨t,rfl⟩,⟨t',rfl⟩⟩:=vals2 r
 refine max_two_ints (I.ok.hd hc) λh' tk k=>⟨_,H,I.kept k,?_,q⟩
 by_cases hj:j>i
 ·rw[if_pos hj,if_pos hj];exact ⟨_,rfl⟩
 ·rw[if_neg hj,if_neg hj];exact ⟨_,rfl⟩
theorem iL (hc:X.calm=true):bC X (.builtin "min") (λxs H Q=>∃i j,xs=[.int i,.int j]/\Q (.int (if j<i then j else i)) H):=by
 intro pins s σ H xs us Q I r h
 obtain ⟨i,j,rfl,q⟩:=h
 obtain ⟨u,w',rfl,⟨t,rfl⟩,⟨t',rfl⟩⟩:=vals2 r
 refine min_two_ints (I.ok.hd hc) λh' tk k=>⟨_,H,I.kept k,?_,q⟩
 by_cases hj:j<i
 ·rw[if_pos hj,if_pos hj];exact ⟨_,rfl⟩
 ·rw[if_neg hj,if_neg hj];exact ⟨_,rfl⟩
theorem iM:bC X (.type "int") (λxs H Q=>(∃i,xs=[.int i]/\Q (.int i) H)\/∃k,xs=[.bl k]/\Q (.int (if k then 1 else 0)) H):=by
 intro pins s σ H xs us Q I r h
 rcases h with ⟨i,rfl,q⟩ | ⟨k,rfl,q⟩
 ·obtain ⟨u,rfl,t,rfl⟩:=vals1 r
  exact call_int_int ⟨.int i,H,I,⟨_,rfl⟩,q⟩
 ·obtain ⟨u,rfl,r1⟩:=vals1 r
  cases r1
  exact call_int_bool ⟨.int (if k then 1 else 0),H,I.tok _,⟨_,rfl⟩,q⟩
end
open PySem PySem.Spec PyProof.Rows
structure zW (h:Heap)(x dx C:Addr)(mA:Str->Option BM):Prop where
 obj:h.get? x=some (PySem.W.instObj C dx)
 ns:h.Ns1 dx mA
 ne:dx≠x
theorem uo {h:Heap}{dx:Addr}{mA:Str->Option BM}(n:h.Ns1 dx mA):∃od,h.get? dx=some od/\∀name,PySem.W.lookIn name od=some (mA name):=by
 obtain ⟨o,es,ep,ho,hd,hk,_,hm⟩:=n
 refine ⟨o,ho,λname =>?_⟩
 have e:=hm name
 unfold nsFind findBy at e
 rw[<- Array.find?_toList] at e
 unfold PySem.W.lookIn
 rw[hd]
 dsimp only
 split
 ·rename_i y q
  rw[q] at e
  exact congrArg some e
 ·rename_i q
  rw[q] at e
  have a:es.toList.any (·.refKey)=false:=by
   rw[List.any_eq_false]
   intro y hy
   obtain ⟨z,t,hkey⟩:=hk y (CI.mp hy)
   simp[DictEntry.refKey,hkey]
  have a':¬ es.toList.any (·.refKey)=true:=by rw[a];exact B6
  rw[if_neg a']
  exact congrArg some e
theorem zW.look {h:Heap}{x dx C:Addr}{mA:Str->Option BM}(I:zW h x dx C mA):∃od,PySem.W.InstAt h x (PySem.W.instObj C dx) C (some od)/\∀name,PySem.W.lookIn name od=some (mA name) :=
 let ⟨od,ho,hl⟩:=uo I.ns
 ⟨od,⟨I.obj,rfl,rfl,ho⟩,hl⟩
section
variable  {prog:Ca}{w:CJ}{A:Dd}{E:BM->BQ->Prop}{s:BQ}{K:BP}{x dx C f:Addr}{mA:Str->Option BM}{name:Str}{v:BM}
end
theorem jL.some_of {v:V}{o:Option BM}(r:jL (some v) o):∃u,o=some u/\RelV v u:=by
 cases o with
 | none=>exact (show False from r).elim
 | some u=>exact ⟨u,rfl,r⟩
section
variable  {P:Ca}{w:CJ}{H H':Hp}{h h':Heap}{a C dx:Addr}{fs fs':List (Str×V)}
theorem xU (hok:HOk P w H h)(e:H a=some (.ins C dx fs)):∃mA,zW h a dx C mA/\(∀f,jL (fs.lookup f) (mA f))/\PySem.Within mA (fs.map (·.1))/\fs.length<=1000/\H dx=some (.own a):=by
 obtain ⟨d,z,ne,ob,mA,n,r,q⟩:=(show bB P w H h a (.ins C dx fs) from hok a _ e)
 exact ⟨mA,⟨ob,n,ne⟩,r,q,z,d⟩
end
structure Cls (K:BP)(C:Addr):Prop where
 pg:PySem.W.plainGet K C Str.empty=true
 hd:PySem.W.hasDictIn K C=true
 po:PySem.W.plainOver K C=true
 sa:PySem.W.findIn K (.ref C) "__setattr__" = some (some (.builtin "object.__setattr__"))
theorem Cls.get {K:BP}{C:Addr}(c:Cls K C)(f:Str):PySem.W.plainGet K C f=true:=c.pg
section
variable  {X:Cx}{pins:List (Addr×Obj)}{σ:St}{H:Hp}{s:BQ}{a C dx:Addr}{fs:List (Str×V)}{f:Str}{v:V}{A:Dd}{E:BM->BQ->Prop}
end
section
variable  {X:Cx}{o e value:Expr}{f:Str}{pos pos' tpos:Pos}{ta tv:TE}
end
section
variable  {X:Cx}{pins:List (Addr×Obj)}{σ:St}{H:Hp}{s:BQ}{A:Dd}{E:BM->BQ->Prop}{Q:BM->BQ->Prop}{c:BM}{b:Bool}
inductive ib (K:BP)(H:Hp):V->BM->Prop where
 | non:ib K H .non (.type "NoneType")
 | bl (x:Bool):ib K H (.bl x) (.type "bool")
 | int (i:Int):ib K H (.int i) (.type "int")
 | str (x:Str):ib K H (.str x) (.type "str")
 | flt (x:UInt64):ib K H (.flt x) (.type "float")
 | lst {a:Addr} {xs:List V} (e:H a=some (.lst xs)):ib K H (.ref a) (.type "list")
 | frz {a:Addr} {o:Obj} {xs:List V} (e:H a=some (.frz o (.lst xs))):ib K H (.ref a) (.type "list")
 | tup {a:Addr} {xs:List V} (e:H a=some (.tup xs)):ib K H (.ref a) (.type "tuple")
 | dK {a:Addr} {kvs:List (Key×V)} (e:H a=some (.dK kvs)):ib K H (.ref a) (.type "dict")
 | dT {a:Addr} {kvs:List (List Key×V)} (e:H a=some (.dT kvs)):ib K H (.ref a) (.type "dict")
 | ins {a C dx:Addr} {fs:List (Str×V)} (e:H a=some (.ins C dx fs)) (cl:Cls K C) (ha:PySem.W.findIn K (.ref C) "__class__" = some (some (.builtin "object.__class__")))
   (hn:PySem.W.specialIn K (.builtin "object.__class__") "__get__" = some (some (.builtin "getset_descriptor.__get__"))) (htk:PySem.W.takesIn K (.builtin "object.__class__")=some true)
   (hm:PySem.W.mroIn K C (.type "object")=some true):ib K H (.ref a) (.ref C)
theorem uq {x:V}{u t:BM}(I:Inv X pins σ H s)(rx:RelV x u)(ty:ib X.K H x t)(e:PySem.W.kitOne X.K t c=some b)(h:∀tk,Q (.bool b) { s with toks:=tk }) :
  Ci (Cs X.prog X.w) A (call (.builtin "isinstance") [u,c]) Q E s:=by
 cases ty with
 | non=>cases (show u=Es from rx);exact DZ PySem.W.kitx_none I.kIn True.intro e (λz=>nomatch z) h
 | bl y=>cases (show u=Value.bool y from rx);exact DZ PySem.W.kitx_bool I.kIn True.intro e (λz=>nomatch z) h
 | int i=>obtain ⟨t,q⟩:=(show ∃t,u=DE i t from rx);cases q;exact DZ PySem.W.kitx_int I.kIn True.intro e (λz=>nomatch z) h
 | str y=>obtain ⟨t,q⟩:=(show ∃t,u=Value.str y t from rx);cases q;exact DZ PySem.W.kitx_str I.kIn True.intro e (λz=>nomatch z) h
 | flt y=>obtain ⟨t,q⟩:=(show ∃t,u=Value.float y t from rx);cases q;exact DZ PySem.W.kitx_float I.kIn True.intro e (λz=>nomatch z) h
 | @lst a xs ea =>
  cases (show u=Cd a from rx)
  obtain ⟨_,_,n,_,h1⟩:=(show bB X.prog X.w H s.heap a (.lst xs) from I.hok a _ ea)
  exact DZ JI I.kIn ⟨_,h1,rfl⟩ e (λz=>nomatch z) h
 | @frz a ob xs ea =>
  cases (show u=Cd a from rx)
  obtain ⟨_,_,_,n,_,h1⟩:=(show bB X.prog X.w H s.heap a (.frz ob (.lst xs)) from I.hok a _ ea)
  exact DZ JI I.kIn ⟨_,h1,rfl⟩ e (λz=>nomatch z) h
 | @tup a xs ea =>
  cases (show u=Cd a from rx)
  obtain ⟨_,_,_,p⟩:=(show bB X.prog X.w H s.heap a (.tup xs) from I.hok a _ ea)
  obtain ⟨o,h1,h2,_⟩:=p
  exact DZ PySem.W.kitx_tuple I.kIn ⟨o,h1,h2.1⟩ e (λz=>nomatch z) h
 | @dK a kvs ea =>
  cases (show u=Cd a from rx)
  obtain ⟨_,_,vs,_,p⟩:=(show bB X.prog X.w H s.heap a (.dK kvs) from I.hok a _ ea)
  obtain ⟨o,es,ep,h1,h2,_⟩:=p
  exact DZ JJ I.kIn ⟨o,h1,h2.1⟩ e (λz=>nomatch z) h
 | @dT a kvs ea =>
  cases (show u=Cd a from rx)
  obtain ⟨_,_,xs,_,o,es,ep,h1,h2,_⟩:=(show bB X.prog X.w H s.heap a (.dT kvs) from I.hok a _ ea)
  exact DZ JJ I.kIn ⟨o,h1,h2.1⟩ e (λz=>nomatch z) h
 | @ins a C dx fs ea cl ha hn htk hm =>
  cases (show u=Cd a from rx)
  obtain ⟨mA,O,_⟩:=xU I.hok ea
  obtain ⟨od,J,_⟩:=O.look
  exact DZ (PySem.W.kitx_own (cl.get _) cl.hd ha hn htk hm) I.kIn J e (λz=>nomatch z) h
end
open PySem PySem.Spec PyProof.Rows
structure cW (k:Nat)(A:Dd):Prop where
 hd:A.handled=none
 dp:A.depth+3*k+5<recursionLimit
 un:A.units+16*k+200<cLine
theorem cW.mono {j k:Nat}{A:Dd}(r:cW k A)(h:j<=k):cW j A:=⟨r.hd,by have:=r.dp;lia,by have:=r.un;lia⟩
theorem cW.deeper {k:Nat}{A:Dd}(r:cW (k+1) A)(env:Env):cW k (A.deeper env) :=
 ⟨r.hd,by have:=r.dp;show A.depth+1+3*k+5<_;lia,by have:=r.un;show A.units+3+16*k+200<_;lia⟩
theorem cW.depth {k:Nat}{A:Dd}(r:cW k A):A.depth<recursionLimit:=by have:=r.dp;lia
theorem cW.units {k:Nat}{A:Dd}(r:cW k A):A.units+64<cLine:=by have:=r.un;lia
def tNil:TA:=λ_ H Q=>Q [] H
def Bb (ta:TE)(tr:TA):TA:=λσ H Q=>ta σ H λx H1=>tr σ H1 λxs H2=>Q (x :: xs) H2
section
variable  {X:Cx}{e:Expr}{es:List Expr}{te:TE}{t:TA}{pos:Pos}
theorem ag:PA X [] tNil:=λ_ _ _ _ H Q I h=>Hy ⟨[],H,I,.nil,h⟩
theorem aa (ha:PE X e te)(hr:PA X es t)(hs:CN (e :: es) X.env=(false,eval e X.env) :: CN es X.env:=by rfl):PA X (e :: es) (Bb te t):=by
 intro pos pins s σ H Q I h
 rw[hs]
 show Ci _ _ (spliced ((false,eval e X.env) :: Fo pos (CN es X.env))) _ _ s
 refine Hm (thn (ha pins s σ H _ I h) λu s1 ⟨x,H1,I1,r1,q1⟩ =>?_)
 exact thn (hr pos pins s1 σ H1 _ I1 q1) λus s2 ⟨xs,H2,I2,r2,q2⟩=>⟨x :: xs,H2,I2,.cons r1 r2,q2⟩
def tTup (t:TA):TE:=λσ H Q=>t σ H λxs H1=>xs.length<=B4/\∀p,H1 p=none->Q (.ref p) (upd H1 p (.tup xs))
def tLst (t:TA):TE:=λσ H Q=>t σ H λxs H1=>xs.length<=B4/\∀p,H1 p=none->Q (.ref p) (upd H1 p (.lst xs))
theorem bp {x1}(h:PA X es t):PE X (.Tuple es x1 pos) (tTup t):=by
 intro pins s σ H Q I hq
 refine wpAny_Tuple_spliced (thn (h pos pins s σ H _ I hq) λus s1 ⟨xs,H1,I1,r,z,q⟩=>⟨by rw[<- r.length];exact z,?_⟩)
 have hf:H1 s1.heap.objs.size=none:=I1.hok.fresh (BS _)
 refine ⟨.ref s1.heap.objs.size,upd H1 s1.heap.objs.size (.tup xs),I1.laid (t':=s1.toks) (λb u e=>BL _ e) (BS _) ?_,rfl,q _ hf⟩
 exact ⟨z,us,r,⟨_,BZ _ rfl,⟨rfl,rfl⟩,_,rfl⟩⟩
theorem bY (h:PA X es t):PE X (.List es pos) (tLst t):=by
 intro pins s σ H Q I hq
 refine wpAny_List_spliced (thn (h pos pins s σ H _ I hq) λus s1 ⟨xs,H1,I1,r,z,q⟩=>⟨by rw[<- r.length];exact z,?_⟩)
 have hf:H1 s1.heap.objs.size=none:=I1.hok.fresh (BS _)
 refine ⟨.ref s1.heap.objs.size,upd H1 s1.heap.objs.size (.lst xs),I1.laid (t':=s1.toks) (λb u e=>BL _ e) (BS _) ?_,rfl,q _ hf⟩
 exact ⟨z,us,0,r,BZ _ rfl⟩
end
abbrev Sp:=List V->Hp->VK->XK->Prop
abbrev CXT:=List Env->Hp->BQ->XK->BM->BQ->Prop
structure xV (P:Ca)(w:CJ)(K:BP)(mg:Str->Option BM)(base:Heap)(A:Dd)(outer:List Env)(s:BQ)(H:Hp):Prop where
 frames:A.frames=some outer
 mod:Mod K mg base
 bs:∀b o,base.get? b=some o->s.heap.get? b=some o/\H b=none
 bsz:base.objs.size<=s.heap.objs.size
 funs:s.heap.FunFrames base outer
 frf:∀b∈frs outer,H b=none
 hok:HOk P w H s.heap
 bare:AllBare s.gens
def CE (outer:List Env)(P:Ca)(w:CJ)(H:Hp)(s:BQ)(Q:VK)(u:BM)(s':BQ):Prop :=
 ∃v H',s'.os=s.os/\AllBare s'.gens/\Un (frs outer) [] H H' s.heap s'.heap/\HOk P w H' s'.heap/\RelV v u/\Q v H'
def CR (CX:CXT)(outer:List Env)(P:Ca)(w:CJ)(H:Hp)(s:BQ)(Q:VK)(E:XK)(r:Result)(s':BQ):Prop :=
 match r with
 | .ok (.ret u)=>CE outer P w H s Q u s'
 | .ok _=>False
 | .error e=>CX outer H s E e s'
structure bM (P:Ca)(w:CJ)(K:BP)(mg:Str->Option BM)(base:Heap)(CX:CXT)(k:Nat)(f:Addr)(fd:De)(ps:List Str)(sp:Sp):Prop where
 len:∀vs H Q E,sp vs H Q E->vs.length=ps.length
 run:∀(A:Dd) (outer:List Env) (s:BQ) (H:Hp) (args:Args) (us:List BM) (vs:List V) (Q:VK) (E:XK),cW k A->xV P w K mg base A outer s H->BindsTo s fd args (ps.zip us)->Vals vs us->sp vs H Q E →
  FC (Cs P w) A (.call (.ref f) args) (CR CX outer P w H s Q E) s
section
variable  {X:Cx}{pins:List (Addr×Obj)}{σ:St}{H:Hp}{s s':BQ}
theorem Inv.Bc (I:Inv X pins σ H s):xV X.prog X.w X.K X.mg X.base X.A X.stack s H :=
 ⟨I.ok.frames,I.ok.mod,I.bs,CP I.ok.bsz I.sz,I.stack,I.nG,I.hok,I.bare⟩
theorem Inv.after {Q:VK}{u:BM}(I:Inv X pins σ H s)(h:CE X.stack X.prog X.w H s Q u s'):EP X pins σ Q u s':=by
 obtain ⟨v,H',os,bare,un,hok,r,q⟩:=h
 obtain ⟨hh,g,d,t,os'⟩:=s'
 obtain rfl:os'=s.os:=os
 exact ⟨v,H',I.call (h':=hh) (g':=g) (d':=d) (t':=t) (ch:=[]) un hok bare (λb z=>absurd z (by simp)),r,q⟩
end
def zj (sp:Sp)(dvs:List V)(E:XK)(t:TA):TE:=λσ H Q=>t σ H λvs H1=>sp (vs++dvs) H1 Q E
def Binds (K:BP)(fd:De)(ps:List Str)(ds:List BM):Prop :=
 ∀(s:BQ) (us:List BM),K.In s.heap->(us++ds).length=ps.length->BindsTo s fd ⟨us,[]⟩ (ps.zip (us++ds))
theorem Binds.all {K:BP}{fd:De}{ps:List Str}(h:∀us:List BM,us.length=ps.length->bindArgs fd ⟨us,[]⟩=pure (ps.zip us)):Binds K fd ps []:=λs us _ hl=>by
 rw[CK] at hl ⊢
 exact .of_eq (h us hl)
def Passes (CX:CXT)(X:Cx)(E:XK):Prop:=∀(pins:List (Addr×Obj)) (σ:St) (H:Hp) (s:BQ) (e:BM) (s':BQ),Inv X pins σ H s->CX X.stack H s E e s'->X.xe e s'
section
variable  {X:Cx}{CX:CXT}{k:Nat}{f C:Addr}{fd:De}{ps:List Str}{sp:Sp}{dvs:List V}{ds:List BM}{E:XK}{x m:Str}{p pos apos:Pos}{e o:Expr}{es:List Expr}{ta:TE}{t:TA}
theorem zX {pins:List (Addr×Obj)}{σ:St}{H:Hp}{s:BQ}{Q:VK}{us:List BM}{vs:List V}(F:bM X.prog X.w X.K X.mg X.base CX k f fd ps sp)(hr:cW k X.A)(hb:Binds X.K fd ps ds)(hd:Vals dvs ds)(hx:Passes CX X E)
  (I:Inv X pins σ H s) (r:Vals vs us) (h:sp (vs++dvs) H Q E):Ci (Cs X.prog X.w) X.A (call (.ref f) us) (EP X pins σ Q) X.xe s:=by
 have r2:Vals (vs++dvs) (us++ds):=r.append hd
 have hl:(us++ds).length=ps.length:=by rw[<- r2.length];exact F.len _ _ _ _ h
 refine IQ (Fc (F.run X.A X.stack s H ⟨us,[]⟩ (us++ds) (vs++dvs) Q E hr I.Bc (hb s us I.kIn hl) r2 h) λr s' hq =>?_)
 cases r with
 | error e=>exact hx pins σ H s e s' I hq
 | ok fl =>
  cases fl with
  | ret u=>exact I.after hq
  | next=>exact False.elim hq
  | brk=>exact False.elim hq
  | cont=>exact False.elim hq
theorem xW (F:bM X.prog X.w X.K X.mg X.base CX k f fd ps sp)(hr:cW k X.A)(hg:Gl X x)(hm:X.mg x=some (.ref f))(hk:PySem.W.keepIn X.K (.ref f)=true)(hb:Binds X.K fd ps ds)(hd:Vals dvs ds)(hx:Passes CX X E)
  (ha:PA X (e :: es) t) (hdb:(x == ("__debug__" : Str))=false:=by decide) (he:CN (e :: es) X.env=(false,eval e X.env) :: CN es X.env:=by rfl) (hpl:(Fo pos (CN es X.env)).any (·.1)=false:=by rfl) :
  PE X (.Call (.Name x p) (e :: es) [] pos) (zj sp dvs E t):=by
 intro pins s σ H Q I h
 refine DX (hZ I hg hm ?_ hdb)
 refine Jn (h₀:=X.base) I.ok.mod.kin hk (thn (ha pos pins s σ H _ I h) λus s1 ⟨vs,H1,I1,r,q⟩=>⟨I1.kIn,?_⟩) he hpl
 exact zX F hr hb hd hx I1 r q
end
section
variable  {X:Cx}{CX:CXT}{k:Nat}{f C:Addr}{fd:De}{ps ks:List Str}{sp:Sp}{E:XK}{x m:Str}{p pos apos kpos:Pos}{e o:Expr}{es:List Expr}{kws:List Keyword}{te ta:TE}{t tk:TA}{nm:Option Str}
variable  {g:List BM->List BM->List BM}{gV:List V->List V->List V}
end
structure aK (N P:List Str)(sc:Scope):Prop where
 kind:sc.kind = .function
 co:sc.isCoroutine=false
 gen:sc.isGenerator=false
 nd:N.Nodup
 pre:N.take P.length=P
 par:∀x∈P,sc.names.lookup x=some .local\/sc.names.lookup x=some .cell
 nofree:∀y∈sc.names,y.2 ≠ .free
theorem mf {kindOf:Str->Option NameKind}{x:Str}:∀{binds:List (Str×BM)} {m:Str->Option BM},(∀v,(x,v)∉binds)->bindL kindOf binds m x=m x
 | [],_,_=>rfl
 | (n,v) :: r,m,h=>by
  unfold bindL
  rw[mf λw hw=>h w (Cf _ hw)]
  split
  ·have:x≠n:=by rintro rfl;exact h v Ck
   simp[this]
  ·rfl
theorem mh {kindOf:Str->Option NameKind}{x:Str}:∀{binds:List (Str×BM)} {m:Str->Option BM},(∀v,(x,v)∉binds)->bindC kindOf binds m x=m x
 | [],_,_=>rfl
 | (n,v) :: r,m,h=>by
  unfold bindC
  rw[mh λw hw=>h w (Cf _ hw)]
  split
  ·rfl
  ·have:x≠n:=by rintro rfl;exact h v Ck
   simp[this]
theorem mi {kindOf:Str->Option NameKind}{x:Str}{v:BM}:∀{P:List Str} {vs:List BM} {i:Nat} {m:Str->Option BM},P.Nodup->P[i]? = some x->vs[i]? = some v->kindOf x=some .local →
  bindL kindOf (P.zip vs) m x=some v
 | [],_,_,_,_,h,_,_=>by simp at h
 | _ :: _,[],_,_,_,_,h,_=>by simp at h
 | p :: P,w :: vs,0,m,nd,h1,h2,hk=>by
  simp at h1 h2;subst h1;subst h2
  show bindL kindOf ((p,w) :: P.zip vs) m p=_
  unfold bindL
  rw[mf λv hv=>(D1.mp nd).1 (Ip hv).1,if_pos hk]
  simp
 | p :: P,w :: vs,i+1,m,nd,h1,h2,hk=>by
  show bindL kindOf ((p,w) :: P.zip vs) m x=_
  unfold bindL
  exact mi (i:=i) (D1.mp nd).2 (by simpa using h1) (by simpa using h2) hk
theorem mj {kindOf:Str->Option NameKind}{x:Str}{v:BM}:∀{P:List Str} {vs:List BM} {i:Nat} {m:Str->Option BM},P.Nodup->P[i]? = some x->vs[i]? = some v->kindOf x≠some .local →
  bindC kindOf (P.zip vs) m x=some v
 | [],_,_,_,_,h,_,_=>by simp at h
 | _ :: _,[],_,_,_,_,h,_=>by simp at h
 | p :: P,w :: vs,0,m,nd,h1,h2,hk=>by
  simp at h1 h2;subst h1;subst h2
  show bindC kindOf ((p,w) :: P.zip vs) m p=_
  unfold bindC
  rw[mh λv hv=>(D1.mp nd).1 (Ip hv).1,if_neg hk]
  simp
 | p :: P,w :: vs,i+1,m,nd,h1,h2,hk=>by
  show bindC kindOf ((p,w) :: P.zip vs) m x=_
  unfold bindC
  exact mj (i:=i) (D1.mp nd).2 (by simpa using h1) (by simpa using h2) hk
def start (N:List Str)(vs:List V):St:=vs.map some++CG (N.length-vs.length) none
def lH (CX:CXT)(P:Ca)(w:CJ)(K:BP)(mg:Str->Option BM)(base:Heap)(N:List Str)(qual:Str)(scope:Scope)(f:Addr)(cd:BM)(A:Dd)(outer:List Env)(s:BQ)(H:Hp)(E:XK):Cx where
 prog:=P
 w:=w
 K:=K
 mg:=mg
 base:=base
 A:=A.deeper (envOfC qual scope s.heap.objs.size f cd)
 N:=N
 s₀:=s
 H₀:=H
 env:=envOfC qual scope s.heap.objs.size f cd
 outer:=outer
 stack:=envOfC qual scope s.heap.objs.size f cd :: outer
 ex:=[]
 calm:=true
 fn:=λ_=>true
 pn:=[]
 xe:=λe s'=>Ci (Cs P w) (A.deeper (envOfC qual scope s.heap.objs.size f cd)) (leaving (envOfC qual scope s.heap.objs.size f cd) e) (λ_ s''=>CX outer H s E e s'') (λe' s''=>CX outer H s E e' s'') s'
theorem o7 {sc:Scope}{n:Nat}{x:Str}(h:sc.names.lookup x=some .cell):∃c,(cellsFrom n sc.names []).lookup x=some c:=by
 have q:=Ij sc.names n [] (.inl h)
 exact Hz.mp q
theorem ur {CX:CXT}{P:Ca}{w:CJ}{K:BP}{mg:Str->Option BM}{base:Heap}{N ps:List Str}{qual:Str}{scope:Scope}{f:Addr}{cd:BM}{A:Dd}{outer:List Env}{s s1:BQ}{H:Hp}{E:XK}{us:List BM}{vs:List V}
  (S:aK N ps scope) (hd:A.handled=none) (e0:xV P w K mg base A outer s H) (hl:vs.length=ps.length) (r:Vals vs us)
  (x:InCallC s s.heap.objs.size (bindL (envOfC qual scope s.heap.objs.size f cd).kindOf (ps.zip us) λ_=>none) (cellsFrom (s.heap.objs.size+1) scope.names []) (bindC (envOfC qual scope s.heap.objs.size f cd).kindOf (ps.zip us) λ_=>none) s1) :
  Inv (lH CX P w K mg base N qual scope f cd A outer s H E) [] (start N vs) H s1:=by
 have hpl:ps.length<=N.length:=by have:=congrArg List.length S.pre;rw[Di] at this;lia
 obtain ⟨h1,tk,rfl,hk⟩:=x.done
 have noA:∀b:Addr,b∉(lH CX P w K mg base N qual scope f cd A outer s H E).ex:=λb z=>absurd (show b∈([]:List Addr) from z) (by simp)
 refine ⟨⟨e0.mod,S.kind,rfl,rfl,BS _,λy z c h1 h2 =>?_,λy hy =>?_,λy c _ h =>?_,λ_=>hd,Around.frames_deeper e0.frames,.inr ⟨rfl,rfl⟩,λb z=>absurd z (noA b),e0.bs,e0.bsz,λb _ _=>noA b,λb z=>absurd z (noA b),e0.funs,e0.frf⟩,
  rfl,e0.bare,Un.kept hk,⟨_,x.toInCall.ns,λi y v h1 h2 h3 =>?_⟩,λy c h=>⟨_,x.cell y c h⟩,e0.hok.fresh (BS _),λy c h =>?_,λp hp=>absurd (show p∈([]:List (Addr×Obj)) from hp) (by simp),e0.hok.kept hk,?_⟩
 ·exact name_of_addr x.apart (EL h1) (EL h2)
 ·have hy:scope.names.lookup y=some .cell\/scope.names.lookup y=some .free:=hy
  rcases hy with hy | hy
  ·exact o7 hy
  ·exact absurd rfl (S.nofree _ (EL hy))
 ·exact Fv (x.above y c (EL h))
 ·have hi:i<vs.length:=by
   unfold start at h2
   by_cases hi:i<vs.length
   ·exact hi
   ·rw[C6 (by simpa using hi)] at h2
    rw[Gg] at h2
    split at h2 <;> cases h2
  have ha:vs[i]? = some v:=by
   unfold start at h2
   rw[CB (by simpa using hi),B7] at h2
   cases e:vs[i]? with
   | none=>rw[e] at h2;cases h2
   | some a=>rw[e] at h2;cases h2;rfl
  obtain ⟨u,hu,rv⟩:=r.get ha
  have hp:ps[i]? = some y:=by
   rw[<- S.pre,List.getElem?_take_of_lt (by lia)];exact h1
  have ndP:ps.Nodup:=by rw[<- S.pre];exact S.nd.sublist (DB _ _)
  refine ⟨u,rv,?_⟩
  rcases S.par y (BV hp) with k | k
  ·exact .inl ⟨k,mi ndP hp hu k⟩
  ·obtain ⟨c,e⟩:=o7 (n:=s.heap.objs.size+1) k
   refine .inr ⟨.inl k,c,e,?_⟩
   have q:=x.cell y c e
   rw[mj ndP hp hu (by show scope.names.lookup y≠_;rw[k];decide)] at q
   exact q
 ·exact e0.hok.fresh (Fv (x.above y c (EL h)))
 ·unfold start
  show _=N.length
  rw[BR,BK,EV]
  lia
theorem zk {CX:CXT}{P:Ca}{w:CJ}{K:BP}{mg:Str->Option BM}{base:Heap}{k:Nat}{f:Addr}{name qual:Str}{params:Arguments}{body:List Stmt}{scope:Scope}{dV kV doc pm cdv ct oc:BM}{an od:Option Addr}
  {osl:Array (Option BM)} {N ps:List Str} {sp:Sp} (lk:K.lookup f=some ⟨oc,od,.func (PySem.W.fnOf name qual params body scope dV kV doc pm an cdv ct),osl⟩) (hcd:PySem.W.codeIn K cdv qual=true) (S:aK N ps scope)
  (len:∀vs H Q E,sp vs H Q E->vs.length=ps.length)
  (hbody:∀(A:Dd) (outer:List Env) (s:BQ) (H:Hp) (vs:List V) (Q:VK) (E:XK),cW k (A.deeper (envOfC qual scope s.heap.objs.size f cdv))->sp vs H Q E →
   ∃t,PSs (lH CX P w K mg base N qual scope f cdv A outer s H E) body t/\t { nx:=λ_ H'=>Q .non H',rt:=Q } (start N vs) H) :
  bM P w K mg base CX (k+1) f (PySem.W.fnOf name qual params body scope dV kV doc pm an cdv ct) ps sp:=by
 refine ⟨len,λA outer s H args us vs Q E hr e0 hb r hsp =>?_⟩
 have hl:=len _ _ _ _ hsp
 have KX:K.In s.heap:=e0.mod.kin.keeps λb o e=>(e0.bs b o e).1
 have lim:s.heap.NoLimit:=e0.mod.nolimit.keeps λb o e=>(e0.bs b o e).1
 have hkind:∀y∈ps.zip us,scope.names.lookup y.1=some .local\/(scope.names.lookup y.1=some .cell/\((cellsFrom (s.heap.objs.size+1) scope.names []).lookup y.1).isSome=true):=λ⟨n,v⟩ hy=>by
  rcases S.par n (Ip hy).1 with q | q
  ·exact .inl q
  ·exact .inr ⟨q,Ij _ _ _ (.inl q)⟩
 refine codeAny_call_function hr.depth (KX _ _ lk) rfl S.co S.gen rfl (PySem.W.codeRec_of KX hcd) (hb _ _ _ _ ?_)
 refine wpAny_newFunctionEnv_cells S.kind hkind λenv he s1 x =>?_
 subst he
 refine ⟨lim.keeps x.toInCall.keep,codeAny_func ?_⟩
 obtain ⟨t,ht,hq⟩:=hbody A outer s H vs Q E (hr.deeper _) hsp
 have I:Inv (lH CX P w K mg base N qual scope f cdv A outer s H E) [] (start N vs) H s1:=ur S hr.hd e0 hl r x
 refine DT (ht [] s1 (start N vs) H _ I hq) (λfl s' hs =>?_) λe s' hs=>hs
 have fin:∀{σ':St} {H':Hp} {v:V} {u:BM},Inv (lH CX P w K mg base N qual scope f cdv A outer s H E) [] σ' H' s'->RelV v u->Q v H'->CE outer P w H s Q u s' :=
  λ{σ' H' v u} J rv q=>⟨v,H',J.os,J.bare,J.base,J.hok,rv,q⟩
 cases fl with
 | ret u =>
  obtain ⟨v,σ',H',J,rv,q⟩:=hs
  exact fin J rv q
 | next =>
  obtain ⟨σ',H',J,q⟩:=hs
  exact fin (v:=V.non) (u:=Es) J rfl q
 | brk =>
  obtain ⟨_,_,_,q⟩:=hs
  exact False.elim q
 | cont =>
  obtain ⟨_,_,_,q⟩:=hs
  exact False.elim q
open PySem PySem.Spec PyProof.Rows
section
variable  {X:Cx}{x:Str}{p pos:Pos}{e:Expr}{es:List Expr}{t:TA}{id T:String}{r:List V->Hp->VK->Prop}
def tCB (r:List V->Hp->VK->Prop)(t:TA):TE:=λσ H Q=>t σ H λvs H1=>r vs H1 Q
theorem av (hc:bC X (.builtin id) r)(hg:Gl X x)(hm:X.mg x=none)(hv:Dn x=some (.builtin id))(ha:PA X (e :: es) t)(hn:x ≠ "__name__" := by decide)(hdb:(x == ("__debug__" : Str))=false:=by decide)
  (he:CN (e :: es) X.env=(false,eval e X.env) :: CN es X.env:=by rfl) (hpl:(Fo pos (CN es X.env)).any (·.1)=false:=by rfl):PE X (.Call (.Name x p) (e :: es) [] pos) (tCB r t):=by
 intro pins s σ H Q I h
 refine DX (dH I hg hm hv ?_ hn hdb)
 exact PyProof.Rows.callWith_builtin1 (thn (ha pos pins s σ H _ I h) λus s1 ⟨vs,H1,I1,r1,q1⟩=>hc pins s1 σ H1 vs us Q I1 r1 q1) he hpl
theorem aG (hc:bC X (.type T) r)(hg:Gl X x)(hm:X.mg x=none)(hv:Dn x=some (.type T))(ha:PA X (e :: es) t)(hn:x ≠ "__name__" := by decide)(hdb:(x == ("__debug__" : Str))=false:=by decide)
  (he:CN (e :: es) X.env=(false,eval e X.env) :: CN es X.env:=by rfl) (hpl:(Fo pos (CN es X.env)).any (·.1)=false:=by rfl):PE X (.Call (.Name x p) (e :: es) [] pos) (tCB r t):=by
 intro pins s σ H Q I h
 refine DX (dH I hg hm hv ?_ hn hdb)
 exact DA (thn (ha pos pins s σ H _ I h) λus s1 ⟨vs,H1,I1,r1,q1⟩=>hc pins s1 σ H1 vs us Q I1 r1 q1) he hpl
end
end L2
namespace HT
open PySem PyProof.Rows
def lexLt:List Int->List Int->Bool
 | [],[]=>false
 | [],_ :: _=>true
 | _ :: _,[]=>false
 | x :: xs,y :: ys=>if x=y then lexLt xs ys else decide (x<y)
theorem cX (x y:Int)(xs ys:List Int):lexLt (x :: xs) (y :: ys)=if x=y then lexLt xs ys else decide (x<y):=rfl
theorem lI:lexLt [] []=false:=rfl
theorem jU (y:Int)(ys:List Int):lexLt [] (y :: ys)=true:=rfl
theorem jV (x:Int)(xs:List Int):lexLt (x :: xs) []=false:=rfl
theorem vN (A:Dd)(s:BQ)(a:Int)(t:Tok)(c:Int)(u:Tok):∃e,IT A s (.int a t) (.int c u) e/\(e=true↔a=c) :=
 ⟨(a == c),Ft a t c u,by simp⟩
theorem o8 (A:Dd)(s:BQ)(a:Int)(t:Tok)(c:Int)(u:Tok)(prog:Ca)(w:CJ)(E:BM->BQ->Prop)(Q:BM->BQ->Prop)(h:Q (.bool (decide (a<c))) s) :
  Ci (Cs prog w) A (richCompare .Lt (.int a t) (.int c u)) Q E s :=
 (PyProof.Rows.lt_int h:Ci (Cs prog w) A (DW .Lt (.int a t) (.int c u)) Q E s)
section
open PySem.SeqAt
open PySem.AutoSeq1 (wpAny_loadPart')
open PySem.MeetsSeq PySem.MeetsSeq2 PySem.MeetsSeq3
theorem lJ (l b:Addr)(items items2:Array BM)(n n2:Nat)(dd dd2:Option Addr)(sl sl2:Array (Option BM))(ns ms:List Int)(hi:Ez items.toList ns)(hj:Ez items2.toList ms) :
  Meets (Builtin.«tuple.__lt__» ⟨[.ref l,.ref b],[]⟩)
   (λ_ R s=>s.heap.get? l=some { cls :=.type "tuple",dict:=dd,data :=.seq items n,slots:=sl }/\s.heap.get? b=some { cls :=.type "tuple",dict:=dd2,data :=.seq items2 n2,slots:=sl2 } ∧
    R (.ok (.ret (.bool (lexLt ns ms)))) s) :=
 .of_wp λprog w A R s h=>by
  obtain ⟨hp,g,d,tk,os⟩:=s;obtain ⟨hl,hb,h⟩:=h
  have f2:=AutoSeq1.sub_tuple_tuple
  have z1:items.size=ns.length:=by rw[<- hi.length];simp
  have z2:items2.size=ms.length:=by rw[<- hj.length];simp
  wp_walk using wpAny_loadPart' hl,wpAny_loadPart' hb,FY _ (λrest b s'=>b.1=none/\s'=⟨hp,g,d,tk,os⟩/\∃(vs ws:List BM) (ns' ms':List Int),rest=vs.zip ws ∧
   Ez vs ns'/\Ez ws ms'/\ns'.length+items2.size=ms'.length+items.size/\R (.ok (.ret (.bool (lexLt ns' ms')))) ⟨hp,g,d,tk,os⟩) _
  case turn =>
   rintro ⟨y,x⟩ rest b s' ⟨hb',rfl,vs,ws,ns',ms',hz,hvi,hwi,hlen,hR⟩
   cases hvi with
   | nil=>rw[List.zip_nil_left] at hz;cases hz
   | cons a t hvi' =>
    cases hwi with
    | nil=>rw[List.zip_nil_right] at hz;cases hz
    | cons c u hwi' =>
     rw[Gh] at hz
     injection hz with hyx hrest
     injection hyx with hy hx
     subst hy hx
     rw[cX] at hR
     simp only[Ct] at hlen
     obtain ⟨e,he,hiff⟩:=vN A.in1 ⟨hp,g,d,tk,os⟩ a t c u
     refine BJ (he prog w _ _ ?_)
     cases e with
     | true =>
      rw[if_pos (hiff.mp rfl)] at hR
      wp_walk
      exact ⟨rfl,rfl,_,_,_,_,hrest,hvi',hwi',by lia,hR⟩
     | false =>
      rw[if_neg (λq=>absurd (hiff.mpr q) B6)] at hR
      have hri:=o8 A.in1 ⟨hp,g,d,tk,os⟩ a t c u prog w
      wp_walk using hri
      exact ⟨_,rfl,by simpa using hR⟩
  case fin =>
   rintro ⟨b1,b2⟩ s' ⟨hb',rfl,vs,ws,ns',ms',hz,hvi,hwi,hlen,hR⟩
   simp only at hb'
   subst hb'
   have hv:lexLt ns' ms'=decide (items.size<items2.size):=by
    cases hvi with
    | nil =>
     cases hwi with
     | nil =>
      simp only[Eu] at hlen
      rw[lI]
      exact (decide_eq_false (by lia)).symm
     | cons c u hw =>
      simp only[Eu,Ct] at hlen
      rw[jU]
      exact (decide_eq_true (by lia)).symm
    | cons a t hv =>
     cases hwi with
     | nil =>
      simp only[Eu,Ct] at hlen
      rw[jV]
      exact (decide_eq_false (by lia)).symm
     | cons c u hw =>
      rw[Gh] at hz
      cases hz
   rw[hv] at hR
   wp_walk
   exact ⟨_,rfl,by simpa [Builtin.Tuple.tupleCompareSizes] using hR⟩
  case h =>
   exact ⟨rfl,rfl,items.toList,items2.toList,ns,ms,rfl,hi,hj,by lia,h⟩
end
section
variable  {prog:Ca}{w:CJ}{A:Dd}{E:BM->BQ->Prop}{s:BQ}
theorem qU {l b:Addr}{items items2:Array BM}{ns ms:List Int}{Q:BM->BQ->Prop}(hl:IsTup s.heap l items)(hb:IsTup s.heap b items2)(hi:Ez items.toList ns)(hj:Ez items2.toList ms)
  (hu:A.units<cLine) (h:Q (.bool (lexLt ns ms)) s):Ci (Cs prog w) A (DW .Lt (.ref l) (.ref b)) Q E s:=by
 obtain ⟨⟨cls,dd,data,sl⟩,ho,hc,n,hd⟩:=id hl
 obtain ⟨⟨cls2,dd2,data2,sl2⟩,ho2,hc2,n2,hd2⟩:=id hb
 simp only at hc hd hc2 hd2
 subst hc hd hc2 hd2
 exact GA (op :=.Lt) ⟨_,ho,rfl⟩ ⟨_,ho2,rfl⟩ PySem.F.slot_tuple_lt PySem.F.entry_tuple_lt (PySem.F.args_tuple_lt_2 _ _) (lJ l b items items2 n n2 dd dd2 sl sl2 ns ms hi hj)
  ⟨ho,ho2,show Value.bool (lexLt ns ms)≠Value.notImplemented/\Q (.bool (lexLt ns ms)) s from ⟨(λx=>nomatch x),h⟩⟩ hu
theorem xX {t b:Addr}{vs ws:List BM}{Q:BM->BQ->Prop}(ht:IsTup s.heap t vs.toArray)(hb:IsTup s.heap b ws.toArray)(hv:vs≠[])
  (h1:ws=[]->Q (.ref t) s) (h2:ws≠[]->Q (.ref s.heap.objs.size) { s with heap:=s.heap.push { cls :=.type "tuple",data :=.seq (vs++ws).toArray } })
  (hsz:vs.length+ws.length<=B4):Ci (Cs prog w) A (binaryOp .Add (.ref t) (.ref b)) Q E s:=by
 obtain ⟨⟨cls,dd,data,sl⟩,ho,hc,n,hd⟩:=id ht
 obtain ⟨⟨cls2,dd2,data2,sl2⟩,ho2,hc2,n2,hd2⟩:=id hb
 simp only at hc hd hc2 hd2
 subst hc hd hc2 hd2
 have e:vs.toArray++ws.toArray=(vs++ws).toArray:=by simp
 by_cases hw:ws=[]
 ·exact IJ ⟨_,ho,rfl⟩ ⟨_,ho2,rfl⟩ Ig JA Gx Gi (F1 _ _)
   (tuple_addW1 t b vs.toArray ws.toArray n n2 dd dd2 sl sl2 (by simpa using hv) (by simp[hw])) ⟨ho,ho2,h1 hw⟩
 ·refine IJ ⟨_,ho,rfl⟩ ⟨_,ho2,rfl⟩ Ig JA Gx Gi (F1 _ _)
   (tuple_addW2 t b vs.toArray ws.toArray n n2 dd dd2 sl sl2 (by simpa using hv) (by simpa using hw) (by rw[BX,BX];exact hsz)) ⟨ho,ho2,?_⟩
  rw[e]
  exact h2 hw
def sIx (n d:Nat):Option Int->Nat
 | none=>d
 | some v=>if v<0 then (v+(n:Int)).toNat else min v.toNat n
theorem zY (n d:Nat)(hd:d<=n)(o:Option Int):sIx n d o<=n:=by
 cases o with
 | none=>exact hd
 | some v =>
  show (if v<0 then (v+(n:Int)).toNat else min v.toNat n)<=n
  by_cases hv:v<0
  ·rw[if_pos hv];lia
  ·rw[if_neg hv];exact Nat.min_le_right _ _
theorem sE (v:Int)(n d:Nat):(if v<0 then max (v+(n:Int)) 0 else min v (n:Int))=((sIx n d (some v):Nat):Int):=by
 show (if v<0 then max (v+(n:Int)) 0 else min v (n:Int))=(((if v<0 then (v+(n:Int)).toNat else min v.toNat n):Nat):Int)
 by_cases hv:v<0
 ·simp only[if_pos hv];lia
 ·simp only[if_neg hv];lia
theorem qV (lo hi:Option Int)(n:Nat):Builtin.Slice.sliceAdjust lo hi 1 (n:Int)=(((sIx n 0 lo:Nat):Int),((sIx n n hi:Nat):Int)):=by
 have h1:¬ ((1:Int)<0):=by lia
 unfold Builtin.Slice.sliceAdjust
 simp only[h1,if_false]
 refine Jo ?_ ?_
 ·cases lo with
  | none=>rfl
  | some v=>exact sE v n 0
 ·cases hi with
  | none=>rfl
  | some v=>exact sE v n n
theorem qW (i j:Nat):Builtin.Slice.slicePlaces (i:Int) (j:Int) 1=j-i:=by
 unfold Builtin.Slice.slicePlaces
 have h1:(1:Int)>0:=by lia
 simp only[h1,if_true,Int.ediv_one]
 split <;> lia
theorem jW {v:BM}{o:Option Int}{Q:Option Int->BQ->Prop}(p:IsPart v o)(h:Q o s):Ci (Cs prog w) A (Builtin.Slice.slicePartIndex v) Q E s:=by
 cases p with
 | none=>exact slicePart_none h
 | int i t=>exact slicePart_int h
theorem eB {sl:Addr}{vl vu:BM}{lo hi:Option Int}{n:Nat}{Q:Int×Int×Nat->BQ->Prop}(hs:s.heap.IsSliceOf sl vl vu .none)(pl:IsPart vl lo)(pu:IsPart vu hi)
  (h:Q (((sIx n 0 lo:Nat):Int),1,sIx n n hi-sIx n 0 lo) s):Ci (Cs prog w) A (Builtin.Slice.sliceApplied (.ref sl) (pure (n:Int))) Q E s:=by
 obtain ⟨os,hos,hcs,hds⟩:=id hs
 unfold Builtin.Slice.sliceApplied Builtin.Slice.sliceFields
 refine BJ (BJ (Fl hos hds (x:=vl) rfl (BJ (Fl hos hds (x:=vu) rfl (BJ (Fl hos hds (x :=.none) rfl (BN ?_)))))))
 refine BJ (slicePart_none ?_)
 show Ci _ _ (if ((1:Int) == 0)=true then _ else _) _ _ s
 rw[if_neg (by decide)]
 refine BJ (jW pl (BJ (jW pu (BJ (BN ?_)))))
 show Ci _ _ (match Builtin.Slice.sliceAdjust lo hi 1 (n:Int) with | (lo,hi)=>pure (lo,(1:Int),Builtin.Slice.slicePlaces lo hi 1)) _ _ s
 rw[qV lo hi n]
 show Ci _ _ (pure (((sIx n 0 lo:Nat):Int),(1:Int),Builtin.Slice.slicePlaces ((sIx n 0 lo:Nat):Int) ((sIx n n hi:Nat):Int) 1)) _ _ s
 rw[qW]
 exact BN h
theorem vO (xs:Array BM)(i k:Nat):((Dl k).filterMap λ(m:Nat)=>xs[((i:Int)+(m:Int)*1).toNat]?).toArray=((xs.toList.drop i).take k).toArray:=by
 have e:(λ(m:Nat)=>xs[((i:Int)+(m:Int)*1).toNat]?)=λm=>xs[i+m]? := by
  funext m
  have:((i:Int)+(m:Int)*1).toNat=i+m:=by lia
  rw[this]
 rw[e]
 have:=pick_run xs i k
 rw[List.filterMap_map] at this
 have e2:((λx=>xs[x]?) ∘ λx=>i+x)=λm=>xs[i+m]? := rfl
 rw[e2] at this
 rw[this]
theorem ic {t sl:Addr}{items:Array BM}{vl vu:BM}{lo hi:Option Int}{Q:BM->BQ->Prop}(ht:IsTup s.heap t items)(hs:s.heap.IsSliceOf sl vl vu .none)(pl:IsPart vl lo)(pu:IsPart vu hi)
  (hw:¬ (sIx items.size 0 lo=0/\sIx items.size items.size hi=items.size))
  (h:Q (.ref s.heap.objs.size) { s with heap:=s.heap.push { cls :=.type "tuple",data :=.seq ((items.toList.drop (sIx items.size 0 lo)).take (sIx items.size items.size hi-sIx items.size 0 lo)).toArray } })
  (hsz:items.size<=B4):Ci (Cs prog w) A (getItem (.ref t) (.ref sl)) Q E s:=by
 have htake:sizeOk (.seq ((items.toList.drop (sIx items.size 0 lo)).take (sIx items.size items.size hi-sIx items.size 0 lo)).toArray):=by
  show ((items.toList.drop (sIx items.size 0 lo)).take (sIx items.size items.size hi-sIx items.size 0 lo)).toArray.size<=B4
  rw[BX,Di,Dt,BW]
  omega
 have hj:sIx items.size items.size hi<=items.size:=zY _ _ (BS _) hi
 obtain ⟨os,hos,hcs,hds⟩:=id hs
 have hTs:s.TypeIs (.ref sl) "slice" :=⟨os,hos,hcs⟩
 unfold getItem
 try with_reducible refine Dj ?_
 first | refine BJ (BN ?_) | skip
 refine BJ (JS ht.typeIs (by decide) ?_)
 refine BJ (EG (name:=Str.ofString "__getitem__") ht.typeIs Dg
  (DS Dg ht.typeIs entry_tuple_getitem ?_ (JB _ _)))
 show Ci _ _ (Builtin.Tuple.tupleItemsOf (.ref t) >>= _) _ _ s
 refine BJ (tupleItemsOf_ ht ?_)
 refine BJ (D7 hTs ?_)
 rw[if_pos (by decide)]
 refine BJ (eB hs pl pu ?_)
 have hno:¬ ((((sIx items.size 0 lo:Nat):Int) == 0 && (1:Int) == 1 && (sIx items.size items.size hi-sIx items.size 0 lo) == items.size)=true):=by
  intro q
  rw[Dy,Dy] at q
  have q1:((sIx items.size 0 lo:Nat):Int)=0:=eq_of_beq q.1.1
  have q2:sIx items.size items.size hi-sIx items.size 0 lo=items.size:=eq_of_beq q.2
  exact hw ⟨by omega,by omega⟩
 show Ci _ _ (if (((sIx items.size 0 lo:Nat):Int) == 0 && (1:Int) == 1 && (sIx items.size items.size hi-sIx items.size 0 lo) == items.size)=true then _ else _) _ _ s
 rw[if_neg hno,vO]
 first
  | exact BJ (m:=Builtin.Tuple.tupleExact _) (CO (BN ⟨_,rfl,BN h⟩) htake)
  | exact BJ (m:=Builtin.Tuple.tupleExact _) (CO (BJ (BN (BN ⟨_,rfl,BN h⟩))) htake)
  | exact BJ (BJ (m:=Builtin.Tuple.tupleExact _) (CO (BN (BN ⟨_,rfl,BN h⟩)) htake))
  | exact BJ (BJ (m:=Builtin.Tuple.tupleExact _) (CO (BN ⟨_,rfl,BN h⟩) htake))
end
end HT
namespace L2
open PySem PySem.Spec PyProof.Rows
abbrev TO:=St->Hp->(Option Int->Hp->Prop)->Prop
def PO (X:Cx)(e:Option Expr)(t:TO):Prop :=
 ∀(pins:List (Addr×Obj)) (s:BQ) (σ:St) (H:Hp) (Q:Option Int->Hp->Prop),Inv X pins σ H s->t σ H Q →
  Ci (Cs X.prog X.w) X.A (evalPart e X.env) (λu s'=>∃o H',Inv X pins σ H' s'/\IsPart u o/\Q o H') X.xe s
def xY:TO:=λ_ H Q=>Q none H
def Bd (t:TE):TO:=λσ H Q=>t σ H λx H1=>∃i,x = .int i/\Q (some i) H1
theorem intsAre_of {ns:List Int}:∀{us:List BM},Vals (ns.map V.int) us->Ez us ns:=by
 induction ns with
 | nil=>intro us r;rw[Iq] at r;cases r;exact .nil
 | cons n ns ih =>
  intro us r
  rw[CC] at r
  cases r with
  | cons r1 r2 =>
   obtain ⟨t,e⟩:=r1
   subst e
   exact .cons n t (ih r2)
section
variable  {X:Cx}{e:Expr}{te:TE}{lo hi:Option Expr}{tl th:TO}{pos p2:Pos}
theorem eW:PO X none xY:=by
 intro pins s σ H Q I h
 rw[evalPart_none]
 exact BN ⟨none,H,I,.none,h⟩
theorem dy (h:PE X e te):PO X (some e) (Bd te):=by
 intro pins s σ H Q I hw
 rw[evalPart_some]
 refine thn (h pins s σ H _ I hw) λu s1 ⟨x,H1,I1,r1,q1⟩ =>?_
 obtain ⟨i,rfl,q⟩:=q1
 obtain ⟨t,rfl⟩:=r1
 exact ⟨some i,H1,I1,.int i t,q⟩
def SlR (X:Cx)(r:V->Option Int->Option Int->Hp->VK->Prop):Prop :=
 ∀(pins:List (Addr×Obj)) (s:BQ) (σ:St) (H:Hp) (x:V) (v vl vu:BM) (lo hi:Option Int) (sl:Addr) (Q:VK),Inv X pins σ H s->RelV x v->s.heap.IsSliceOf sl vl vu .none->IsPart vl lo->IsPart vu hi->r x lo hi H Q →
  ∃T id,typeLookup (.type T) "__getitem__" = pure (some (.builtin id))/\s.TypeIs v T/\Ci (Cs X.prog X.w) X.A (getItem v (.ref sl)) (EP X pins σ Q) X.xe s
def tSl (r:V->Option Int->Option Int->Hp->VK->Prop)(te:TE)(tl th:TO):TE:=λσ H Q=>te σ H λx H1=>tl σ H1 λl H2=>th σ H2 λu H3=>r x l u H3 Q
theorem df {r:V->Option Int->Option Int->Hp->VK->Prop}(hr:SlR X r)(he:PE X e te)(hl:PO X lo tl)(hu:PO X hi th):PE X (.Subscript e (.Slice lo hi none p2) pos) (tSl r te tl th):=by
 intro pins s σ H Q I h
 refine Subscript_ (thn (he pins s σ H _ I h) λv s1 ⟨x,H1,I1,r1,q1⟩ =>?_)
 refine wpAny_Slice (thn (hl pins s1 σ H1 _ I1 q1) λvl s2 ⟨l,H2,I2,pl,q2⟩=>thn (hu pins s2 σ H2 _ I2 q2) λvu s3 ⟨u,H3,I3,pu,q3⟩ =>?_)
 rw[evalPart_none]
 refine BN ?_
 have I4:Inv X pins σ H3 { s3 with heap:=s3.heap.push { cls :=.type "slice",data :=.fields #[vl,vu,.none] } }:=I3.kept (t':=s3.toks) λb ob q=>BL _ q
 obtain ⟨T,id,hT,ht,hg⟩:=hr pins { s3 with heap:=s3.heap.push { cls :=.type "slice",data :=.fields #[vl,vu,.none] } } σ H3 x v vl vu l u s3.heap.objs.size Q I4 r1 (K0 ..) pl pu q3
 show Ci (Cs X.prog X.w) X.A (subscriptTail e (.Slice lo hi none p2) v (.ref s3.heap.objs.size)) (EP X pins σ Q) X.xe { s3 with heap:=s3.heap.push { cls :=.type "slice",data :=.fields #[vl,vu,.none] } }
 exact tail_any (ops:=[.ref s3.heap.objs.size,v]) ht hT hg (by with_unfolding_all rfl)
def fE (xs:List V)(lo hi:Option Int):List V:=(xs.drop (HT.sIx xs.length 0 lo)).take (HT.sIx xs.length xs.length hi-HT.sIx xs.length 0 lo)
theorem jf (xs:List V)(lo hi:Option Int):(fE xs lo hi).length<=xs.length:=by
 unfold fE
 rw[Di,Dt]
 lia
def rSlT (K:BP):V->Option Int->Option Int->Hp->VK->Prop:=λx lo hi H Q=>∃a xs,x = .ref a/\SqT K H a xs ∧
 ¬ (HT.sIx xs.length 0 lo=0/\HT.sIx xs.length xs.length hi=xs.length)/\∀p,H p=none->Q (.ref p) (upd H p (.tup (fE xs lo hi)))
theorem zZ:SlR X (rSlT X.K):=by
 intro pins s σ H x v vl vu lo hi sl Q I rx hs pl pu h
 obtain ⟨a,xs,rfl,hx,hw,q⟩:=h
 cases rx
 obtain ⟨its,r,ht,hz⟩:=I.tuple hx
 have hlen:its.toArray.size=xs.length:=by rw[BX];exact r.length.symm
 refine ⟨"tuple",_,Dg.lookup,ht.typeIs,?_⟩
 refine HT.ic ht hs pl pu (by rw[hlen];exact hw) ?_ (by rw[hlen];exact hz)
 rw[hlen]
 refine ⟨.ref s.heap.objs.size,_,I.laid (t':=s.toks) (o :=.tup (fE xs lo hi)) (λb ob q=>BL _ q) (BS _) ?_,rfl,q _ (I.hok.fresh (BS _))⟩
 exact ⟨CP (jf xs lo hi) hz,_,(r.drop (HT.sIx xs.length 0 lo)).take (HT.sIx xs.length xs.length hi-HT.sIx xs.length 0 lo),dG.new _ _⟩
def Be (K:BP):R2:=λx y H Q=>∃a b xs ys,x = .ref a/\y = .ref b/\SqT K H a xs/\SqT K H b ys/\xs≠[]/\xs.length+ys.length<=B4 ∧
 (ys=[]->Q (.ref a) H)/\(ys≠[]->∀p,H p=none->Q (.ref p) (upd H p (.tup (xs++ys))))
theorem Vals.jB {xs:List V}{us:List BM}(r:Vals xs us):us=[]↔xs=[]:=by
 cases r with
 | nil=>simp
 | cons _ _=>simp
theorem xZ:OpR X (binaryOp .Add) (Be X.K):=by
 intro pins s σ H x y v u Q I rx ry h
 obtain ⟨a,b,xs,ys,rfl,rfl,ha,hb,hx,hz,q1,q2⟩:=h
 cases rx
 cases ry
 obtain ⟨its,r1,p1,_⟩:=I.tuple ha
 obtain ⟨its2,r2,p2,_⟩:=I.tuple hb
 refine HT.xX p1 p2 (λz=>hx (r1.jB.mp z)) (λz=>⟨.ref a,H,I,rfl,q1 (r2.jB.mp z)⟩) (λz =>?_) (by rw[<- r1.length, <- r2.length];exact hz)
 refine ⟨.ref s.heap.objs.size,_,I.laid (t':=s.toks) (o :=.tup (xs++ys)) (λb ob q=>BL _ q) (BS _) ?_,rfl,q2 (λw=>z (r2.jB.mpr w)) _ (I.hok.fresh (BS _))⟩
 exact ⟨by rw[BR];exact hz,_,r1.append r2,dG.new _ _⟩
end
open PySem PySem.Spec PyProof.Rows
def ixN (n:Nat)(i:Int):Option Nat:=if 0<=i then (if i<n then some i.toNat else none) else if -(n:Int)<=i then some (i+n).toNat else none
def atI {α:Type}(xs:List α)(i:Int):Option α:=(ixN xs.length i).bind λj=>xs[j]?
theorem x3 {n:Nat}{i:Int}{j:Nat}(h:ixN n i=some j):seqIndex? i n=some j/\j<n /\ -(n:Int)<=i/\i<n:=by
 unfold ixN at h
 by_cases h0:0<=i
 ·rw[if_pos h0] at h
  by_cases h1:i<n
  ·rw[if_pos h1] at h
   have e:i.toNat=j:=Cw h
   exact ⟨by rw[Ku h0 h1,e],by lia,by lia,h1⟩
  ·rw[if_neg h1] at h;cases h
 ·rw[if_neg h0] at h
  by_cases h1 : -(n:Int)<=i
  ·rw[if_pos h1] at h
   have e:(i+n).toNat=j:=Cw h
   exact ⟨by rw[seqIndex_neg (by lia) h1,e],by lia,h1,by lia⟩
  ·rw[if_neg h1] at h;cases h
theorem sF {α:Type}{xs:List α}{i:Int}{v:α}(h:atI xs i=some v):∃j,seqIndex? i xs.length=some j/\xs[j]? = some v/\j<xs.length /\ -(xs.length:Int)<=i/\i<xs.length:=by
 unfold atI at h
 cases e:ixN xs.length i with
 | none=>rw[e] at h;cases h
 | some j =>
  rw[e] at h
  obtain ⟨h1,h2,h3,h4⟩:=x3 e
  exact ⟨j,h1,h,h2,h3,h4⟩
theorem dz {α:Type}{xs:List α}{j:Nat}{v:α}(h:xs[j]? = some v):atI xs (j:Int)=some v:=by
 have hj:j<xs.length:=(B1.mp h).1
 have e:ixN xs.length (j:Int)=some j:=by
  unfold ixN
  rw[if_pos (by lia),if_pos (by lia)];simp
 unfold atI;rw[e];exact h
def x4 (b:Expr):Prop:=∀o i,subscripted b false o i=operate [o,i] (getItem o i)
def IxR (X:Cx)(r:R2):Prop :=
 ∀(value slice:Expr) (pins:List (Addr×Obj)) (s:BQ) (σ:St) (H:Hp) (x y:V) (v u:BM) (Q:VK),Inv X pins σ H s->RelV x v->RelV y u->r x y H Q →
  subscripted slice false v u=operate [v,u] (getItem v u)->Ci (Cs X.prog X.w) X.A (subscriptTail value slice v u) (EP X pins σ Q) X.xe s
def MtR (X:Cx)(id:String)(r:V->List V->Hp->VK->Prop):Prop :=
 ∀(pins:List (Addr×Obj)) (s:BQ) (σ:St) (H:Hp) (x:V) (xs:List V) (v:BM) (us:List BM) (Q:VK),Inv X pins σ H s->RelV x v->Vals xs us->r x xs H Q →
  Ci (Cs X.prog X.w) X.A (call (.builtin id) (v :: us)) (EP X pins σ Q) X.xe s
section
variable  {X:Cx}{a b:Expr}{ta tb:TE}{pos:Pos}
theorem aS {r:R2}(hr:IxR X r)(ha:PE X a ta)(hb:PE X b tb)(hs:x4 b):PE X (.Subscript a b pos) (tOp r ta tb):=by
 intro pins s σ H Q I h
 exact Subscript_ (zQ ha hb I h λv u s2 x y H2 I2 rx ry q=>hr a b pins s2 σ H2 x y v u Q I2 rx ry q (hs _ _))
def Bf (K:BP):R2:=λx y H Q=>∃p xs i v,x = .ref p/\y = .int i/\SqL K H p xs/\atI xs i=some v/\Q v H
def Bg (K:BP):R2:=λx y H Q=>∃p xs i v,x = .ref p/\y = .int i/\SqT K H p xs/\atI xs i=some v/\Q v H
theorem cC:IxR X (Bf X.K):=by
 intro value slice pins s σ H x y v u Q I rx ry h hs
 obtain ⟨p,xs,i,z,rfl,rfl,hq,he,q⟩:=h
 cases rx
 obtain ⟨t,rfl⟩:=ry
 obtain ⟨its,r,pl,hz⟩:=I.list hq
 obtain ⟨j,h1,h2,h3,h4,h5⟩:=sF he
 obtain ⟨w,ew,rw'⟩:=r.get h2
 have hl:=r.length
 have hn:=nI
 have fin:EP X pins σ Q w s:=⟨z,H,I,rw',q⟩
 by_cases h0:0<=i
 ·have hj:i.toNat=j:=by
   rw[Ku h0 h5] at h1
   exact Cw h1
  exact item_listR pl.isList h0 (by lia) (by rw[hj];simpa using ew) fin hs
 ·have hj:(i+(its.toArray.size:Int)).toNat=j:=by
   rw[seqIndex_neg (by lia) h4] at h1
   rw[BX, <- hl]
   exact Cw h1
  exact Im (x:=w) pl.isList.typeIs slot_list_getitem.lookup
   (wpAny_getItem_list_neg (Q:=λr s'=>r=w/\EP X pins σ Q r s') pl.isList (by lia) (by rw[BX] <;> lia) (by lia) (by rw[hj];simpa using ew) ⟨rfl,fin⟩) hs
theorem aV:IxR X (Bg X.K):=by
 intro value slice pins s σ H x y v u Q I rx ry h hs
 obtain ⟨p,xs,i,z,rfl,rfl,hq,he,q⟩:=h
 cases rx
 obtain ⟨t,rfl⟩:=ry
 obtain ⟨its,r,pl,hz⟩:=I.tuple hq
 obtain ⟨j,h1,h2,h3,h4,h5⟩:=sF he
 obtain ⟨w,ew,rw'⟩:=r.get h2
 have hl:=r.length
 have hn:=nI
 have fin:EP X pins σ Q w s:=⟨z,H,I,rw',q⟩
 exact Im (x:=w) pl.typeIs slot_tuple_getitem.lookup
  (getItem_tuple (j:=j) (Q:=λr s'=>r=w/\EP X pins σ Q r s') pl (by lia) (by lia) (by rw[BX, <- hl];exact h1) (by simpa using ew) ⟨rfl,fin⟩) hs
theorem nJ (lo hi:Option Int)(n:Nat):(sliceBounds lo hi none n).1=((HT.sIx n 0 lo:Nat):Int)/\(sliceBounds lo hi none n).2.1=((HT.sIx n n hi:Nat):Int)/\(sliceBounds lo hi none n).2.2=1:=by
 refine ⟨?_,?_,rfl⟩
 ·cases lo with
  | none=>simp[sliceBounds,HT.sIx]
  | some i =>
   simp only[sliceBounds,HT.sIx,J5,show (1:Int)>0 by decide,if_true]
   by_cases h:i<0
   ·simp only[h,if_true] <;> lia
   ·simp only[h,if_false] <;> lia
 ·cases hi with
  | none=>simp[sliceBounds,HT.sIx]
  | some i =>
   simp only[sliceBounds,HT.sIx,J5,show (1:Int)>0 by decide,if_true]
   by_cases h:i<0
   ·simp only[h,if_true] <;> lia
   ·simp only[h,if_false] <;> lia
theorem lL (its:List BM)(lo hi:Option Int):slicePick its.toArray lo hi none=((its.drop (HT.sIx its.length 0 lo)).take (HT.sIx its.length its.length hi-HT.sIx its.length 0 lo)).toArray:=by
 obtain ⟨h1,h2,h3⟩:=nJ lo hi its.toArray.size
 unfold slicePick
 rw[h1,h2,h3]
 simp only[sliceRange_one,pick_run,BX] <;> rfl
def rSlL (K:BP):V->Option Int->Option Int->Hp->VK->Prop:=λx lo hi H Q=>∃a xs,x = .ref a/\SqL K H a xs/\∀p,H p=none->Q (.ref p) (upd H p (.lst (fE xs lo hi)))
theorem sH:SlR X (rSlL X.K):=by
 intro pins s σ H x v vl vu lo hi sl Q I rx hs pl pu h
 obtain ⟨a,xs,rfl,hx,q⟩:=h
 cases rx
 obtain ⟨its,r,ht,hz⟩:=I.list hx
 have hlen:=r.length
 refine ⟨"list",_,slot_list_getitem.lookup,ht.isList.typeIs,?_⟩
 refine wpAny_getItem_list_slice ht.isList hs pl pu .none (by simp) ?_ (by rw[BX] <;> lia)
 rw[lL, <- hlen]
 refine ⟨.ref s.heap.objs.size,_,I.laid (t':=s.toks) (o :=.lst (fE xs lo hi)) (λb ob q=>BL _ q) (BS _) ?_,rfl,q _ (I.hok.fresh (BS _))⟩
 exact ⟨CP (jf xs lo hi) hz,_,0,(r.drop (HT.sIx xs.length 0 lo)).take (HT.sIx xs.length xs.length hi-HT.sIx xs.length 0 lo),BZ _ rfl⟩
def ie:V->Bool
 | .non=>true
 | .bl _=>true
 | .int _=>true
 | .str _=>true
 | _=>false
def eqV:V->V->Bool
 | .non,.non=>true
 | .bl a,.bl b=>a == b
 | .bl a,.int b=>(if a then 1 else 0) == b
 | .int a,.bl b=>a == (if b then 1 else 0)
 | .int a,.int b=>a == b
 | .str a,.str b=>a == b
 | _,_=>false
theorem z3 {A:Dd}{s:BQ}{y x:V}{u v:BM}(ry:RelV y u)(rx:RelV x v)(fy:ie y=true)(fx:ie x=true):IT A s u v (eqV y x):=by
 cases y with
 | non =>
  cases ry
  cases x with
  | non=>cases rx;exact SeqAt.EqAt.same _
  | bl b=>cases rx;exact SeqAt.EqAt.none_bool b
  | int b=>obtain ⟨t,rfl⟩:=rx;exact SeqAt.EqAt.none_int b t
  | str b=>obtain ⟨t,rfl⟩:=rx;exact SeqAt.EqAt.none_str b t
  | _=>exact absurd (show false=true from fx) B6
 | bl a =>
  cases ry
  cases x with
  | non=>cases rx;exact SeqAt.EqAt.bool_none a
  | bl b=>cases rx;exact SeqAt.EqAt.bool_bool a b
  | int b=>obtain ⟨t,rfl⟩:=rx;exact SeqAt.EqAt.bool_int a b t
  | str b=>obtain ⟨t,rfl⟩:=rx;exact SeqAt.EqAt.bool_str a b t
  | _=>exact absurd (show false=true from fx) B6
 | int a =>
  obtain ⟨t',rfl⟩:=ry
  cases x with
  | non=>cases rx;exact SeqAt.EqAt.int_none a t'
  | bl b=>cases rx;exact SeqAt.EqAt.int_bool a t' b
  | int b=>obtain ⟨t,rfl⟩:=rx;exact Ft a t' b t
  | str b=>obtain ⟨t,rfl⟩:=rx;exact Jl a t' b t
  | _=>exact absurd (show false=true from fx) B6
 | str a =>
  obtain ⟨t',rfl⟩:=ry
  cases x with
  | non=>cases rx;exact SeqAt.EqAt.str_none a t'
  | bl b=>cases rx;exact SeqAt.EqAt.str_bool a t' b
  | int b=>obtain ⟨t,rfl⟩:=rx;exact Jm a t' b t
  | str b=>obtain ⟨t,rfl⟩:=rx;exact SeqAt.EqAt.str_str a t' b t
  | _=>exact absurd (show false=true from fx) B6
 | _=>exact absurd (show false=true from fy) B6
def eqU (x:V)(u:BM):Bool:=match u with
 | .none=>eqV .non x
 | .bool b=>eqV (.bl b) x
 | .int i _=>eqV (.int i) x
 | .str z _=>eqV (.str z) x
 | _=>false
theorem vP {x y:V}{u:BM}(r:RelV y u)(f:ie y=true):eqU x u=eqV y x:=by
 cases y with
 | non=>cases r;rfl
 | bl b=>cases r;rfl
 | int i=>obtain ⟨t,rfl⟩:=r;rfl
 | str z=>obtain ⟨t,rfl⟩:=r;rfl
 | _=>exact absurd (show false=true from f) B6
theorem ig {x:V}:∀{xs:List V} {us:List BM},Vals xs us->xs.all ie=true->us.any (eqU x)=xs.any λy=>eqV y x
 | _,_,.nil,_=>rfl
 | y :: xs,u :: us,.cons r t,f=>by
  rw[KO,Dy] at f
  rw[Gj,Gj,vP r f.1,ig t f.2]
theorem fH {A:Dd}{s:BQ}{x:V}{v:BM}(rx:RelV x v)(fx:ie x=true):∀{xs:List V} {us:List BM},Vals xs us->xs.all ie=true->∀u∈us,IT A s u v (eqU x u)
 | _,_,.nil,_=>λu hu=>by cases hu
 | y :: xs,u :: us,.cons r t,f=>λu' hu=>by
  rw[KO,Dy] at f
  rcases Cg.mp hu with rfl | hu
  ·rw[vP r f.1];exact z3 r rx f.1 fx
  ·exact fH rx fx t f.2 u' hu
def inV (x:V)(xs:List V):Bool:=xs.any λy=>eqV y x
def rIn (K:BP)(neg:Bool):R2:=λx y H Q=>∃p xs,y = .ref p/\(SqL K H p xs\/SqT K H p xs)/\ie x=true/\xs.all ie=true/\Q (.bl (if neg then !inV x xs else inV x xs)) H
theorem uv:OpR X (DW .In) (rIn X.K false):=by
 intro pins s σ H x y v u Q I rx ry h
 obtain ⟨p,xs,rfl,hq,fx,fs,q⟩:=h
 cases ry
 rcases hq with hq | hq
 ·obtain ⟨its,r,pl,hz⟩:=I.list hq
  refine SeqAt.in_listAt (eqU x) pl.isList (λw hw=>fH rx fx r fs w (by simpa using hw)) ⟨.bl _,H,I,rfl,?_⟩
  rw[show its.toArray.any (eqU x)=its.any (eqU x) by simp,ig r fs]
  exact q
 ·obtain ⟨its,r,pl,hz⟩:=I.tuple hq
  refine SeqAt.in_tupleAt (eqU x) pl (λw hw=>fH rx fx r fs w (by simpa using hw)) ⟨.bl _,H,I,rfl,?_⟩
  rw[show its.toArray.any (eqU x)=its.any (eqU x) by simp,ig r fs]
  exact q
theorem nK:OpR X (DW .NotIn) (rIn X.K true):=by
 intro pins s σ H x y v u Q I rx ry h
 obtain ⟨p,xs,rfl,hq,fx,fs,q⟩:=h
 cases ry
 rcases hq with hq | hq
 ·obtain ⟨its,r,pl,hz⟩:=I.list hq
  refine SeqAt.notIn_listAt (eqU x) pl.isList (λw hw=>fH rx fx r fs w (by simpa using hw)) ⟨.bl _,H,I,rfl,?_⟩
  rw[show its.toArray.any (eqU x)=its.any (eqU x) by simp,ig r fs]
  exact q
 ·obtain ⟨its,r,pl,hz⟩:=I.tuple hq
  refine SeqAt.notIn_tupleAt (eqU x) pl (λw hw=>fH rx fx r fs w (by simpa using hw)) ⟨.bl _,H,I,rfl,?_⟩
  rw[show its.toArray.any (eqU x)=its.any (eqU x) by simp,ig r fs]
  exact q
theorem aZ:bC X (.builtin "len") (λxs H Q=>∃p ys,xs=[.ref p]/\(SqL X.K H p ys\/SqT X.K H p ys)/\Q (.int ys.length) H):=by
 intro pins s σ H xs us Q I r h
 obtain ⟨p,ys,rfl,hq,q⟩:=h
 obtain ⟨u,rfl,rx⟩:=vals1 r
 cases rx
 have hn:=nI
 rcases hq with hq | hq
 ·obtain ⟨its,r',pl,hz⟩:=I.list hq
  have hlen:=r'.length
  exact Calls.call_len_list pl.isList (by simp only[BX] <;> lia) ⟨.int ys.length,H,I.tok _,⟨s.toks+1,by rw[BX,hlen]⟩,q⟩
 ·obtain ⟨its,r',pl,hz⟩:=I.tuple hq
  have hlen:=r'.length
  exact Kv pl (by simp only[BX] <;> lia) ⟨.int ys.length,H,I.tok _,⟨s.toks+1,by rw[BX,hlen]⟩,q⟩
theorem ij:bC X (.type "list") (λxs H Q=>∃p ys,xs=[.ref p]/\(SqL X.K H p ys\/SqT X.K H p ys)/\∀l,H l=none->Q (.ref l) (upd H l (.lst ys))):=by
 intro pins s σ H xs us Q I r h
 obtain ⟨p,ys,rfl,hq,q⟩:=h
 obtain ⟨u,rfl,rx⟩:=vals1 r
 cases rx
 have fin:∀(its:List BM),Vals ys its->ys.length<=B4->∀(h':Heap) (c':Nat),(∀b o',s.heap.get? b=some o'->h'.get? b=some o') →
   h'.get? s.heap.objs.size=some { cls :=.type "list",dict:=none,data :=.seq its.toArray c',slots := #[] }->EP X pins σ Q (.ref s.heap.objs.size) { s with heap:=h' }:=λits r' hz h' c' kp e =>
  ⟨.ref s.heap.objs.size,_,I.laid (t':=s.toks) kp (BS _) (show bB X.prog X.w _ h' _ (.lst ys) from ⟨hz,its,c',r',e⟩),rfl,q _ (I.hok.fresh (BS _))⟩
 rcases hq with hq | hq
 ·obtain ⟨its,r',pl,hz⟩:=I.list hq
  have hlen:=r'.length
  obtain ⟨o,ho,hc,n,hd⟩:=pl.isList
  exact call_list_seq p (.inl rfl) ho hc hd (λh' c' kp e=>fin its r' hz h' c' kp e) (by simp only[BX] <;> lia)
 ·obtain ⟨its,r',pl,hz⟩:=I.tuple hq
  have hlen:=r'.length
  obtain ⟨o,ho,hc,n,hd⟩:=pl
  exact call_list_seq p (.inr rfl) ho hc hd (λh' c' kp e=>fin its r' hz h' c' kp e) (by simp only[BX] <;> lia)
theorem aR:bC X (.type "tuple") (λxs H Q=>∃p ys,xs=[.ref p]/\((SqL X.K H p ys/\∀l,H l=none->Q (.ref l) (upd H l (.tup ys)))\/(SqT X.K H p ys/\Q (.ref p) H))):=by
 intro pins s σ H xs us Q I r h
 obtain ⟨p,ys,rfl,h⟩:=h
 obtain ⟨u,rfl,rx⟩:=vals1 r
 cases rx
 rcases h with ⟨hq,q⟩ | ⟨hq,q⟩
 ·obtain ⟨its,r',pl,hz⟩:=I.list hq
  have hlen:=r'.length
  refine call_tuple_list pl.isList (λh' kp =>?_) (by simp only[BX] <;> lia)
  have I1:Inv X pins σ H { s with heap:=h' }:=I.kept (t':=s.toks) kp
  have I2:Inv X pins σ (upd H h'.objs.size (.tup ys)) { s with heap:=h'.push { cls :=.type "tuple",data :=.seq its.toArray } } :=
   I1.laid (t':=s.toks) (λb o e=>BL _ e) (BS _) (show bB X.prog X.w _ _ _ (.tup ys) from ⟨hz,its,r',dG.new _ _⟩)
  exact ⟨.ref h'.objs.size,_,I2,rfl,q _ (I1.hok.fresh (BS _))⟩
 ·obtain ⟨its,r',pl,hz⟩:=I.tuple hq
  exact call_tuple_same pl ⟨.ref p,H,I,rfl,q⟩
def tyV (K:BP)(T:String)(x:V)(H:Hp):Prop:=match x with
 | .str _=>T = "str"
 | .int _=>T = "int"
 | .ref p=>(T = "list" /\ ∃xs,SqL K H p xs)\/(T = "tuple" /\ ∃o,K.lookup p=some o/\o.cls = .type "tuple" /\ o.dict=none) ∨
   (T = "dict" /\ ((∃kvs,H p=some (.dK kvs))\/∃kvs,H p=some (.dT kvs)))\/(T = "set" /\ ∃S n,H p=some (.set S n))
 | _=>False
theorem vQ {pins:List (Addr×Obj)}{σ:St}{H:Hp}{s:BQ}{T:String}{x:V}{v:BM}(I:Inv X pins σ H s)(r:RelV x v)(ty:tyV X.K T x H) :
  s.TypeIs v T/\∀a,v = .ref a->∃ob,s.heap.get? a=some ob/\ob.dict=none:=by
 cases x with
 | str z =>
  obtain ⟨t,rfl⟩:=r
  cases (show T = "str" from ty)
  exact ⟨typeIs_str s z t,λ_ e=>nomatch e⟩
 | int i =>
  obtain ⟨t,rfl⟩:=r
  cases (show T = "int" from ty)
  exact ⟨IS s i t,λ_ e=>nomatch e⟩
 | ref p =>
  cases r
  rcases ty with ⟨rfl,xs,hq⟩ | ⟨rfl,o,hk,hc,hd⟩ | ⟨rfl,hk⟩ | ⟨rfl,S,n,hk⟩
  ·obtain ⟨its,_,pl,_⟩:=I.list hq
   refine ⟨pl.isList.typeIs,λa e =>?_⟩
   cases e
   obtain ⟨o,n,e,c,hd,_⟩:=pl
   exact ⟨o,e,hd⟩
  ·refine ⟨⟨o,I.kIn p o hk,hc⟩,λa e =>?_⟩
   cases e
   exact ⟨o,I.kIn _ o hk,hd⟩
  ·have z:∃o,s.heap.get? p=some o/\o.ExactDict:=by
    rcases hk with ⟨kvs,hk⟩ | ⟨kvs,hk⟩
    ·obtain ⟨_,_,_,_,o,_,_,e,ex,_⟩:=I.hok p _ hk
     exact ⟨o,e,ex⟩
    ·obtain ⟨_,_,_,_,o,_,_,e,ex,_⟩:=I.hok p _ hk
     exact ⟨o,e,ex⟩
   obtain ⟨o,e,ex⟩:=z
   refine ⟨⟨o,e,ex.1⟩,λa e2 =>?_⟩
   cases e2
   exact ⟨o,e,ex.2.1⟩
  ·obtain ⟨o,_,_,_,e,ex,_⟩:=I.hok p _ hk
   refine ⟨⟨o,e,ex.1⟩,λa e2 =>?_⟩
   cases e2
   exact ⟨o,e,ex.2.1⟩
 | _=>exact False.elim ty
def tBM0 (K:BP)(T:String)(r:V->List V->Hp->VK->Prop)(to:TE):TE:=λσ H Q=>to σ H λx H1=>tyV K T x H1/\r x [] H1 Q
def tBM (K:BP)(T:String)(r:V->List V->Hp->VK->Prop)(to:TE)(t:TA):TE:=λσ H Q=>to σ H λx H1=>tyV K T x H1/\t σ H1 λxs H2=>r x xs H2 Q
variable  {o e:Expr}{es:List Expr}{to:TE}{t:TA}{name:Str}{apos cpos:Pos}{T id:String}{r:V->List V->Hp->VK->Prop}
theorem z4 (pa:PlainAttrs T)(slot:Slot T name id)(hty:typeOf (.builtin id)=pure (.type "method_descriptor"))(hm:MtR X id r)(ho:PE X o to)
  (hbase:attributeBase o name X.env (eval o X.env)=eval o X.env:=by rfl) (hline:(apos.endLine == cpos.line)=true:=by rfl):PE X (.Call (.Attribute o name apos) [] [] cpos) (tBM0 X.K T r to):=by
 intro pins s σ H Q I h
 refine wpAny_Call_method0_late hbase hline (thn (ho pins s σ H _ I h) λv s1 ⟨x,H1,I1,r1,ty,q1⟩ =>?_)
 obtain ⟨h1,h2⟩:=vQ I1 r1 ty
 exact ⟨T,id,pa,slot,hty,h1,h2,Gy rfl (PySem.evalArgs_none (hm pins s1 σ H1 x [] v [] Q I1 r1 .nil q1))⟩
theorem cS (pa:PlainAttrs T)(slot:Slot T name id)(hty:typeOf (.builtin id)=pure (.type "method_descriptor"))(hm:MtR X id r)(ho:PE X o to)(ha:PA X (e :: es) t)
  (hbase:attributeBase o name X.env (eval o X.env)=eval o X.env:=by rfl)
  (hfew:((Fo cpos (CN (e :: es) X.env)).all (λx => !x.1) && (backToKw cpos (keywordEach [] X.env)).all (λx=>x.1.isSome)
   && decide ((e :: es).length+([]:List Keyword).length+(if ([]:List Keyword).isEmpty then 0 else 1)<30))=true:=by rfl)
  (hline:(apos.endLine == cpos.line)=true:=by rfl) (hs:CN (e :: es) X.env=(false,eval e X.env) :: CN es X.env:=by rfl) (hplain:(Fo cpos (CN es X.env)).any (·.1)=false:=by rfl) :
  PE X (.Call (.Attribute o name apos) (e :: es) [] cpos) (tBM X.K T r to t):=by
 intro pins s σ H Q I h
 refine Io hbase hfew hline rfl (thn (ho pins s σ H _ I h) λv s1 ⟨x,H1,I1,r1,ty,q1⟩ =>?_)
 obtain ⟨h1,h2⟩:=vQ I1 r1 ty
 refine ⟨T,id,pa,slot,hty,h1,h2,?_⟩
 have hA:=ha cpos pins s1 σ H1 _ I1 q1
 rw[hs] at hA ⊢
 refine Gy (by show (false || (Fo cpos (CN es X.env)).any (·.1))=false;rw[hplain] <;> rfl) (G0 ?_)
 exact thn hA λus s2 ⟨vs,H2,I2,r2,q2⟩=>hm pins s2 σ H2 x vs v us Q I2 r1 r2 q2
end
open PySem PySem.Spec PyProof.Rows
def MtM (X:Cx)(id:String)(r:V->List V->Hp->VK->Prop):Prop :=
 ∀(pins:List (Addr×Obj)) (s:BQ) (σ:St) (H:Hp) (x:V) (xs:List V) (v:BM) (us:List BM) (Q:VK),Inv X pins σ H s->RelV x v->Vals xs us->r x xs H Q →
  Ci (Cs X.prog X.w) X.A (call (.builtin id) (v :: us)) (EP X pins σ Q) X.xe s
theorem Vals.one:∀{x:V} {us:List BM},Vals [x] us->∃u,us=[u]/\RelV x u
 | _,_,.cons r .nil=>⟨_,rfl,r⟩
theorem Vals.zero:∀{us:List BM},Vals [] us->us=[]
 | _,.nil=>rfl
theorem Vals.dropLast {xs:List V}{us:List BM}(h:Vals xs us):Vals xs.dropLast us.dropLast:=by
 induction h with
 | nil=>exact .nil
 | cons r t ih =>
  cases t with
  | nil=>exact .nil
  | cons q t'=>exact .cons r ih
theorem Vals.eraseIdx:∀{xs:List V} {us:List BM} (i:Nat),Vals xs us->Vals (xs.eraseIdx i) (us.eraseIdx i)
 | _,_,_,.nil =>.nil
 | _,_,0,.cons _ t=>t
 | _,_,i+1,.cons r t =>.cons r (Vals.eraseIdx i t)
theorem Vals.rep {xs:List V}{us:List BM}(h:Vals xs us):∀k:Nat,Vals (CG k xs).flatten (CG k us).flatten
 | 0 =>.nil
 | k+1=>by
  rw[Ej,Ej,Ek,Ek]
  exact Vals.append h (Vals.rep h k)
theorem qX {α:Type}(l:List α):l.eraseIdx (l.length-1)=l.dropLast:=by
 induction l with
 | nil=>rfl
 | cons a r ih =>
  cases r with
  | nil=>rfl
  | cons b r =>
   have e:(a :: b :: r).length-1=((b :: r).length-1)+1:=by
    have h1:(a :: b :: r).length=r.length+2:=rfl
    have h2:(b :: r).length=r.length+1:=rfl
    lia
   rw[e,Gk,ih]
   all_goals rfl
theorem ml {α:Type}:∀(l:List α) (i:Nat),(l.eraseIdx i).length<=l.length
 | [],_=>BS _
 | _ :: _,0=>HL _
 | _ :: r,i+1=>HZ (ml r i)
theorem foldl_rep (its:List BM):∀(k:Nat) (acc:List BM),
  List.foldl (λx1 x2=>x1++x2) acc.toArray (CG k its.toArray)=(acc++(CG k its).flatten).toArray
 | 0,acc=>by simp
 | k+1,acc=>by
  have e:acc.toArray++its.toArray=(acc++its).toArray:=by simp
  have e2:(acc++its)++(CG k its).flatten=acc++(CG (k+1) its).flatten:=by
   rw[Ej,Ek,Cy]
  rw[<- e2, <- foldl_rep its k (acc++its), <- e,Ej,Ir]
section
variable  {X:Cx}{pins:List (Addr×Obj)}{σ:St}{H:Hp}{s:BQ}{l b:Addr}{xs ys zs:List V}
theorem Inv.x5 {its its':List BM}{n:Nat}{f:Array BM->Array BM}{t':Nat}(I:Inv X pins σ H s)(hH:H l=some (.lst xs))
  (e:s.heap.get? l=some { cls :=.type "list",data :=.seq its.toArray n }) (hf:f its.toArray=its'.toArray) (hv:Vals ys its') (hz:ys.length<=B4) :
  Inv X pins σ (upd H l (.lst ys)) { s with heap:=s.heap.update l (DU f),toks:=t' }:=by
 have q:=PySem.IsL.update e f
 rw[hf] at q
 refine I.write (x:=l) (e:=l) (by rw[hH];exact trivial) (.inl rfl) (λb' u hb hu=>(Cm s.heap (DU f) (Dq hb)).trans hu) ⟨_,q⟩ ?_
 exact ⟨hz,its',_,hv,q⟩
theorem Inv.Bh {its:List BM}{t':Nat}(I:Inv X pins σ H s)(hv:Vals ys its)(hz:ys.length<=B4) :
  Inv X pins σ (upd H s.heap.objs.size (.lst ys)) { s with heap:=s.heap.push { cls :=.type "list",data :=.seq its.toArray },toks:=t' } :=
 I.laid (λ_ _ q=>BL _ q) (BS _) ⟨hz,its,0,hv,BZ _ rfl⟩
theorem Inv.fresh (I:Inv X pins σ H s):H s.heap.objs.size=none:=I.hok.fresh (BS _)
theorem Inv.uw (I:Inv X pins σ H s)(hH:H l=some (.lst xs)):xs.length<=B4/\∃(its:List BM) (n:Nat),Vals xs its/\xs.length=its.length/\s.heap.get? l=some { cls :=.type "list",data :=.seq its.toArray n }:=by
 obtain ⟨z,its,n,r,e⟩:=I.hok l _ hH
 exact ⟨z,its,n,r,r.length,e⟩
theorem jX {n:Nat}(h:n<=B4):Builtin.List.listTooLong n=false:=by
 unfold Builtin.List.listTooLong
 exact decide_eq_false (by lia)
end
section
variable  {X:Cx}
def x6:V->List V->Hp->VK->Prop:=λx vs H Q=>∃l xs y,x = .ref l/\vs=[y]/\H l=some (.lst xs)/\xs.length<B4/\Q .non (upd H l (.lst (xs++[y])))
theorem bL:MtM X "list.append" x6:=by
 intro pins s σ H x vs v us Q I rx rv h
 obtain ⟨l,xs,y,rfl,rfl,hH,hz,q⟩:=h
 cases rx
 obtain ⟨u,rfl,ru⟩:=rv.one
 obtain ⟨z,its,n,r,hl,e⟩:=I.uw hH
 refine GG F.slot_list_append ⟨_,e,rfl⟩ F.entry_list_append (F.args_list_append_2 _ _) (PySem.list_append l its.toArray n u (by rw[BX];lia)) ⟨e,?_⟩
 refine ⟨.non,_,I.x5 (its':=its++[u]) hH e (by simp) (r.append (.cons ru .nil)) ?_,rfl,q⟩
 rw[BR,C7]
 lia
def x8:V->List V->Hp->VK->Prop:=λx vs H Q=>∃l b xs zs,x = .ref l/\vs=[.ref b]/\H l=some (.lst xs)/\H b=some (.lst zs)/\xs.length+zs.length<=B4/\Q .non (upd H l (.lst (xs++zs)))
theorem iN:MtM X "list.extend" x8:=by
 intro pins s σ H x vs v us Q I rx rv h
 obtain ⟨l,b,xs,zs,rfl,rfl,hH,hB,hz,q⟩:=h
 cases rx
 obtain ⟨u,rfl,ru⟩:=rv.one
 cases ru
 obtain ⟨z,its,n,r,hl,e⟩:=I.uw hH
 obtain ⟨z2,its2,n2,r2,hl2,e2⟩:=I.uw hB
 have hsz:its.toArray.size+its2.toArray.size<=B4:=by rw[BX,BX];lia
 have hlong:¬ (!its.toArray.isEmpty && Builtin.List.listTooLong (its.toArray.size+its2.toArray.size))=true:=by
  rw[jX hsz,Ht]
  exact B6
 refine GG F.slot_list_extend ⟨_,e,rfl⟩ F.entry_list_extend (F.args_list_extend_2 _ _)
  (AutoSeq1.list_extend_list_list_0 l its.toArray n b its2.toArray n2 hlong (by rw[BX];lia) (by lia)) ⟨e,e2,?_⟩
 refine ⟨.non,_,I.x5 (its':=its++its2) hH e (by simp) (r.append r2) ?_,rfl,q⟩
 rw[BR]
 lia
def rPop:V->List V->Hp->VK->Prop:=λx vs H Q=>∃l xs y,x = .ref l/\vs=[]/\H l=some (.lst xs)/\xs[xs.length-1]? = some y/\Q y (upd H l (.lst xs.dropLast))
theorem z5:MtM X "list.pop" rPop:=by
 intro pins s σ H x vs v us Q I rx rv h
 obtain ⟨l,xs,y,rfl,rfl,hH,hy,q⟩:=h
 cases rx
 have hus:=rv.zero
 subst hus
 obtain ⟨z,its,n,r,hl,e⟩:=I.uw hH
 obtain ⟨u,hu,ru⟩:=r.get hy
 have hy':its.toArray[its.toArray.size-1]? = some u:=by
  show its.toArray[its.length-1]? = some u
  rw[<- B3, <- hl]
  exact hu
 refine GG Kj ⟨_,e,rfl⟩ J6 (F.args_list_pop_1 _) (MeetsSeq.list_pop_last l its.toArray n u hy' (by rw[BX];lia)) ⟨e,?_⟩
 refine ⟨y,_,I.x5 (its':=its.dropLast) hH e ?_ r.dropLast ?_,ru,q⟩
 ·show its.toArray.eraseIdxIfInBounds (its.toArray.size-1)=its.dropLast.toArray
  rw[BX,GC,qX]
 ·rw[List.length_dropLast]
  lia
def z6:V->List V->Hp->VK->Prop:=λx vs H Q=>∃l xs i k y,x = .ref l/\vs=[.int i]/\H l=some (.lst xs) /\ -(2 ^ 63)<=i/\i<2 ^ 63/\seqIndex? i xs.length=some k/\xs[k]? = some y/\Q y (upd H l (.lst (xs.eraseIdx k)))
theorem o9:MtM X "list.pop" z6:=by
 intro pins s σ H x vs v us Q I rx rv h
 obtain ⟨l,xs,i,k,y,rfl,rfl,hH,h1,h2,hk,hy,q⟩:=h
 cases rx
 obtain ⟨u,rfl,ru⟩:=rv.one
 obtain ⟨t,rfl⟩:=ru
 obtain ⟨z,its,n,r,hl,e⟩:=I.uw hH
 obtain ⟨w,hw,rw'⟩:=r.get hy
 refine GG Kj ⟨_,e,rfl⟩ J6 (F.args_list_pop_2 _ _)
  (MeetsSeq.list_pop_at l its.toArray n i t k w (fitsIndex_both h1 h2) (by rw[BX, <- hl];exact hk) (by rw[<- B3];exact hw) (by rw[BX];lia)) ⟨e,?_⟩
 refine ⟨y,_,I.x5 (its':=its.eraseIdx k) hH e ?_ (r.eraseIdx k) ?_,rw',q⟩
 ·show its.toArray.eraseIdxIfInBounds k=(its.eraseIdx k).toArray
  rw[GC]
 ·have:=ml xs k
  lia
def rRep:R2:=λx y H Q=>∃l k xs,x = .ref l/\y = .int k/\H l=some (.lst xs) /\ -(2 ^ 63)<=k/\k<2 ^ 63/\xs.length*k.toNat<=B4 ∧
 ∀p,H p=none->Q (.ref p) (upd H p (.lst (CG k.toNat xs).flatten))
theorem len_rep {α:Type}(xs:List α)(k:Nat):(CG k xs).flatten.length=k*xs.length:=by
 induction k with
 | zero=>simp
 | succ k ih=>rw[Ej,Ek,BR,ih,Nat.succ_mul,Nat.add_comm]
theorem z7:OpR X (binaryOp .Mult) rRep:=by
 intro pins s σ H x y v u Q I rx ry h
 obtain ⟨l,k,xs,rfl,rfl,hH,h1,h2,hz,q⟩:=h
 cases rx
 obtain ⟨t,rfl⟩:=ry
 obtain ⟨z,its,n,r,hl,e⟩:=I.uw hH
 have hlen:its.toArray.size*k.toNat<=B4:=by rw[BX, <- hl];exact hz
 have hcap:¬ its.toArray.size*k.toNat>(2 ^ 63-1)/8:=by
  have:(B4:Nat)<=(2 ^ 63-1)/8:=by decide
  lia
 have hfit:¬ (!Builtin.List.listFitsIndex k)=true:=by
  rw[fitsIndex_both h1 h2]
  exact B6
 have hlong:¬ Builtin.List.listTooLong (its.toArray.size*k.toNat)=true:=by
  rw[jX hlen]
  exact B6
 have hnew:List.foldl (λx1 x2=>x1++x2) #[] (CG (if its.toArray.isEmpty=true then 0 else k.toNat) its.toArray)=(CG k.toNat its).flatten.toArray:=by
  have f0:∀m:Nat,List.foldl (λx1 x2=>x1++x2) #[] (CG m its.toArray)=(CG m its).flatten.toArray:=λm=>by
   have:=foldl_rep its m []
   rw[Gm] at this
   exact this
  rw[f0]
  cases its with
  | nil=>simp
  | cons a r'=>rw[if_neg (by simp)]
 refine wpAny_binaryOp_repeat_ref (T := "list") (U := "int") (by decide) ⟨_,e,rfl⟩ (λs'=>IS s' k t) noFill_list_mul F.fills_int_mul Kk repeat_list F.slot_int_index.lookup
  (GG Kk (IS s k t) F.entry_int_rmul (F.args_int_rmul_2 _ _) (int___rmul___int_list k t l its.toArray n)
   ⟨e,rfl,⟨_,e,rfl⟩,GG F.slot_list_mul ⟨_,e,rfl⟩ F.entry_list_mul (F.args_list_mul_2 _ _) (AutoListH.list___mul___list_int_3 l its.toArray n k t hfit hcap hlong) ⟨e,?_⟩⟩)
 rw[hnew]
 exact ⟨.ref _,_,I.Bh (t':=s.toks) (r.rep k.toNat) (by rw[len_rep,Nat.mul_comm];exact hz),rfl,q _ I.fresh⟩
end
section
variable  {prog:Ca}{w:CJ}{A:Dd}{E:BM->BQ->Prop}{s:BQ}
end
section
variable  {X:Cx}
end
end L2
namespace Att
open PySem PySem.W PySem.Calls PyProof.Rows
theorem jw {P:Params}{h:Heap}:∀(ns:List Int) (vs:List BM),WellAll P h vs (ns.map WData.int)->Ez vs ns:=by
 intro ns
 induction ns with
 | nil =>
  intro vs w
  rw[Iq] at w
  cases w
  exact .nil
 | cons n ns ih =>
  intro vs w
  rw[CC] at w
  cases w with
  | cons a b =>
   cases a
   exact .cons _ _ (ih _ b)
theorem ux {l:OpenLaw}{n:Nat}(hn:l.most=some n){P:Params}{h:Heap}{args:List WData}{vals:List BM}
  (hpre:l.row.toRowW.claim.pre args=true) (hwl:WellAll P h vals args) :
  ∃a vs ns,vals=[Cd a]/\args=[WData.list (ns.map WData.int)]/\h.get? a=some { cls :=.type "list",data :=.seq vs.toArray }/\Ez vs ns/\ns.length<=n:=by
 have hsh:WShape.hasAll [] args [.list .int]=true:=(pre_splitW hpre).1
 have hc:l.pre.holds [] { args:=args }=true:=(pre_splitW hpre).2
 obtain ⟨d,r,rfl,h1,h2⟩:=hasAllW_cons hsh
 obtain rfl:=hasAllW_nil h2
 obtain ⟨xs,rfl,h3⟩:=hasW_list h1
 obtain ⟨ns,rfl⟩:=items_int h3
 have hlen:ns.length<=n:=by
  unfold OpenLaw.pre at hc
  have h4:(WTm.not (.lt (.lit (.int (n:Int))) (.len (.arg 0)))).holds [] { args:=[.list (ns.map .int)] }=true:=by
   have h4:=(holds_andW hc).1
   rw[hn] at h4
   exact h4
  have h5:=condW_of h4 (w_not (w_lt w_lit (w_len_list (w_arg rfl))))
  rw[BK] at h5
  refine GR λq =>?_
  have q':(n:Int)<((ns.length:Nat):Int):=by omega
  first
   | (rw[decide_eq_true q'] at h5;exact absurd h5 (by decide))
   | (simp at h5;omega)
 cases hwl with
 | cons w1 w2 =>
  cases w2
  cases w1 with
  | list ho hall=>exact ⟨_,_,ns,rfl,rfl,ho,jw ns _ hall,hlen⟩
theorem uy (l:OpenLaw)(args:List WData):l.row.toRowW.claim.post args (.bool true) args=true :=
 postW_of (r:=l.row.toRowW) (X:=(true == true))
  (show WShape.has [] (.bool true) .bool=true by first | rfl | decide | simp[WShape.has,WShape.arms,WShape.armsAll])
  (show (WTm.eq .res (.lit (.bool true))).value [] { args:=args,res:=some (.bool true),after:=args }=some (.bool (true == true)) from w_eq_bool (w_res rfl) w_lit) rfl
theorem pf {l:OpenLaw}{n:Nat}{q:Ca}{loose:List Str}{XP:(Str->Option BM)->Heap->Prop}{YP:CJ->Heap->Prop}{d:DefRec}
  (hn:l.most=some n) (hdf:d.params.defaults=[])
  (call:∀(w:CJ) (s₀ s₁:BQ) (mg mb:Str->Option BM) (fa:Addr) (o:Obj) (pm cd doc:BM) (a:Addr) (vs:List BM) (ns:List Int),
   Ground q loose [] XP w s₀ mg mb s₁.heap->YP w s₁.heap →
   s₁.heap.get? fa=some o->o.data = .func (docDef d.name d.params d.body d.scope pm cd doc)->s₁.heap.CodeRec cd d.name->mg d.name=some (.ref fa) →
   s₁.heap.get? a=some { cls :=.type "list",data :=.seq vs.toArray }->Ez vs ns->ns.length<=n->s₁.gens = #[] →
   FC (Cs l.prog w) callerA (.call (.ref fa) ⟨[.ref a],[]⟩) (λr s'=>r = .ok (.ret (.bool true))/\OldK s₁.heap s'.heap/\s'.os=s₁.os/\AllBare s'.gens) s₁) :
  WalkO q loose XP YP l.row.toRowW d [] (λf vs=>PySem.call f vs):=by
 intro w s₀ s₁ mg mb G Y fa o pm cd doc dV kV ho hd hcd hD hmg hg args vals as hpre hlay hrd hwl hlo
 obtain rfl:dV = .none:=Dflts.none hD hdf
 obtain rfl:kV = .none:=Dflts.noKw hD
 obtain ⟨a,vs,ns,rfl,rfl,hobj,hints,hlen⟩:=ux hn hpre hwl
 refine enter_call (Fc (call w s₀ s₁ mg mb fa o pm cd doc a vs ns G Y ho (fd_plain hd) hcd hmg hobj hints hlen hg) λr s' hq =>?_)
 obtain ⟨rfl,h2,h3,h4⟩:=hq
 exact ⟨.inl ⟨.bool true,.bool true,[],rfl,λ_=>rfl,.bool true,uy l _,λ_=>⟨List.Pairwise.nil,λ_ hm=>(nomatch hm)⟩⟩,h2,h3,h4⟩
section
variable  {prog:Ca}{w:CJ}{A:Dd}{E:BM->BQ->Prop}{s:BQ}{K:Frag}
def ledger (h:Heap)(L d:Addr):List (Addr×Obj):=(Dl h.objs.size).filterMap λa=>if a=L\/a=d then none else (h.get? a).map λo=>(a,o)
end
end Att
namespace L2
open PySem PySem.Spec PyProof.Rows
theorem iO:∀{vs:List BM} {ns:List Int},Ez vs ns->Vals (ns.map V.int) vs
 | _,_,.nil =>.nil
 | _,_,.cons n t h =>.cons ⟨t,rfl⟩ (iO h)
def z8 (H:Hp):Prop:=∀b,H b=none\/∃o xs,H b=some (.frz o (.lst xs))
theorem vR {P:Ca}{w:CJ}{K:BP}{mg mb:Str->Option BM}{CX:CXT}{k:Nat}{fa a:Addr}{fd:De}{x:Str}{sp:Sp}{s₁:BQ}{vs:List BM}{ns:List Int}
  (KX:K.In s₁.heap) (hns:s₁.heap.Ns Cz mg) (hb:s₁.heap.Ns builtinsNs mb) (hbb:∀x:Str,x ≠ "__name__" -> mb x=Dn x) (hlim:s₁.heap.NoLimit) (hg:s₁.gens = #[])
  (ha:s₁.heap.get? a=some { cls :=.type "list",data :=.seq vs.toArray }) (hi:Ez vs ns) (hl:ns.length<=B4) (hr:cW k callerA)
  (F:∀base:Heap,K.In base->base.Ns Cz mg->bM P w K mg base CX k fa fd [x] sp) (hbind:∀(s:BQ) (u:BM),BindsTo s fd ⟨[u],[]⟩ [(x,u)])
  (hsp:∀H:Hp,z8 H->SqL K H a (ns.map V.int)->sp [.ref a] H (λv _=>v = .bl true) λ_ _ _=>False)
  (hCX:∀H e s',CX [] H s₁ (λ_ _ _=>False) e s'->False) :
  FC (Cs P w) callerA (.call (.ref fa) ⟨[.ref a],[]⟩) (λr s'=>r = .ok (.ret (.bool true))/\OldK s₁.heap s'.heap/\s'.os=s₁.os/\AllBare s'.gens) s₁:=by
 have rv:=iO hi
 have lenV:=hi.length
 have core:∀H:Hp,z8 H->SqL K H a (ns.map V.int)->HOk P w H s₁.heap->(∀b,H b≠none->b=a)->(H a≠none->K.lookup a=none) →
   FC (Cs P w) callerA (.call (.ref fa) ⟨[.ref a],[]⟩) (λr s'=>r = .ok (.ret (.bool true))/\OldK s₁.heap s'.heap/\s'.os=s₁.os/\AllBare s'.gens) s₁:=by
  intro H hO hS hok hA hK
  have base_of:∀{b:Addr} {o:Obj},s₁.heap.get? b=some o->H b=none->(nE s₁.heap H).get? b=some o:=λe n=>vC e n
  have noA:∀{b:Addr} {o:Obj} {es:Array DictEntry} {ep:Nat},s₁.heap.get? b=some o->o.data = .dict es ep->H b=none:=λ{b o es ep} e d=>by
   cases q:H b with
   | none=>rfl
   | some u =>
    have e':b=a:=hA b (by rw[q];simp)
    subst e'
    rw[ha] at e;cases e
    have d':Data.seq vs.toArray _=Data.dict es ep:=d
    cases d'
  have nsK:∀{b:Addr} {m:Str->Option BM},s₁.heap.Ns b m->(nE s₁.heap H).Ns b m:=λ{b m} ⟨o,es,ep,e,d,r⟩=>⟨o,es,ep,base_of e (noA e d),d,r⟩
  have hKb:K.In (nE s₁.heap H):=λb o e=>base_of (KX b o e) (by
   cases q:H b with
   | none=>rfl
   | some u =>
    have e':b=a:=hA b (by rw[q];simp)
    subst e'
    rw[hK (by rw[q];simp)] at e;cases e)
  have hM:Mod K mg (nE s₁.heap H):=⟨hKb,nsK hns,⟨mb,nsK hb,hbb⟩,let ⟨mc,h1,h2⟩:=hlim;⟨mc,nsK h1,h2⟩⟩
  have e0:xV P w K mg (nE s₁.heap H) callerA [] s₁ H:=⟨rfl,hM,λb o e=>xP e,Nat.le_of_eq (uh _ _),trivial,λb hb=>absurd (show b∈([]:List Addr) from hb) (by simp),hok,.of_eq hg⟩
  refine Fc ((F _ hKb (nsK hns)).run callerA [] s₁ H ⟨[.ref a],[]⟩ [.ref a] [.ref a] _ _ hr e0 (hbind s₁ (.ref a)) (.cons rfl .nil) (hsp H hO hS)) λr s' h =>?_
  cases r with
  | error e=>exact (hCX H e s' h).elim
  | ok fl =>
   cases fl with
   | next=>exact False.elim h
   | brk=>exact False.elim h
   | cont=>exact False.elim h
   | ret u =>
    obtain ⟨v,H',os,bare,un,hok',r',q⟩:=h
    have q':v = .bl true:=q
    subst q'
    obtain rfl:u=Value.bool true:=r'
    refine ⟨rfl,OldK.of_keep λb o e =>?_,os,bare⟩
    cases q:H b with
    | none=>exact un.keep b o e q (by intro z;exact absurd (show b∈([]:List Addr) from z) (by simp)) (by simp)
    | some u =>
     rcases hO b with z | ⟨ob,xs,z⟩
     ·rw[q] at z;cases z
     ·have z2:=un.frzs b ob _ z
      obtain ⟨e1,_⟩:=hok b _ z
      obtain ⟨e2,_⟩:=hok' b _ z2
      rw[e] at e1;cases e1
      exact e2
 cases hk:K.lookup a with
 | some o =>
  have e:=KX a o hk
  rw[ha] at e
  cases e
  refine core (λ_=>none) (λ_ =>.inl rfl) (.inr ⟨_,vs.toArray,_,hk,rfl,rfl,rfl,by rw[BX,lenV];exact hl,by simpa using rv⟩) (λb u z=>by have z':(none:Option HO)=some u:=z;cases z') (λb z=>absurd rfl z) λz=>absurd rfl z
 | none =>
  refine core (λb=>if b=a then some (.frz { cls :=.type "list",data :=.seq vs.toArray } (.lst (ns.map V.int))) else none) (λb =>?_) (.inl (.inr ⟨{ cls :=.type "list",data :=.seq vs.toArray },if_pos rfl⟩)) (λb u z =>?_) (λb z =>?_) λ_=>hk
  ·by_cases hb:b=a
   ·exact .inr ⟨_,_,if_pos hb⟩
   ·exact .inl (if_neg hb)
  ·by_cases hb:b=a
   ·have z':=(if_pos hb).symm.trans z
    cases z'
    subst hb
    exact ⟨ha,by rw[BK];exact hl,vs,_,rv,ha⟩
   ·have z':=(if_neg hb).symm.trans z
    cases z'
  ·by_cases hb:b=a
   ·exact hb
   ·exact absurd (if_neg hb) z
open PySem PySem.Spec PyProof.Rows
theorem x9 {l:PySem.W.OpenLaw}{n k:Nat}{q:Ca}{loose:List Str}{XP:(Str->Option BM)->Heap->Prop}{YP:CJ->Heap->Prop}{d:DefRec}{K:Params->BP}{CX:CJ->CXT}{sp:CJ->Sp}{x:Str}
  (hn:l.most=some n) (hn2:n<=B4) (hdf:d.params.defaults=[]) (hr:cW k callerA)
  (hY:∀(w:CJ) (h:Heap),YP w h->(K w.params).In h)
  (F:∀(w:CJ) (mg:Str->Option BM) (fa:Addr) (h:Heap),(K w.params).In h->h.Ns Cz mg->mg d.name=some (.ref fa) →
   ∃fd:De,(∀(s:BQ) (u:BM),BindsTo s fd ⟨[u],[]⟩ [(x,u)]) ∧
    ∀base:Heap,(K w.params).In base->base.Ns Cz mg->bM l.prog w (K w.params) mg base (CX w) k fa fd [x] (sp w))
  (hsp:∀(w:CJ) (H:Hp) (a:Addr) (ns:List Int),ns.length<=n->z8 H->SqL (K w.params) H a (ns.map V.int)->sp w [.ref a] H (λv _=>v = .bl true) λ_ _ _=>False)
  (hCX:∀(w:CJ) (H:Hp) (s:BQ) (e:BM) (s':BQ),CX w [] H s (λ_ _ _=>False) e s'->False) :
  PySem.W.WalkO q loose XP YP l.row.toRowW d [] (λf vs=>PySem.call f vs):=by
 refine Att.pf hn hdf λw s₀ s₁ mg mb fa o pm cd doc a vs ns G Y ho hd hcd hmg hobj hints hlen hg =>?_
 have KX:=hY w _ Y
 obtain ⟨fd,hb,hF⟩:=F w mg fa _ KX G.T.g hmg
 exact vR KX G.T.g G.T.b G.T.builtins G.T.nolimit hg hobj hints (CP hlen hn2) hr hF hb (λH hO hS=>hsp w H a ns hlen hO hS) λH e s'=>hCX w H s₁ e s'
open PySem PySem.Spec PyProof.Rows
def dA (s:Stmt):Arguments:=match s with
 | .FunctionDef _ a _ _ _ _ _ _ _ _=>a
 | _=>{ posonlyargs:=[],args:=[],vararg:=none,kwonlyargs:=[],kw_defaults:=[],kwarg:=none,defaults:=[] }
def bS (s:Stmt):List Stmt:=match s with
 | .FunctionDef _ _ b _ _ _ _ _ _ _=>b
 | _=>[]
def aA (s:Stmt):Scope:=match s with
 | .FunctionDef _ _ _ _ _ _ sc _ _ _=>sc
 | _=>{ kind :=.function,names:=[],isGenerator:=false,isCoroutine:=false }
abbrev CX0:CXT:=λ_ _ _ _ _ _=>False
abbrev E0:XK:=λ_ _ _=>False
theorem Bi {X:Cx}:Passes CX0 X E0:=λ_ _ _ _ _ _ _ h=>h.elim
structure Fun (K:BP)(x qual:Str)(st:Stmt)(f:Addr)(fd:De):Prop where
 ex:∃(oc:BM) (od:Option Addr) (kV doc pm:BM) (an:Option Addr) (cdv ct:BM) (osl:Array (Option BM)),
  fd=PySem.W.fnOf x qual (dA st) (bS st) (aA st) .none kV doc pm an cdv ct/\K.lookup f=some ⟨oc,od,.func fd,osl⟩/\PySem.W.codeIn K cdv qual=true
 kp:PySem.W.keepIn K (.ref f)=true
section
variable  {P:Ca}{w:CJ}{K:BP}{mg:Str->Option BM}{base:Heap}
theorem Fun.ok {x qual:Str}{st:Stmt}{f:Addr}{fd:De}{N ps:List Str}{k:Nat}{sp:Sp}(F:Fun K x qual st f fd)(S:aK N ps (aA st))(len:∀vs H Q E,sp vs H Q E->vs.length=ps.length)
  (hbody:∀(cdv:BM) (A:Dd) (outer:List Env) (s:BQ) (H:Hp) (vs:List V) (Q:VK) (E:XK),cW k (A.deeper (envOfC qual (aA st) s.heap.objs.size f cdv))->sp vs H Q E →
   ∃t,PSs (lH CX0 P w K mg base N qual (aA st) f cdv A outer s H E).nox (bS st) t/\t { nx:=λ_ H'=>Q .non H',rt:=Q } (start N vs) H):bM P w K mg base CX0 (k+1) f fd ps sp:=by
 obtain ⟨oc,od,kV,doc,pm,an,cdv,ct,osl,rfl,lk,hcd⟩:=F.ex
 refine zk lk hcd S len λA outer s H vs Q E hr hsp =>?_
 obtain ⟨t,h,q⟩:=hbody cdv A outer s H vs Q E hr hsp
 exact ⟨t,h.nox,q⟩
theorem Fun.binds {x qual:Str}{st:Stmt}{f:Addr}{fd:De}{ps:List Str}(F:Fun K x qual st f fd)
  (h:∀(kV doc pm:BM) (an:Option Addr) (cdv ct:BM) (us:List BM),us.length=ps.length->bindArgs (PySem.W.fnOf x qual (dA st) (bS st) (aA st) .none kV doc pm an cdv ct) ⟨us,[]⟩=pure (ps.zip us)):Binds K fd ps []:=by
 obtain ⟨oc,od,kV,doc,pm,an,cdv,ct,osl,rfl,lk,hcd⟩:=F.ex
 exact .all (h kV doc pm an cdv ct)
theorem qY {x qual:Str}{st:Stmt}{f:Addr}{oc:BM}{od an:Option Addr}{osl:Array (Option BM)}{kV doc pm cdv ct:BM}(l:K.lookup f=some ⟨oc,od,.func (PySem.W.fnOf x qual (dA st) (bS st) (aA st) .none kV doc pm an cdv ct),osl⟩)
  (c:PySem.W.codeIn K cdv qual=true) (k:PySem.W.keepIn K (.ref f)=true):Fun K x qual st f (PySem.W.fnOf x qual (dA st) (bS st) (aA st) .none kV doc pm an cdv ct):=⟨⟨oc,od,kV,doc,pm,an,cdv,ct,osl,rfl,l,c⟩,k⟩
end
theorem vS {A:Dd}{k:Nat}(hr:cW k A):A.units+1<cLine:=Gn (FZ (by decide:1<=64) _) hr.units
theorem bA {n:Nat}(h:n<=1000):n<B4:=Gn h (by decide)
section
variable  {X:Cx}
theorem pv (i:Nat){x:Str}{pos:Pos}(hN:X.N[i]? = some x:=by rfl)(hv:Vis X.env.scope x:=by first | exact Or.inl rfl | exact Or.inr (Or.inl rfl) | exact Or.inr (Or.inr rfl))(hd:(x == ("__debug__" : Str))=false:=by decide)
  (hcd:(x == ("__classdict__" : Str))=false:=by decide):PE X (.Name x pos) (AS i):=zL hN hv hd hcd
end
theorem bT {A B:Prop}(h:B):if false=true then A else B:=by
 rw[if_neg B6]
 exact h
theorem bQ {A B:Prop}(h:A):if true=true then A else B:=by
 rw[if_pos rfl]
 exact h
theorem gL {c A B:Prop}[Decidable c](h1:c->A)(h2:¬ c->B):if c then A else B:=by
 by_cases h:c
 ·rw[if_pos h]
  exact h1 h
 ·rw[if_neg h]
  exact h2 h
theorem vT {c A B:Prop}[Decidable c](hc:c)(h:B):if (!decide c)=true then A else B:=by
 rw[decide_eq_true hc]
 exact bT h
def aD (H H':Hp):Prop:=∀b o,H b=some o->H' b=some o
theorem aD.refl (H:Hp):aD H H:=λ_ _ h=>h
theorem aD.trans {H H1 H2:Hp}(a:aD H H1)(b:aD H1 H2):aD H H2:=λc o h=>b c o (a c o h)
theorem aD.free {H H':Hp}(e:aD H H'){l:Addr}(h:H' l=Option.none):H l=Option.none:=by
 cases q:H l with
 | none=>rfl
 | some o =>
  rw[e l o q] at h
  cases h
theorem aD.seq {K:BP}{H H':Hp}{a:Addr}{xs:List V}(e:aD H H')(h:SqL K H a xs):SqL K H' a xs:=by
 rcases h with (h | ⟨o,h⟩) | h
 ·exact .inl (.inl (e _ _ h))
 ·exact .inl (.inr ⟨o,e _ _ h⟩)
 ·exact .inr h
end L2
set_option maxHeartbeats 4000000
namespace L2
open PySem PySem.Spec PyProof.Rows
def ph (on:List (Str×NameKind))(N:List Str)(sc:Scope)(N':List Str)(ix:List (Option Nat)):Bool :=
 decide (sc.kind = .function) &&
 sc.names.all (λy=>match y.2 with
  | .local=>decide (sc.names.lookup y.1=some .local)
  | .cell=>false
  | .free=>decide (on.lookup y.1=some .cell) || decide (on.lookup y.1=some .free)
  | _=>true) &&
 decide (ix.length=N'.length) &&
 (ix.zip N').all (λp=>match p.1 with
  | none=>true
  | some j=>decide (N[j]? = some p.2) && decide (sc.names.lookup p.2=some .free))
theorem jg {ns:List (Str×NameKind)}{y:Str}{k:NameKind}(h:ns.lookup y=some k):(y,k)∈ns:=EL h
structure jY (on:List (Str×NameKind))(N:List Str)(sc:Scope)(N':List Str)(ix:List (Option Nat)):Prop where
 kind:sc.kind = .function
 locs:∀y∈sc.names,y.2 = .local->sc.names.lookup y.1=some .local
 nocell:∀y∈sc.names,y.2 ≠ .cell
 frees:∀y∈sc.names,y.2 = .free->on.lookup y.1=some .cell\/on.lookup y.1=some .free
 len:ix.length=N'.length
 slot:∀(i j:Nat) (y:Str),ix[i]? = some (some j)->N'[i]? = some y->N[j]? = some y/\sc.names.lookup y=some .free
theorem jY.of {on:List (Str×NameKind)}{N:List Str}{sc:Scope}{N':List Str}{ix:List (Option Nat)}(h:ph on N sc N' ix=true):jY on N sc N' ix:=by
 unfold ph at h
 rw[Dy,Dy,Dy] at h
 obtain ⟨⟨⟨h1,h2⟩,h3⟩,h4⟩:=h
 rw[ES] at h2 h4
 refine ⟨of_decide_eq_true h1,λy hy e =>?_,λy hy e =>?_,λy hy e =>?_,of_decide_eq_true h3,λi j y e1 e2 =>?_⟩
 ·have q:=h2 y hy
  rw[e] at q
  exact of_decide_eq_true q
 ·have q:=h2 y hy
  rw[e] at q
  cases q
 ·have q:=h2 y hy
  rw[e] at q
  exact ((Bool.or_eq_true _ _).mp q).imp of_decide_eq_true of_decide_eq_true
 ·have q:=h4 (some j,y) (BV (i:=i) (by rw[Hu];exact ⟨e1,e2⟩))
  dsimp only at q
  rw[Dy] at q
  exact ⟨of_decide_eq_true q.1,of_decide_eq_true q.2⟩
theorem jh {α β:Type}(f:α -> β -> β)(b:α -> β -> Sem (ForInStep β)):∀(l:List α) (c:β),(∀x∈l,∀d,b x d=pure (.yield (f x d)))->forIn l c b=pure (l.foldl (λd x=>f x d) c)
 | [],c,_=>rfl
 | x :: l,c,h=>by
  rw[List.forIn_cons,h x Ck,pure_bind]
  exact jh f b l (f x c) λy hy=>h y (Cf _ hy)
def aY (env:Env)(l:List (Str×NameKind))(c:List (Str×Addr)):List (Str×Addr) :=
 l.foldl (λd y=>if y.2 = .free then (y.1,(env.cells.lookup y.1).getD 0) :: d else d) c
theorem qZ {sc:Scope}{env:Env}(h:∀y∈sc.names,y.2 = .free->∃c,env.cells.lookup y.1=some c):closureFor sc env=pure (aY env sc.names []):=by
 simp only[closureFor]
 unfold aY
 rw[jh (λy d=>if y.2 = .free then (y.1,(env.cells.lookup y.1).getD 0) :: d else d)]
 ·rfl
 ·rintro ⟨n,k⟩ hy d
  by_cases hk:k = .free
  ·subst hk
   obtain ⟨c,e⟩:=h _ hy rfl
   have e':env.cells.lookup n=some c:=e
   simp only[beq_self_eq_true,if_true,cellOf,e',Option.getD_some]
   rfl
  ·have hb:(k == NameKind.free)=false:=by simpa using hk
   simp only[hb,Ce,if_false,hk]
theorem dB {env:Env}{y:Str}{c:Addr}:∀(l:List (Str×NameKind)) (d:List (Str×Addr)),(∀z∈l,z.2 = .free->∃c,env.cells.lookup z.1=some c)->(aY env l d).lookup y=some c →
  d.lookup y=some c\/env.cells.lookup y=some c
 | [],d,_,h =>.inl h
 | (n,k) :: l,d,hf,h=>by
  have h':(aY env l (if k = .free then (n,(env.cells.lookup n).getD 0) :: d else d)).lookup y=some c:=h
  have ih:=dB l _ (λz hz=>hf z (Cf _ hz)) h'
  by_cases hk:k = .free
  ·subst hk
   rw[if_pos rfl] at ih
   rcases ih with q | q
   ·rw[FX] at q
    cases hx:(y == n) with
    | true =>
     rw[hx] at q
     obtain ⟨c',e⟩:=hf (n,.free) Ck rfl
     have e':env.cells.lookup n=some c':=e
     have q':some ((env.cells.lookup n).getD 0)=some c:=q
     rw[e'] at q'
     have en:y=n:=eq_of_beq hx
     rw[en,e']
     exact .inr q'
    | false =>
     rw[hx] at q
     exact .inl q
   ·exact .inr q
  ·rw[if_neg hk] at ih
   exact ih
theorem eX {env:Env}{y:Str}:∀(l:List (Str×NameKind)) (d:List (Str×Addr)),((y,NameKind.free)∈l\/∃c,d.lookup y=some c)->∃c,(aY env l d).lookup y=some c
 | [],d,h=>by
  rcases h with h | h
  ·cases h
  ·exact h
 | (n,k) :: l,d,h=>by
  show ∃c,(aY env l (if k = .free then (n,(env.cells.lookup n).getD 0) :: d else d)).lookup y=some c
  refine eX l _ ?_
  have old:(∃c,d.lookup y=some c)->∃c,(if k = .free then (n,(env.cells.lookup n).getD 0) :: d else d).lookup y=some c:=λ⟨c,e⟩=>by
   by_cases hk:k = .free
   ·rw[if_pos hk,FX]
    cases hx:(y == n) with
    | true=>exact ⟨_,rfl⟩
    | false=>exact ⟨c,e⟩
   ·rw[if_neg hk];exact ⟨c,e⟩
  rcases h with h | h
  ·rcases Cg.mp h with q | q
   ·cases q
    rw[if_pos rfl,FX,beq_self_eq_true]
    exact .inr ⟨_,rfl⟩
   ·exact .inl q
  ·exact .inr (old h)
theorem jZ {c:Str->NameKind->Bool}{y:Str}:∀l:List (Str×NameKind),(l.map λz=>if c z.1 z.2=true then (z.1,NameKind.cell) else (z.1,z.2)).lookup y=(l.lookup y).map λk=>if c y k=true then NameKind.cell else k
 | []=>rfl
 | (n,k) :: l=>by
  have ih:=jZ (c:=c) (y:=y) l
  rw[CC]
  have e:(if c n k=true then (n,NameKind.cell) else (n,k))=(n,if c n k=true then NameKind.cell else k):=by split <;> rfl
  show List.lookup y ((if c n k=true then (n,NameKind.cell) else (n,k)) :: _)=_
  rw[e,FX,FX]
  cases hx:(y == n) with
  | true =>
   have en:y=n:=eq_of_beq hx
   subst en
   rfl
  | false=>exact ih
def blk (X:Cx)(sc:Scope)(cl:List (Str×Addr))(C:Addr)(N':List Str)(s:BQ)(H:Hp)(fp:List Addr):Cx :=
 { X with N:=N',s₀:=s,H₀:=H,env:=compEnvC sc cl C X.env,outer:=X.stack,ex:=fp,fn:=λ_=>false,pn:=[],xe:=λ_ _=>False }
def PF (X:Cx)(ifs:List Expr)(t:TT):Prop :=
  ∀(pins:List (Addr×Obj)) (s:BQ) (σ:St) (H:Hp) (Q:Bool->Hp->Prop),Inv X pins σ H s->t σ H Q →
    Ci (Cs X.prog X.w) X.A (forIn ifs true λc r=>if r=true then do let ok ← isTrue c X.env (eval c X.env);pure (ForInStep.yield ok) else pure (ForInStep.yield r)) (TP X pins σ Q) X.xe s
theorem cu {X:Cx}:PF X [] (λ_ H Q=>Q true H):=λ_ _ _ H _ I h=>wpAny_tests_nil ⟨H,I,h⟩
theorem gM {X:Cx}{c:Expr}{t:TT}(h:PT X c t):PF X [c] t:=λpins s σ H Q I q=>wpAny_tests_one (h pins s σ H Q I q)
def inner (ix:List (Option Nat))(σ:St):St:=ix.map λo=>match o with | none=>none | some j=>(σ[j]?).join
def j4 (J:It)(g:TG)(tc:TT)(te:TE)(τ:St)(Q:VK)(H1:Hp):Prop:=∃W:Nat->Nat->St->List V->Hp->Prop,(∃m,W 0 m τ [] H1)/\∀i m τ ys H,W i m τ ys H →
 (J.stop i H/\ys.length<=B4/\∀l,H l=none->Q (.ref l) (upd H l (.lst ys))) ∨
 (J.go i H/\∀x H',J.yld i H x H'->g x τ H' λτ2 H2=>tc τ2 H2 λb H3=>if b=true then te τ2 H3 λy H4=>ys.length<B4/\∃m',m'<m/\W (i+1) m' τ2 (ys++[y]) H4 else ∃m',m'<m/\W (i+1) m' τ2 ys H3)
def vU (ix:List (Option Nat))(wi:TI)(g:TG)(tc:TT)(te:TE):TE:=λσ H Q=>wi σ H λJ H1=>j4 J g tc te (inner ix σ) Q H1
section
variable  {X:Cx}{sc:Scope}{N':List Str}{ix:List (Option Nat)}{pins:List (Addr×Obj)}{σ:St}{H:Hp}{s:BQ}
theorem z9 (I:Inv X pins σ H s)(K:jY X.env.scope.names X.N sc N' ix){C:Addr}{fp:List Addr}(hC:s.heap.objs.size<=C)(f:∀b∈fp,lE X pins H b)(fl:∀b∈fp,b<s.heap.objs.size) :
  (blk X sc (aY X.env sc.names []) C N' s H fp).Ok:=by
 have hcl:∀y∈sc.names,y.2 = .free->∃c,X.env.cells.lookup y.1=some c:=λy hy e=>I.ok.has y.1 (K.frees y hy e)
 have up:∀y c,(aY X.env sc.names []).lookup y=some c->X.env.cells.lookup y=some c:=λy c e=>by
  rcases dB sc.names [] hcl e with q | q
  ·cases q
  ·exact q
 have nfs:∀b∈fp,b∉frs X.stack:=λb hb z=>by
  rcases Cg.mp (I.nF b z) with q | q
  ·exact (f b hb).2.1 q
  ·exact (f b hb).2.2.1 q
 refine ⟨I.ok.mod,K.kind,I.ok.glob,I.ok.blt,hC,λy z c h1 h2=>I.ok.inj y z c (up _ _ h1) (up _ _ h2),λy hy =>?_,(λy c h=>nomatch h),I.ok.hd,I.ok.frames,.inl rfl,λb hb =>?_,λb o e=>I.bs b o e,CP I.ok.bsz I.sz,λb o e hb =>?_,nfs,I.stack,I.nG⟩
 ·have hy':(relabel sc X.env).names.lookup y=some .cell\/(relabel sc X.env).names.lookup y=some .free:=hy
  have em:=jZ (c:=λn k=>k == .free && X.env.scope.kind == .function && X.env.kindOf n == some .cell) (y:=y) sc.names
  have em':(relabel sc X.env).names.lookup y=_:=em
  rw[em'] at hy'
  cases hq:sc.names.lookup y with
  | none=>rw[hq] at hy';rcases hy' with q | q <;> cases q
  | some k =>
   have km:=jg hq
   have hk:k = .free:=by
    rw[hq] at hy'
    simp only[Iu,Option.some.injEq] at hy'
    by_cases hc:(k == .free && X.env.scope.kind == .function && X.env.kindOf y == some .cell)=true
    ·rw[Dy,Dy] at hc
     exact by simpa using hc.1.1
    ·rw[if_neg hc] at hy'
     rcases hy' with q | q
     ·exact absurd q (K.nocell _ km)
     ·exact q
   subst hk
   exact eX sc.names [] (.inl km)
 ·exact ⟨Cb (Cj (fl b hb) hC),λy c e=>(f b hb).2.2.2.2.1 y c (up y c e)⟩
 ·rcases (f b hb).2.2.2.1 with q | q
  ·exact I.ok.noex b o e q
  ·exact absurd (Cj (B2 e) (CP I.ok.bsz q)) (C0 _)
theorem yb (I:Inv X pins σ H s)(K:jY X.env.scope.names X.N sc N' ix){C:Addr}{fp:List Addr}(hC:s.heap.objs.size<=C)(f:∀b∈fp,lE X pins H b)(fl:∀b∈fp,b<s.heap.objs.size)
  {h1:Heap} {t:Nat} {m:Str->Option BM} (k:∀b o,s.heap.get? b=some o->h1.get? b=some o) (ns:h1.Ns C m) :
  Inv (blk X sc (aY X.env sc.names []) C N' s H fp) [] (inner ix σ) H { s with heap:=h1,toks:=t }:=by
 have hcl:∀y∈sc.names,y.2 = .free->∃c,X.env.cells.lookup y.1=some c:=λy hy e=>I.ok.has y.1 (K.frees y hy e)
 have up:∀y c,(aY X.env sc.names []).lookup y=some c->X.env.cells.lookup y=some c:=λy c e=>by
  rcases dB sc.names [] hcl e with q | q
  ·cases q
  ·exact q
 refine ⟨z9 I K hC f fl,rfl,I.bare,Un.kept k,⟨m,ns,λi y v e1 e2 e3 =>?_⟩,λy c e =>?_,I.hok.fresh hC,λy c e=>I.freeC y c (up y c e),(λp hp=>nomatch hp),I.hok.kept k,?_⟩
 ·have e2':(ix.map λo=>match o with | none=>none | some j=>(σ[j]?).join)[i]? = some (some v):=e2
  rw[B7] at e2'
  cases hi:ix[i]? with
  | none=>rw[hi] at e2';cases e2'
  | some o =>
   cases o with
   | none=>rw[hi] at e2';cases e2'
   | some j =>
    rw[hi] at e2'
    have e4:(σ[j]?).join=some v:=Cw e2'
    have e5:σ[j]? = some (some v):=by
     cases hj:σ[j]? with
     | none=>rw[hj] at e4;cases e4
     | some z=>rw[hj] at e4;rw[show z=some v from e4]
    obtain ⟨n1,n2⟩:=K.slot i j y hi e1
    have mem:=jg n2
    have kc:X.env.kindOf y=some .cell\/X.env.kindOf y=some .free:=K.frees _ mem rfl
    obtain ⟨m',_,hl⟩:=I.loc
    obtain ⟨u,r,l⟩:=hl j y v n1 e5 (.inr kc)
    refine ⟨u,r,?_⟩
    rcases l with ⟨q,_⟩ | ⟨_,c,q,z⟩
    ·rcases kc with kc | kc <;> (rw[kc] at q;cases q)
    ·obtain ⟨c',hc'⟩:=eX (env:=X.env) (y:=y) sc.names [] (.inl mem)
     have:=up y c' hc'
     rw[q] at this
     cases this
     refine .inr ⟨?_,c,hc',z.keeps k⟩
     have em:=jZ (c:=λn k=>k == .free && X.env.scope.kind == .function && X.env.kindOf n == some .cell) (y:=y) sc.names
     have em':(relabel sc X.env).names.lookup y=_:=em
     rcases kc with kc | kc
     ·left
      show (relabel sc X.env).names.lookup y=some .cell
      rw[em',n2]
      simp only[Iu,kc,I.ok.kind]
      rfl
     ·right
      show (relabel sc X.env).names.lookup y=some .free
      rw[em',n2]
      simp only[Iu,kc,I.ok.kind]
      rfl
 ·obtain ⟨v,z⟩:=I.cell y c (up y c e)
  exact ⟨v,z.keeps k⟩
 ·show (ix.map _).length=N'.length
  rw[BK]
  exact K.len
end
open PySem PySem.Spec PyProof.Rows
theorem rd {prog:Ca}{w:CJ}{A:Dd}{R:Result->BQ->Prop}{s:BQ}{elt target iter:Expr}{ifs:List Expr}{sc:Scope}{pos:Pos}{it acc:BM}{env:Env}(J:Nat->BQ->Prop)
    (turn:∀n s,J n s->Ci (Cs prog w) A (pyNext it) (λr s1=>match r with
      | none=>R (.ok .next) s1
      | some v=>Ci (Cs prog w) A (letOwnedTupleGo target it v) (λ_ s2=>Ci (Cs prog w) A (assign target env v) (λ_ s3 =>
          Ci (Cs prog w) A (forIn ifs true λc r=>if r=true then do let ok ← isTrue c env (eval c env);pure (ForInStep.yield ok) else pure (ForInStep.yield r)) (λok s4 =>
            if ok=true then Ci (Cs prog w) A (eval elt env) (λx s5=>Ci (Cs prog w) A (call (.builtin "list.append") [acc,x]) (λ_ s6=>∃m,m<n/\J m s6) (λ_ _=>False) s5) (λ_ _=>False) s4
            else ∃m,m<n/\J m s4) (λ_ _=>False) s3) (λ_ _=>False) s2) (λ_ _=>False) s1) (λ_ _=>False) s)
    (n:Nat) (h:J n s):FC (Cs prog w) A (.compLoop (.ListComp elt [⟨target,iter,ifs,0⟩] sc pos) 0 it acc env) R s:=by
  refine codeAny_loop rfl J (λk t q =>?_) n h
  show Ci _ A (Sem.onRaise (compTurn (.ListComp elt [⟨target,iter,ifs,0⟩] sc pos) 0 it acc env) (λx=>do noteFrame x env;theTreesLotGoes x)) _ _ t
  refine wpAny_noted ?_
  rw[compTurn_list]
  have no:∀{E:BM->BQ->Prop} (x:BM) (t:BQ),False->E x t:=λ_ _ z=>z.elim
  refine BJ (HV (BJ (DT (turn k t q) (λr s1 h1 =>?_) no)))
  cases r with
  | none=>exact BN h1
  | some v =>
    refine BJ (DT h1 (λ_ s2 h2=>BJ (DT h2 (λ_ s3 h3=>BJ (DT h3 (λok s4 h4 =>?_) no)) no)) no)
    cases ok with
    | false=>exact BN ⟨rfl,h4⟩
    | true=>exact BJ (BJ (DT h4 (λx s5 h5=>BJ (DT h5 (λ_ s6 h6=>BN (BN ⟨rfl,h6⟩)) no)) no))
section
variable  {X:Cx}
def yc (X:Cx)(pins:List (Addr×Obj))(σ:St)(Q:VK)(use:Option (BM->Sem Unit))(Q2:BM->BQ->Prop):Prop :=
 ∀(s4:BQ) (H3:Hp) (acc C:Addr) (ys:List V) (oC:Obj),Inv X (pins++[(C,oC)]) σ (upd H3 acc (.lst ys)) s4->(∃m,s4.heap.Ns C m)->X.s₀.heap.objs.size<=C->(∀x c,X.env.cells.lookup x=some c->c≠C)->(∀p∈X.pn++pins,p.1≠C)->Q (.ref acc) (upd H3 acc (.lst ys)) →
  compPost (Cs X.prog X.w) X.A X.xe use Q2 (.ref acc) C (.ok .next) s4
theorem mq {elt target iter:Expr}{ifs:List Expr}{sc:Scope}{pos ps:Pos}{wi:TI}{g:TG}{tc:TT}{te:TE}{N':List Str}{ix:List (Option Nat)}{use:Option (BM->Sem Unit)}{Q2:BM->BQ->Prop}
  {pins:List (Addr×Obj)} {s:BQ} {σ:St} {H:Hp} {Q:VK}
  (hcalm:X.calm=true) (hi:PI X target iter wi) (hk:ph X.env.scope.names X.N sc N' ix=true)
  (hg:∀cl C s H fp,PG (blk X sc cl C N' s H fp) target g) (hc:∀cl C s H fp,PF (blk X sc cl C N' s H fp) ifs tc) (he:∀cl C s H fp,PE (blk X sc cl C N' s H fp) elt te)
  (hs:∀x,foldedSetIterable iter X.env x=pure x) (fin:yc X pins σ Q use Q2) (I:Inv X pins σ H s) (h:vU ix wi g tc te σ H Q) :
  Ci (Cs X.prog X.w) X.A (comprehension (.ListComp elt [⟨target,iter,ifs,0⟩] sc pos) sc X.env ps (newList []) false (eval iter X.env) use) Q2 X.xe s:=by
 have K:=jY.of hk
 have hcl:∀y∈sc.names,y.2 = .free->∃c,X.env.cells.lookup y.1=some c:=λy hy e=>I.ok.has y.1 (K.frees y hy e)
 refine wpAny_comprehension_free rfl hs (qZ hcl) K.kind K.locs (thn (hi pins s σ H _ I h) λv s1 h1=>thn h1 λitv s2 h2 =>?_)
 obtain ⟨it,fp,tn,J,H2,e,I2,T,st2,f2,W,⟨m0,w0⟩,turn⟩:=h2
 subst e
 refine CO (wpAny_newFunctionEnv K.nocell (by intro y hy;simp at hy) (λh1 ns1 sb1 =>?_) K.kind)
 dsimp only at ns1 sb1 ⊢
 generalize hP:s2.heap.push { cls :=.type "list",dict:=none,data :=.seq ([]:List BM).toArray }=G at ns1 sb1 ⊢
 have sG:G.objs.size=s2.heap.objs.size+1:=by rw[<- hP,DR]
 have fl:∀b∈fp,b<s2.heap.objs.size:=λb hb=>by
  obtain ⟨o,e,_⟩:=T.obj _ _ st2 b hb
  exact B2 e
 have hC:s2.heap.objs.size<=G.objs.size:=by rw[sG];exact HL _
 have aC:s2.heap.objs.size≠G.objs.size:=by rw[sG];exact Cb (Dz _)
 have old:∀b o,s2.heap.get? b=some o->h1.get? b=some o:=λb o e=>by
  have lt:=B2 e
  have ne:b≠G.objs.size:=Cb (Cj lt hC)
  rw[sb1.2 b ne]
  exact BL _ (hP ▸ BL _ e)
 have accO:h1.PlainList s2.heap.objs.size #[]:=⟨_,by
  rw[sb1.2 _ aC]
  exact BL _ (hP ▸ BZ _ rfl)⟩
 have IB:=yb (t:=s2.toks+([]:List (Str×BM)).length) I2 K hC f2 fl old ns1
 have up:∀y c,(aY X.env sc.names []).lookup y=some c->X.env.cells.lookup y=some c:=λy c e=>by
  rcases dB sc.names [] hcl e with q | q
  ·cases q
  ·exact q
 have accNotCell:∀y c,(aY X.env sc.names []).lookup y=some c->c≠s2.heap.objs.size:=λy c e z=>by
  obtain ⟨v,q⟩:=I2.cell y c (up y c e)
  exact absurd q.lt (by rw[z];exact C0 _)
 have accFs:s2.heap.objs.size∉frs X.stack:=λz=>by
  rcases Cg.mp (I2.nF _ z) with q | q
  ·exact absurd I2.lt (by rw[<- q];exact C0 _)
  ·exact I2.zK (BS _) q
 have accFp:s2.heap.objs.size∉fp:=λz=>absurd (fl _ z) (C0 _)
 have stat:∀{H':Hp} {ob:Obj},(∀b∈fp,H' b=none)->∀b∈fp,lE (blk X sc (aY X.env sc.names []) G.objs.size N' s2 H2 fp) [(s2.heap.objs.size,ob)] H' b:=λ{H' ob} hn b hb=>by
  refine ⟨hn b hb,Cb (Cj (fl b hb) hC),IB.ok.exfs b hb,.inl hb,λy c e=>(f2 b hb).2.2.2.2.1 y c (up y c e),λp hp z =>?_⟩
  have ep:p=(s2.heap.objs.size,ob):=by simpa [blk] using hp
  subst ep
  exact accFp (by rw[show s2.heap.objs.size=b from z];exact hb)
 have accPin:∀{pl:List (Addr×Obj)} {σ':St} {H':Hp} {s':BQ} {its:Array BM} {n:Nat},Inv (blk X sc (aY X.env sc.names []) G.objs.size N' s2 H2 fp) pl σ' H' s'->s'.heap.get? s2.heap.objs.size=some { cls :=.type "list",data :=.seq its n } →
   H' s2.heap.objs.size=none->Inv (blk X sc (aY X.env sc.names []) G.objs.size N' s2 H2 fp) [(s2.heap.objs.size,{ cls :=.type "list",data :=.seq its n })] σ' H' s':=λ{pl σ' H' s' its n} J' e nn=>J'.hX λp hp=>by
  have ep:p=(s2.heap.objs.size,({ cls :=.type "list",data :=.seq its n }:Obj)):=by simpa [blk] using hp
  subst ep
  exact ⟨e,nn,aC,accFs,λv z=>nomatch z⟩
 have loop:FC (Cs X.prog X.w) X.A (.compLoop (.ListComp elt [⟨target,iter,ifs,0⟩] sc pos) 0 (.ref it) (.ref s2.heap.objs.size) (compEnvC sc (aY X.env sc.names []) G.objs.size X.env))
   (compPost (Cs X.prog X.w) X.A X.xe use Q2 (.ref s2.heap.objs.size) G.objs.size) { s2 with heap:=h1,toks:=s2.toks+([]:List (Str×BM)).length }:=by
  refine rd (λn s'=>∃i ys its nn σ' H',Inv (blk X sc (aY X.env sc.names []) G.objs.size N' s2 H2 fp) [(s2.heap.objs.size,{ cls :=.type "list",data :=.seq its nn })] σ' H' s'/\Vals ys its.toList/\tn i s'.heap/\(∀b∈fp,H' b=none)/\W i n σ' ys H')
   (λn s3 h3 =>?_) m0 ?_
  ·obtain ⟨i,ys,its,nn,σ3,H3,I3,r3,st3,fr3,w3⟩:=h3
   obtain ⟨e3,a3,_,_,_⟩:=I3.pin (s2.heap.objs.size,{ cls :=.type "list",data :=.seq its nn }) (by simp[blk])
   rcases turn i n σ3 ys H3 w3 with ⟨stop,zl,q3⟩ | ⟨go,step⟩
   ·refine thn (T.done (blk X sc (aY X.env sc.names []) G.objs.size N' s2 H2 fp) rfl rfl rfl hcalm i _ s3 σ3 H3 _ I3 (stat fr3) st3 stop) λr s4 ⟨hr,I4⟩ =>?_
    subst hr
    obtain ⟨e4,a4,_,_,_⟩:=I4.pin (s2.heap.objs.size,{ cls :=.type "list",data :=.seq its nn }) (by simp[blk])
    obtain ⟨m4,n4,_⟩:=I4.loc
    obtain ⟨oC,es4,ep4,c4,d4,r4⟩:=id n4
    have ltA:∀b o,s2.heap.get? b=some o->b≠s2.heap.objs.size:=λb o e=>Cb (B2 e)
    have B:=I4.base
    have hok:HOk X.prog X.w (upd H3 s2.heap.objs.size (.lst ys)) s4.heap:=λb o e=>by
     by_cases hb:b=s2.heap.objs.size
     ·subst hb
      rw[ah] at e
      cases e
      exact ⟨zl,its.toList,nn,r3,e4⟩
     ·rw[aE hb] at e
      refine (I4.hok b o e).stay (λc u hc q=>q) (λc q =>?_) (λc xs q =>?_)
      ·rw[aE (aB q a4)];exact q
      ·rw[aE (aB q a4)];exact q
    have I5:Inv X pins σ (upd H3 s2.heap.objs.size (.lst ys)) s4:=by
     refine I2.zh (ch:=fp) I4.os ⟨λb o e n hb hx=>B.keep b o e n hb hx,λb o e n hb hx=>B.slot b o e n hb hx,λb o e n hx =>?_,λb o e hx=>B.there b o e hx,λb xs e =>?_,λb o u e =>?_,λb ps e =>?_⟩ hok I4.bare (λb hb =>?_)
     ·rw[aE (ltA b o e)];exact B.free b o e n hx
     ·have q:=B.tups b xs e
      rw[aE (aB q a4)];exact q
     ·have q:=B.frzs b o u e
      rw[aE (aB q a4)];exact q
     ·obtain ⟨more,q⟩:=B.tbls b ps e
      exact ⟨more,by rw[aE (aB q a4)];exact q⟩
     ·obtain ⟨g0,g1,g2,g3,g4,g5⟩:=f2 b hb
      exact ⟨g3,g1,g4,g5⟩
    have cL:G.objs.size≠X.env.locals:=E9 (Cj I2.lt hC)
    have I6:Inv X (pins++[(G.objs.size,oC)]) σ (upd H3 s2.heap.objs.size (.lst ys)) s4:=I5.hX λp hp=>by
     rcases B0.mp hp with q | q
     ·exact I5.pin p (Cu _ q)
     ·have ep:p=(G.objs.size,oC):=by simpa using q
      subst ep
      exact ⟨c4,by rw[aE (Dq aC)];exact I4.free,cL,I2.zK hC,λv z=>by rw[d4] at z;cases z⟩
    refine fin s4 H3 s2.heap.objs.size G.objs.size ys oC I6 ⟨m4,n4⟩ (CP I2.sz hC) (λy c e z =>?_) (λp hp z =>?_) (q3 _ a4)
    ·obtain ⟨v,q⟩:=I2.cell y c e
     exact absurd (Cj q.lt hC) (by rw[z];exact C0 _)
    ·exact absurd (Cj (B2 (I2.pin p hp).1) hC) (by rw[z];exact C0 _)
   ·refine thn (T.item (blk X sc (aY X.env sc.names []) G.objs.size N' s2 H2 fp) rfl rfl rfl hcalm i _ s3 σ3 H3 _ I3 (stat fr3) st3 go) λr s4 ⟨u,hr,h4⟩ =>?_
    subst hr
    refine thn h4 λ_ s5 ⟨x,H5,I5,r5,y5,st5,fr5⟩ =>?_
    have I5':=I5.pinned (stat fr5) (T.obj _ _ st5)
    refine thn (hg _ _ _ _ _ _ s5 σ3 H5 x u _ I5' r5 (step x H5 y5)) λ_ s6 ⟨σ6,H6,I6,q6⟩ =>?_
    refine thn (hc _ _ _ _ _ _ s6 σ6 H6 _ I6 q6) λok s7 ⟨H7,I7,q7⟩ =>?_
    have back:∀{σ7:St} {H7:Hp} {s7:BQ},Inv (blk X sc (aY X.env sc.names []) G.objs.size N' s2 H2 fp) ([(s2.heap.objs.size,{ cls :=.type "list",data :=.seq its nn })]++gK fp s5.heap) σ7 H7 s7->tn (i+1) s7.heap/\∀b∈fp,H7 b=none:=λJ7 =>
     ⟨T.keep _ _ _ st5 λb hb o e=>(J7.pin (b,o) (Cu _ (Cu _ (dI hb e)))).1,λb hb=>by
      obtain ⟨o,e,d⟩:=T.obj _ _ st5 b hb
      exact (J7.pin (b,o) (Cu _ (Cu _ (dI hb e)))).2.1⟩
    cases ok with
    | false =>
     rw[if_neg (by decide)] at q7
     obtain ⟨m',lm,w7⟩:=q7
     show ∃m,m<n/\_
     exact ⟨m',lm,i+1,ys,its,nn,σ6,H7,I7.eA,r3,(back I7).1,(back I7).2,w7⟩
    | true =>
     rw[if_pos rfl] at q7
     refine thn (he _ _ _ _ _ _ s7 σ6 H7 _ I7 q7) λz s8 ⟨y,H8,I8,r8,lz,m',lm,w8⟩ =>?_
     obtain ⟨e8,a8,_,_,_⟩:=I8.pin (s2.heap.objs.size,{ cls :=.type "list",data :=.seq its nn }) (by simp[blk])
     have sz:its.size<=B4:=by
      have l:ys.length=its.size:=r3.length.trans BW
      rw[<- l]
      exact Fv lz
     refine wpAny_list_append_plain ⟨nn,e8⟩ (λh' pl' sb' =>?_) sz
     obtain ⟨n9,e9⟩:=pl'
     have I8p:Inv (blk X sc (aY X.env sc.names []) G.objs.size N' s2 H2 fp) (gK fp s5.heap) σ6 H8 s8:=I8.hX λp hp=>I8.pin p (Cu _ (Cu _ hp))
     have I9:=I8p.turned (it:=s2.heap.objs.size) (h':=h') (t':=s8.toks) (λb o ne e=>by rw[sb'.2 b ne];exact e) a8 aC (.inr (BS _)) (λy c e=>accNotCell y c e) (λp hp z=>by
      have hp':p∈gK fp s5.heap:=by simpa [blk] using hp
      exact accFp (by rw[<- z];exact (me hp').1))
     have b9:tn (i+1) h'/\∀b∈fp,H8 b=none :=
      ⟨T.keep _ _ _ st5 λb hb o e=>(I9.pin (b,o) (Cu _ (dI hb e))).1,(back I8).2⟩
     exact ⟨m',lm,i+1,ys++[y],its.push z,n9,σ6,H8,accPin I9 e9 a8,by rw[Em];exact r3.append (.cons r8 .nil),b9.1,b9.2,w8⟩
  ·obtain ⟨n0,e0⟩:=accO
   exact ⟨0,[], #[],n0,_,H2,accPin IB e0 (I2.hok.fresh (BS _)),.nil,T.keep _ _ _ st2 λb hb o e=>old b o e,λb hb=>(f2 b hb).1,w0⟩
 exact codeAny_compStart_list loop (T.self _ 0 _ _ _ (T.keep _ _ _ st2 λb hb o e=>old b o e) loop)
theorem bG {elt target iter:Expr}{ifs:List Expr}{sc:Scope}{pos:Pos}{wi:TI}{g:TG}{tc:TT}{te:TE}(N':List Str)(ix:List (Option Nat))
  (hcalm:X.calm=true) (hi:PI X target iter wi) (hk:ph X.env.scope.names X.N sc N' ix=true)
  (hg:∀cl C s H fp,PG (blk X sc cl C N' s H fp) target g) (hc:∀cl C s H fp,PF (blk X sc cl C N' s H fp) ifs tc) (he:∀cl C s H fp,PE (blk X sc cl C N' s H fp) elt te)
  (hs:∀x,foldedSetIterable iter X.env x=pure x:=by intro _;rfl):PE X (.ListComp elt [⟨target,iter,ifs,0⟩] sc pos) (vU ix wi g tc te):=by
 intro pins s σ H Q I h
 rw[eval_ListComp]
 refine mq hcalm hi hk hg hc he hs (λs4 H3 acc C ys oC I4 ns hC hc hp q =>?_) I h
 obtain ⟨m,ns⟩:=ns
 refine ⟨m,ns,λh' sb=>⟨.ref acc,_,?_,rfl,q⟩⟩
 obtain ⟨_,n0,n1,n2,_⟩:=I4.pin (C,oC) (by simp)
 exact (I4.eA).turned (it:=C) (h':=h') (t':=s4.toks) (λb o ne e=>by rw[sb.2 b ne];exact e) n0 n1 (.inr hC) hc hp
theorem eY {elt target iter:Expr}{ifs:List Expr}{sc:Scope}{pos pos' spos:Pos}{wi:TI}{g:TG}{tc:TT}{te:TE}{i:Nat}{x:Str}(N':List Str)(ix:List (Option Nat))
    (hcalm:X.calm=true) (hN:X.N.Nodup) (hx:X.N[i]? = some x) (hl:X.env.scope.names.lookup x=some .local)
    (hi:PI X target iter wi) (hk:ph X.env.scope.names X.N sc N' ix=true)
    (hg:∀cl C s H fp,PG (blk X sc cl C N' s H fp) target g) (hc:∀cl C s H fp,PF (blk X sc cl C N' s H fp) ifs tc) (he:∀cl C s H fp,PE (blk X sc cl C N' s H fp) elt te)
    (hsw:swapsWith (.ListComp elt [⟨target,iter,ifs,0⟩] sc pos) (some (.Name x pos')) spos.line X.env=pure true:=by rfl)
    (hs:∀x,foldedSetIterable iter X.env x=pure x:=by intro _;rfl):PS X (.Assign [.Name x pos'] (.ListComp elt [⟨target,iter,ifs,0⟩] sc pos) spos) (zP (vU ix wi g tc te) (fG i)):=by
  intro pins s σ H D I h
  rw[exec_Assign_Name_used _ _ _ _ hsw]
  refine BJ (HV (BJ ?_))
  show Ci _ X.A (do let _ ← comprehension (.ListComp elt [⟨target,iter,ifs,0⟩] sc pos) sc X.env _ (newList []) false (eval iter X.env) (some (assign (.Name x pos') X.env))) _ _ s
  refine BJ (DT (mq (Q:=λv H1=>D.nx (σ.set i (some v)) H1) (Q2:=λ_ s'=>SP X pins D .next s') hcalm hi hk hg hc he hs (λs4 H3 acc C ys oC I4 ns hC hc hp q =>?_) I h) (λ_ s' q=>BN (BN q)) λ_ _ e=>e)
  obtain ⟨m,ns⟩:=ns
  obtain ⟨e0,n0,n1,n2,_⟩:=I4.pin (C,oC) (by simp)
  show Ci _ X.A (assign (.Name x pos') X.env (.ref acc)) _ _ s4
  refine thn ((aq (i:=i) hN hx (.inl hl) (.inr hl)) (pins++[(C,oC)]) s4 σ _ (.ref acc) (.ref acc) _ I4 rfl q) λ_ s5 ⟨σ5,H5,I5,q5⟩ =>?_
  obtain ⟨e5,k0,k1,k2,_⟩:=I5.pin (C,oC) (by simp)
  obtain ⟨o',es',ep',c',r'⟩:=ns
  have e':=e0.symm.trans c'
  cases e'
  refine ⟨m,⟨_,es',ep',e5,r'⟩,λh' sb=>⟨σ5,H5,?_,q5⟩⟩
  exact (I5.eA).turned (it:=C) (h':=h') (t':=s5.toks) (λb o ne e=>by rw[sb.2 b ne];exact e) k0 k1 (.inr hC) hc hp
end
open PySem PySem.Spec PyProof.Rows
section
variable  {X:Cx}
theorem nM {j:Int}(h0:0<j)(h:j<2 ^ 200):j.natAbs.log2<9000:=by
 have h1:j.natAbs<2 ^ 200:=by lia
 have h2:j.natAbs.log2<200:=(Nat.log2_lt (by lia)).mpr h1
 lia
def Bj (_ j:Int):Prop:=0<j/\j<2 ^ 200
theorem aF:bC X (.builtin "divmod") (λxs H Q=>∃i j,xs=[.int i,.int j]/\Bj i j/\∀p,H p=none->Q (.ref p) (upd H p (.tup [.int (i/j),.int (i%j)]))):=by
 intro pins s σ H xs us Q I r h
 obtain ⟨i,j,rfl,⟨h1,h2⟩,q⟩:=h
 obtain ⟨u,w',rfl,⟨t,rfl⟩,⟨t',rfl⟩⟩:=vals2 r
 refine divmod_int (by lia) ?_ (.inl (PyProof.noPylong_of_log2 (nM h1 h2)))
 rw[Hh i (by lia),Hi i (by lia)]
 refine ⟨.ref s.heap.objs.size,_,?_,rfl,q _ I.fresh⟩
 refine I.laid (λb o e=>BL _ e) (BS _) ⟨by simp only[Ct,Eu];rw[Er];decide,[.int (i/j) s.toks,.int (i%j) (s.toks+1)],.cons ⟨_,rfl⟩ (.cons ⟨_,rfl⟩ .nil),?_⟩
 exact ⟨_,BZ s.heap rfl,⟨rfl,rfl⟩,0,rfl⟩
def Bk (K:BP):R2:=λx y H Q=>∃l b xs zs,x = .ref l/\y = .ref b/\SqL K H l xs/\SqL K H b zs/\xs.length+zs.length<=B4/\∀p,H p=none->Q (.ref p) (upd H p (.lst (xs++zs)))
theorem nN:OpR X (binaryOp .Add) (Bk X.K):=by
 intro pins s σ H x y v u Q I rx ry h
 obtain ⟨l,b,xs,zs,rfl,rfl,hH,hB,hz,q⟩:=h
 cases rx
 cases ry
 obtain ⟨its,r,e,z⟩:=I.list hH
 obtain ⟨its2,r2,e2,z2⟩:=I.list hB
 obtain ⟨⟨c1,d1,da1,sl1⟩,n,e,k1,k2,k3⟩:=e
 obtain ⟨⟨c2,d2,da2,sl2⟩,n2,e2,g1,g2,g3⟩:=e2
 simp only at k1 k3 g1 g3
 subst k1 k3 g1 g3
 have l1:=r.length
 have l2:=r2.length
 have ea:its.toArray++its2.toArray=(its++its2).toArray:=by simp
 refine IJ ⟨_,e,rfl⟩ ⟨_,e2,rfl⟩ noFill_list_add seq_list_add PySem.F.slot_list_add PySem.F.entry_list_add
  (PySem.F.args_list_add_2 _ _) (list_addW l b its.toArray its2.toArray n n2 d1 d2 sl1 sl2 (by rw[BX,BX];omega)) ⟨e,e2,?_⟩
 rw[ea]
 exact ⟨.ref _,_,I.Bh (t':=s.toks) (r.append r2) (by rw[BR];omega),rfl,q _ I.fresh⟩
theorem fI:bC X (.builtin "isinstance") (λxs H Q=>∃x T t b,xs=[x,.ty T]/\ib X.K H x t/\PySem.W.kitOne X.K t (.type T)=some b/\Q (.bl b) H):=by
 intro pins s σ H xs us Q I r h
 obtain ⟨x,T,t,b,rfl,ty,e,q⟩:=h
 obtain ⟨u,w',rfl,ru,rw'⟩:=vals2 r
 cases (show w'=DM T from rw')
 exact uq I ru ty e λtk=>⟨.bl b,H,I.tok tk,rfl,q⟩
end
def sI (k:Nat)(tc:TT)(te:TE)(τ:St)(Pv:Nat->List V->Hp->Prop)(i:Nat)(x:V)(ys:List V)(H:Hp):Prop :=
 ∀(R1:V->Hp->Prop) (R0:Hp->Prop),(∀y H4,Pv (i+1) (ys++[y]) H4->R1 y H4)->(∀H3,Pv (i+1) ys H3->R0 H3)->tc (τ.set k (some x)) H λb H3=>if b=true then te (τ.set k (some x)) H3 R1 else R0 H3
theorem bV {K:BP}{a:Addr}{xs:List V}{k:Nat}{tc:TT}{te:TE}{τ:St}{H:Hp}{Q:VK}(Pv:Nat->List V->Hp->Prop)(h0:Pv 0 [] H)(hz:xs.length<=B4)
  (hl:∀i ys H,i<=xs.length->Pv i ys H->SqL K H a xs) (hs:∀i x ys H,xs[i]? = some x->ys.length<=i->Pv i ys H->sI k tc te τ Pv i x ys H)
  (hd:∀ys H,ys.length<=xs.length->Pv xs.length ys H->∀l,H l=none->Q (.ref l) (upd H l (.lst ys))) :
  j4 (Itl K a) (fG k) tc te τ Q H:=by
 refine ⟨λi m σ ys H=>m=xs.length-i/\i<=xs.length/\(∀x,σ.set k (some x)=τ.set k (some x))/\ys.length<=i/\Pv i ys H,⟨xs.length,by simp,CT _,λ_=>rfl,BS _,h0⟩,?_⟩
 rintro i m σ ys H ⟨rfl,hi,hτ,hy,p⟩
 have q:=hl i ys H hi p
 by_cases hlt:i<xs.length
 ·refine .inr ⟨⟨xs,xs[i],q,by simp[hlt]⟩,λx H' y =>?_⟩
  obtain ⟨e,y⟩:=y
  subst e
  show tc (σ.set k (some x)) _ _
  rw[hτ x]
  have hσ:∀z,(τ.set k (some x)).set k (some z)=τ.set k (some z):=λz=>by rw[Hn]
  refine hs i x ys _ (y xs q) hy p _ _ (λy4 H4 p4=>⟨by lia,xs.length-(i+1),by lia,rfl,hlt,hσ,by rw[BR,C7];lia,p4⟩) λH3 p3=>⟨xs.length-(i+1),by lia,rfl,hlt,hσ,by lia,p3⟩
 ·have e:i=xs.length:=by lia
  subst e
  exact .inl ⟨⟨xs,q,BS _⟩,by lia,hd ys H hy p⟩
theorem cF {K:BP}{a:Addr}{xs:List V}{k:Nat}{tc:TT}{te:TE}{τ:St}{H:Hp}{Q:VK}(Pv:Nat->List V->Hp->Prop)(h0:Pv 0 [] H)(hz:xs.length<=B4)
  (hl:∀i ys H,i<=xs.length->Pv i ys H->SqT K H a xs) (hs:∀i x ys H,xs[i]? = some x->ys.length<=i->Pv i ys H->sI k tc te τ Pv i x ys H)
  (hd:∀ys H,ys.length<=xs.length->Pv xs.length ys H->∀l,H l=none->Q (.ref l) (upd H l (.lst ys))) :
  j4 (Itt K a) (fG k) tc te τ Q H:=by
 refine ⟨λi m σ ys H=>m=xs.length-i/\i<=xs.length/\(∀x,σ.set k (some x)=τ.set k (some x))/\ys.length<=i/\Pv i ys H,⟨xs.length,by simp,CT _,λ_=>rfl,BS _,h0⟩,?_⟩
 rintro i m σ ys H ⟨rfl,hi,hτ,hy,p⟩
 have q:=hl i ys H hi p
 by_cases hlt:i<xs.length
 ·refine .inr ⟨⟨xs,xs[i],q,by simp[hlt]⟩,λx H' y =>?_⟩
  obtain ⟨e,y⟩:=y
  subst e
  show tc (σ.set k (some x)) _ _
  rw[hτ x]
  have hσ:∀z,(τ.set k (some x)).set k (some z)=τ.set k (some z):=λz=>by rw[Hn]
  refine hs i x ys _ (y xs q) hy p _ _ (λy4 H4 p4=>⟨by lia,xs.length-(i+1),by lia,rfl,hlt,hσ,by rw[BR,C7];lia,p4⟩) λH3 p3=>⟨xs.length-(i+1),by lia,rfl,hlt,hσ,by lia,p3⟩
 ·have e:i=xs.length:=by lia
  subst e
  exact .inl ⟨⟨xs,q,BS _⟩,by lia,hd ys H hy p⟩
theorem dW {lo:Int}{n:Nat}{k:Nat}{tc:TT}{te:TE}{τ:St}{H:Hp}{Q:VK}(Pv:Nat->List V->Hp->Prop)(h0:Pv 0 [] H)(hz:n<=B4)
  (hs:∀i ys H,i<n->ys.length<=i->Pv i ys H->sI k tc te τ Pv i (.int (lo+i)) ys H)
  (hd:∀ys H,ys.length<=n->Pv n ys H->∀l,H l=none->Q (.ref l) (upd H l (.lst ys))) :
  j4 (Itr lo n) (fG k) tc te τ Q H:=by
 refine ⟨λi m σ ys H=>m=n-i/\i<=n/\(∀x,σ.set k (some x)=τ.set k (some x))/\ys.length<=i/\Pv i ys H,⟨n,by simp,CT _,λ_=>rfl,BS _,h0⟩,?_⟩
 rintro i m σ ys H ⟨rfl,hi,hτ,hy,p⟩
 by_cases hlt:i<n
 ·refine .inr ⟨hlt,λx H' y =>?_⟩
  obtain ⟨e,y⟩:=y
  subst e y
  show tc (σ.set k (some (.int (lo+i)))) _ _
  rw[hτ]
  have hσ:∀z,(τ.set k (some (.int (lo+i)))).set k (some z)=τ.set k (some z):=λz=>by rw[Hn]
  refine hs i ys _ hlt hy p _ _ (λy4 H4 p4=>⟨by lia,n-(i+1),by lia,rfl,hlt,hσ,by rw[BR,C7];lia,p4⟩) λH3 p3=>⟨n-(i+1),by lia,rfl,hlt,hσ,by lia,p3⟩
 ·have e:i=n:=by lia
  subst e
  exact .inl ⟨BS _,by lia,hd ys H hy p⟩
structure Cal (P:Ca)(w:CJ)(K:BP)(mg:Str->Option BM)(base:Heap)(k:Nat)(x:Str)(ps:List Str)(sp:Sp):Prop where
 ex:∃f fd,bM P w K mg base CX0 k f fd ps sp/\mg x=some (.ref f)/\PySem.W.keepIn K (.ref f)=true/\Binds K fd ps []
theorem aN {X:Cx}{j k:Nat}{x:Str}{ps:List Str}{sp:Sp}{e:Expr}{es:List Expr}{t:TA}{p pos:Pos}(C:Cal X.prog X.w X.K X.mg X.base k x ps sp)(hr:cW j X.A)(hj:k<=j)(hg:Gl X x)(ha:PA X (e :: es) t)
  (hdb:(x == ("__debug__" : Str))=false:=by decide) (he:CN (e :: es) X.env=(false,eval e X.env) :: CN es X.env:=by rfl) (hpl:(Fo pos (CN es X.env)).any (·.1)=false:=by rfl) :
  PE X (.Call (.Name x p) (e :: es) [] pos) (zj sp [] E0 t):=by
 obtain ⟨f,fd,F,m,kp,b⟩:=C.ex
 exact xW F (hr.mono hj) hg m kp b .nil Bi ha hdb he hpl
theorem af {H:Hp}{p:Addr}(h:H p=none)(o:HO):aD H (upd H p o):=λb u q=>by rw[aE (aB q h)];exact q
theorem small {n:Nat}(h:n<=1000):n<=B4:=Fv (bA h)
open PySem PySem.Spec PyProof.Rows
section
variable  {X:Cx}
theorem pk {its:List BM}{bs:List Bool}(h:Vals (bs.map V.bl) its){prog:Ca}{w:CJ}{A:Dd}:TruthOf prog w A (λi v=>its.toArray[i]? = some v) (λi=>bs.getD i false):=by
 intro i v s Q E hv q
 have l:=h.length
 rw[BK] at l
 have hi:i<its.length:=by
  rw[Dm] at hv
  exact (B1.mp hv).1
 have e:(bs.map V.bl)[i]? = some (.bl (bs.getD i false)):=by
  rw[B7,B8,BO (by lia)]
  rfl
 obtain ⟨u,e1,e2⟩:=h.get e
 rw[Dm,e1] at hv
 have ev:u=v:=Cw hv
 subst ev
 cases (show u=Value.bool _ from e2)
 exact DL q
theorem all_range (bs:List Bool):((Dl bs.length).all λi=>bs.getD i false)=bs.all id:=by
 rw[EK,ES,ES]
 constructor
 ·intro h x hx
  obtain ⟨i,e⟩:=CW.mp hx
  have hi:i<bs.length:=(B1.mp e).1
  have q:=h i (Dr.mpr hi)
  rw[B8,e] at q
  exact q
 ·intro h i hi
  have hi':=Dr.mp hi
  rw[B8,BO hi']
  exact h _ (Fm hi')
theorem j6 (hc:X.calm=true):bC X (.builtin "all") (λxs H Q=>∃(p:Addr) (bs:List Bool),xs=[.ref p]/\SqL X.K H p (bs.map V.bl)/\Q (.bl (bs.all id)) H):=by
 intro pins s σ H xs us Q I r h
 obtain ⟨p,bs,rfl,hs,q⟩:=h
 obtain ⟨u,rfl,ru⟩:=vals1 r
 cases (show u=Cd p from ru)
 obtain ⟨its,rv,pl,hz⟩:=I.list hs
 have l:=rv.length
 rw[BK] at l
 have hpl:p<s.heap.objs.size:=by obtain ⟨o,_,e,_⟩:=pl;exact B2 e
 refine call_all_walk (E8 pl.isList ?_)
 have hd:X.A.in1.handled=none:=I.ok.hd hc
 refine ⟨s.heap.objs.size,_,_,_,_,_,_,rfl,JK hd s.heap.objs.size p (Cb hpl) its.toArray,⟨⟨_,BZ _ rfl,rfl,rfl⟩,?_⟩,pk rv,λh' tk k =>?_⟩
 ·exact pl.isList.at λo e=>BL _ e
 ·have e:((Dl its.toArray.size).all λi=>bs.getD i false)=bs.all id:=by rw[BX, <- l,all_range]
  rw[e]
  refine ⟨.bl (bs.all id),H,I.kept (t':=tk) (λb o eb=>k b o ?_ (BL _ eb)),rfl,q⟩
  intro hb
  have:b=s.heap.objs.size:=by simpa using hb
  exact absurd (B2 eb) (by rw[this];exact C0 _)
end
open PySem PySem.Spec PyProof.Rows
def zo (K:BP)(k l:Nat):TG:=A1 K 2 (vG (fG k) (vG (fG l) A0))
def Bl (k l:Nat)(tc:TT)(te:TE)(τ:St)(Pv:Nat->List V->Hp->Prop)(i:Nat)(a b:V)(ys:List V)(H:Hp):Prop :=
 ∀(R1:V->Hp->Prop) (R0:Hp->Prop),(∀y H4,Pv (i+1) (ys++[y]) H4->R1 y H4)->(∀H3,Pv (i+1) ys H3->R0 H3)->tc ((τ.set k (some a)).set l (some b)) H λc H3=>if c=true then te ((τ.set k (some a)).set l (some b)) H3 R1 else R0 H3
theorem j7 {K:BP}{p:Addr}{ts:List (Addr×V×V)}{k l:Nat}{tc:TT}{te:TE}{τ:St}{H:Hp}{Q:VK}(Pv:Nat->List V->Hp->Prop)(hkl:k≠l)(h0:Pv 0 [] H)(hz:ts.length<=B4)
  (hl:∀i ys H,i<=ts.length->Pv i ys H->SqL K H p (ts.map λt =>.ref t.1)/\∀t∈ts,SqT K H t.1 [t.2.1,t.2.2])
  (hs:∀i t ys H,ts[i]? = some t->ys.length<=i->Pv i ys H->Bl k l tc te τ Pv i t.2.1 t.2.2 ys H)
  (hd:∀ys H,ys.length<=ts.length->Pv ts.length ys H->∀r,H r=none->Q (.ref r) (upd H r (.lst ys))):j4 (Itl K p) (zo K k l) tc te τ Q H:=by
 refine ⟨λi m σ ys H=>m=ts.length-i/\i<=ts.length/\(∀a b,(σ.set k (some a)).set l (some b)=(τ.set k (some a)).set l (some b))/\ys.length<=i/\Pv i ys H,⟨ts.length,by simp,CT _,λ_ _=>rfl,BS _,h0⟩,?_⟩
 rintro i m σ ys H ⟨rfl,hi,hτ,hy,pv⟩
 obtain ⟨q,qt⟩:=hl i ys H hi pv
 have ln:(ts.map λt:Addr×V×V=>V.ref t.1).length=ts.length:=BK _
 by_cases hlt:i<ts.length
 ·have et:ts[i]? = some ts[i]:=BO hlt
  have em:(ts.map λt:Addr×V×V=>V.ref t.1)[i]? = some (.ref ts[i].1):=by rw[B7,et];rfl
  refine .inr ⟨⟨_,_,q,em⟩,λx H' y =>?_⟩
  obtain ⟨e,y⟩:=y
  subst e
  have ex:=y _ q
  rw[em] at ex
  cases ex
  have st:=qt ts[i] (Fm hlt)
  refine ⟨ts[i].1,_,rfl,st,rfl,_,_,rfl,_,_,rfl,rfl,?_⟩
  rw[hτ]
  have hσ:∀a b,((((τ.set k (some ts[i].2.1)).set l (some ts[i].2.2)).set k (some a)).set l (some b))=(τ.set k (some a)).set l (some b):=λa b=>by
   rw[List.set_comm _ _ (Dq hkl),Hn,Hn]
  refine hs i ts[i] ys _ et hy pv _ _ (λy4 H4 p4=>⟨by lia,ts.length-(i+1),by lia,rfl,hlt,hσ,by rw[BR,C7];lia,p4⟩) λH3 p3=>⟨ts.length-(i+1),by lia,rfl,hlt,hσ,by lia,p3⟩
 ·have e:i=ts.length:=by lia
  subst e
  exact .inl ⟨⟨_,q,by rw[ln];exact BS _⟩,by lia,hd ys H hy pv⟩
open PySem PySem.Spec PyProof.Rows
section
variable  {X:Cx}{K:BP}
theorem pq (h:X.K=K:=by rfl):IxR X (Bf K):=by subst h;exact cC
theorem gp (h:X.K=K:=by rfl):IxR X (Bg K):=by subst h;exact aV
theorem vV (h:X.K=K:=by rfl):OpR X (DW .In) (rIn K false):=by subst h;exact uv
theorem eC (h:X.K=K:=by rfl):OpR X (DW .NotIn) (rIn K true):=by subst h;exact nK
theorem uz (h:X.K=K:=by rfl):bC X (.builtin "len") (λxs H Q=>∃p ys,xs=[.ref p]/\(SqL K H p ys\/SqT K H p ys)/\Q (.int ys.length) H):=by subst h;exact aZ
end
end L2
namespace Srt
open PySem PyProof.Rows
def gal:Bool->Cn->Array Cn->Nat->Nat->Nat->StateT CM Sem (Option Nat):=sortPriv% PySem.Builtin.gallop
def mLo:Array Cn->Array Cn->StateT CM Sem (Array Cn):=sortPriv% PySem.Builtin.mergeLo
def mHi:Array Cn->Array Cn->StateT CM Sem (Array Cn):=sortPriv% PySem.Builtin.mergeHi
def mAt:Nat->StateT CM Sem Bool:=sortPriv% PySem.Builtin.mergeAt
def zp:StateT CM Sem Unit:=sortPriv% PySem.Builtin.sortRuns
def Aa:Nat->Nat->StateT CM Sem (Option Nat):=sortPriv% PySem.Builtin.countRun
def vW:Nat->Nat->Nat->StateT CM Sem Bool:=sortPriv% PySem.Builtin.binarySort
theorem Ab (lf:Bool)(ky:Cn)(ar:Array Cn)(bs n ht:Nat):gal lf ky ar bs n ht=(do
    let far (i:Nat):StateT CM Sem (Option Bool):=do
      let z ← elem' ar (bs+i)
      if lf then lt' z ky else return (← lt' ky z).map (!·)
    let mut la:=0;let mut of:=1
    let mut lo:=0;let mut hi:=0
    let some rt ← far ht | return none
    if rt then
      let mx:=n-ht
      for _ in [0:n] do
        if of≥mx then break
        let some mo ← far (ht+of)
          | return none
        if !mo then break
        la:=of;of:=2*of+1
      lo:=ht+la+1;hi:=ht+min of mx
    else
      let mx:=ht+1
      for _ in [0:n] do
        if of≥mx then break
        let some fd ← far (ht-of)
          | return none
        if fd then break
        la:=of;of:=2*of+1
      lo:=ht+1-min of mx;hi:=ht-la
    for _ in [0:n] do
      if lo≥hi then break
      let md:=lo+(hi-lo)/2
      let some mo ← far md | return none
      if mo then lo:=md+1 else hi:=md
    return some hi):=rfl
section
variable  {prog:Ca}{w:CJ}{A:Dd}{E:BM->BQ->Prop}{s:BQ}
theorem vX {lf:Bool}{ky:Cn}{ar:Array Cn}{bs n ht:Nat}{st:CM}{Q:Option Nat->CM->Prop}(p:Nat->Bool)
    (hf:∀i,i<n->∀(Q:Option Bool->CM->Prop),Q (some (p i)) st->wpS (Cs prog w) A E s (do let z ← elem' ar (bs+i);if lf then lt' z ky else return (← lt' ky z).map (!·)) Q st)
    (hp:∀i j,i<=j->j<n->p j=true->p i=true) (hh:ht<n)
    (h:∀k,k<=n->(∀i,i<k->p i=true)->(∀i,k<=i->i<n->p i=false)->Q (some k) st):wpS (Cs prog w) A E s (gal lf ky ar bs n ht) Q st:=by
  rw[Ab]
  dsimp only
  refine Cc (hf ht hh _ ?_)
  dsimp only
  cases hr:p ht with
  | true =>
    rw[if_pos rfl]
    refine Cc (Et (DH (I:=λx c st'=>st=st'/\∃la of,c=(none,la,of)/\la<of/\x+1<=of/\ht+la<n/\p (ht+la)=true)
      (Q:=λc st'=>st=st'/\∃la of,c=(none,la,of)/\la<of/\ht+la<n/\p (ht+la)=true/\(n-ht<=of\/(ht+of<n/\p (ht+of)=false))) ?step ?fin ⟨rfl,0,1,rfl,by lia,by lia,by lia,by simpa using hr⟩) ?post)
    case fin =>
      rintro c st' ⟨rfl,la,of,rfl,b1,b2,b3,b4⟩
      exact ⟨rfl,la,of,rfl,b1,b3,b4,.inl (by lia)⟩
    case step =>
      rintro x c st' _ hx ⟨rfl,la,of,rfl,b1,b2,b3,b4⟩
      dsimp only
      by_cases hge:of≥n-ht
      · rw[if_pos hge]
        exact Co ⟨rfl,la,of,rfl,b1,b3,b4,.inl hge⟩
      · rw[if_neg hge]
        refine Cc (hf _ (by lia) _ ?_)
        dsimp only
        cases hm:p (ht+of) with
        | true =>
          simp only[DN,Ce,if_false]
          exact Co ⟨rfl,of,2*of+1,rfl,by lia,by lia,by lia,hm⟩
        | false =>
          simp only[IX,if_true]
          exact Co ⟨rfl,la,of,rfl,b1,b3,b4,.inr ⟨by lia,hm⟩⟩
    case post =>
      rintro c st' ⟨rfl,la,of,rfl,b1,b3,b4,b5⟩
      have h1:(ht+la+1)<=(ht+min of (n-ht)):=by lia
      have h2:(ht+min of (n-ht))<=n:=by lia
      have h3:∀i,i<(ht+la+1)->p i=true:=λi hi=>hp i (ht+la) (by lia) b3 b4
      have h4:∀i,(ht+min of (n-ht))<=i->i<n->p i=false:=λi hi hn=>by
        rcases b5 with b5 | ⟨b5,b6⟩
        · lia
        · cases hpi:p i with
          | false=>rfl
          | true=>rw[hp (ht+of) i (by lia) hn hpi] at b6;cases b6
      dsimp only
      refine Cc (Et (DH (I:=λx c st'=>st=st'/\∃lo hi,c=(none,lo,hi)/\lo<=hi/\hi<=n/\hi-lo<=n-x/\(∀i,i<lo->p i=true)/\(∀i,hi<=i->i<n->p i=false))
        (Q:=λc st'=>st=st'/\∃k,c=(none,k,k)/\k<=n/\(∀i,i<k->p i=true)/\(∀i,k<=i->i<n->p i=false)) ?step ?fin ⟨rfl,(ht+la+1),(ht+min of (n-ht)),rfl,h1,h2,by lia,h3,h4⟩) ?post)
      case fin =>
        rintro c st' ⟨rfl,lo,hi,rfl,a1,a2,a3,a4,a5⟩
        have e:lo=hi:=by lia
        subst e
        exact ⟨rfl,lo,rfl,a2,a4,a5⟩
      case post =>
        rintro c st' ⟨rfl,k,rfl,a2,a4,a5⟩
        exact Co (h k a2 a4 a5)
      case step =>
        rintro x c st' _ hx ⟨rfl,lo,hi,rfl,a1,a2,a3,a4,a5⟩
        dsimp only
        by_cases hge:lo≥hi
        · rw[if_pos hge]
          have e:lo=hi:=by lia
          subst e
          exact Co ⟨rfl,lo,rfl,a2,a4,a5⟩
        · rw[if_neg hge]
          refine Cc (hf _ (by lia) _ ?_)
          dsimp only
          cases hm:p (lo+(hi-lo)/2) with
          | true =>
            rw[if_pos rfl]
            exact Co ⟨rfl,_,_,rfl,by lia,a2,by lia,λi hi'=>hp i _ (by lia) (by lia) hm,a5⟩
          | false =>
            rw[if_neg (by simp)]
            refine Co ⟨rfl,_,_,rfl,by lia,by lia,by lia,a4,λi hi' hn =>?_⟩
            cases hpi:p i with
            | false=>rfl
            | true=>rw[hp _ i hi' hn hpi] at hm;cases hm
  | false =>
    rw[if_neg (by simp)]
    refine Cc (Et (DH (I:=λx c st'=>st=st'/\∃la of,c=(none,la,of)/\la<of/\x+1<=of/\la<=ht/\p (ht-la)=false)
      (Q:=λc st'=>st=st'/\∃la of,c=(none,la,of)/\la<of/\la<=ht/\p (ht-la)=false/\(ht+1<=of\/(of<=ht/\p (ht-of)=true))) ?step ?fin ⟨rfl,0,1,rfl,by lia,by lia,by lia,by simpa using hr⟩) ?post)
    case fin =>
      rintro c st' ⟨rfl,la,of,rfl,b1,b2,b3,b4⟩
      exact ⟨rfl,la,of,rfl,b1,b3,b4,.inl (by lia)⟩
    case step =>
      rintro x c st' _ hx ⟨rfl,la,of,rfl,b1,b2,b3,b4⟩
      dsimp only
      by_cases hge:of≥ht+1
      · rw[if_pos hge]
        exact Co ⟨rfl,la,of,rfl,b1,b3,b4,.inl hge⟩
      · rw[if_neg hge]
        refine Cc (hf _ (by lia) _ ?_)
        dsimp only
        cases hm:p (ht-of) with
        | true =>
          rw[if_pos rfl]
          exact Co ⟨rfl,la,of,rfl,b1,b3,b4,.inr ⟨by lia,hm⟩⟩
        | false =>
          rw[if_neg (by simp)]
          exact Co ⟨rfl,of,2*of+1,rfl,by lia,by lia,by lia,hm⟩
    case post =>
      rintro c st' ⟨rfl,la,of,rfl,b1,b3,b4,b5⟩
      have h1:(ht+1-min of (ht+1))<=(ht-la):=by lia
      have h2:(ht-la)<=n:=by lia
      have h3:∀i,i<(ht+1-min of (ht+1))->p i=true:=λi hi=>by
        rcases b5 with b5 | ⟨b5,b6⟩
        · lia
        · exact hp i (ht-of) (by lia) (by lia) b6
      have h4:∀i,(ht-la)<=i->i<n->p i=false:=λi hi hn=>by
        cases hpi:p i with
        | false=>rfl
        | true=>rw[hp (ht-la) i hi hn hpi] at b4;cases b4
      dsimp only
      refine Cc (Et (DH (I:=λx c st'=>st=st'/\∃lo hi,c=(none,lo,hi)/\lo<=hi/\hi<=n/\hi-lo<=n-x/\(∀i,i<lo->p i=true)/\(∀i,hi<=i->i<n->p i=false))
        (Q:=λc st'=>st=st'/\∃k,c=(none,k,k)/\k<=n/\(∀i,i<k->p i=true)/\(∀i,k<=i->i<n->p i=false)) ?step ?fin ⟨rfl,(ht+1-min of (ht+1)),(ht-la),rfl,h1,h2,by lia,h3,h4⟩) ?post)
      case fin =>
        rintro c st' ⟨rfl,lo,hi,rfl,a1,a2,a3,a4,a5⟩
        have e:lo=hi:=by lia
        subst e
        exact ⟨rfl,lo,rfl,a2,a4,a5⟩
      case post =>
        rintro c st' ⟨rfl,k,rfl,a2,a4,a5⟩
        exact Co (h k a2 a4 a5)
      case step =>
        rintro x c st' _ hx ⟨rfl,lo,hi,rfl,a1,a2,a3,a4,a5⟩
        dsimp only
        by_cases hge:lo≥hi
        · rw[if_pos hge]
          have e:lo=hi:=by lia
          subst e
          exact Co ⟨rfl,lo,rfl,a2,a4,a5⟩
        · rw[if_neg hge]
          refine Cc (hf _ (by lia) _ ?_)
          dsimp only
          cases hm:p (lo+(hi-lo)/2) with
          | true =>
            rw[if_pos rfl]
            exact Co ⟨rfl,_,_,rfl,by lia,a2,by lia,λi hi'=>hp i _ (by lia) (by lia) hm,a5⟩
          | false =>
            rw[if_neg (by simp)]
            refine Co ⟨rfl,_,_,rfl,by lia,by lia,by lia,a4,λi hi' hn =>?_⟩
            cases hpi:p i with
            | false=>rfl
            | true=>rw[hp _ i hi' hn hpi] at hm;cases hm
end
open PySem PyProof.Rows
structure Cmp (prog:Ca)(w:CJ)(A:Dd)(s:BQ)(O:G9)(key:Cn->O.α)(U:Cn->Prop)(κ:SortKind):Prop where
 lt:∀(E:BM->BQ->Prop) (st:CM) (x y:Cn) (Q:Option Bool->CM->Prop),kindOf st=κ -> U x->U y->Q (some (O.blt (key x) (key y))) st->wpS (Cs prog w) A E s (lt' x y) Q st
section
variable  {prog:Ca}{w:CJ}{A:Dd}{E:BM->BQ->Prop}{s:BQ}{O:G9}{key:Cn->O.α}{U:Cn->Prop}{κ:SortKind}
theorem bj {ar:Array Cn}{i:Nat}{z:Cn}{st:CM}{Q:Cn->CM->Prop}(h:ar[i]? = some z)(hq:Q z st):wpS (Cs prog w) A E s (elem' ar i) Q st:=by
 rw[elem'_eq,h]
 exact Co hq
theorem Ac (C:Cmp prog w A s O key U κ){ky:Cn}{ar:Array Cn}{bs n ht:Nat}{st:CM}{Q:Option Nat->CM->Prop}(g:Nat->Cn)(hk:kindOf st=κ)(uk:U ky)
  (hg:∀i,i<n->ar[bs+i]? = some (g i)) (hu:∀i,i<n->U (g i)) (hs:∀i j,i<=j->j<n->O.kle (key (g i)) (key (g j))) (hh:ht<n)
  (h:∀k,k<=n->(∀i,i<k->O.kle (key (g i)) (key ky))->(∀i,k<=i->i<n->O.klt (key ky) (key (g i)))->Q (some k) st):wpS (Cs prog w) A E s (gal false ky ar bs n ht) Q st:=by
 refine vX (λi => !O.blt (key ky) (key (g i))) (λi hi R hr =>?_) (λi j hij hj hp =>?_) hh (λk hk' h1 h2=>h k hk' (λi hi =>?_) λi hi hn =>?_)
 ·refine Cc (bj (hg i hi) ?_)
  rw[if_neg (by simp)]
  exact Cc (C.lt _ st ky (g i) _ hk uk (hu i hi) (Co hr))
 ·have a1:O.blt (key ky) (key (g j))=false:=by simpa using hp
  have a2:O.kle (key (g i)) (key ky):=C2 (hs i j hij hj) a1
  have a3:O.blt (key ky) (key (g i))=false:=a2
  simp[a3]
 ·have a1:=h1 i hi
  exact (by simpa using a1:O.blt (key ky) (key (g i))=false)
 ·have a1:=h2 i hi hn
  exact (by simpa using a1:O.blt (key ky) (key (g i))=true)
theorem Ad (C:Cmp prog w A s O key U κ){ky:Cn}{ar:Array Cn}{bs n ht:Nat}{st:CM}{Q:Option Nat->CM->Prop}(g:Nat->Cn)(hk:kindOf st=κ)(uk:U ky)
  (hg:∀i,i<n->ar[bs+i]? = some (g i)) (hu:∀i,i<n->U (g i)) (hs:∀i j,i<=j->j<n->O.kle (key (g i)) (key (g j))) (hh:ht<n)
  (h:∀k,k<=n->(∀i,i<k->O.klt (key (g i)) (key ky))->(∀i,k<=i->i<n->O.kle (key ky) (key (g i)))->Q (some k) st):wpS (Cs prog w) A E s (gal true ky ar bs n ht) Q st:=by
 refine vX (λi=>O.blt (key (g i)) (key ky)) (λi hi R hr =>?_) (λi j hij hj hp =>?_) hh (λk hk' h1 h2=>h k hk' (λi hi=>h1 i hi) λi hi hn=>h2 i hi hn)
 ·refine Cc (bj (hg i hi) ?_)
  rw[if_pos rfl]
  exact C.lt _ st (g i) ky _ hk (hu i hi) uk hr
 ·exact KeyOrd.klt_of_kle_of_klt (hs i j hij hj) hp
end
open PySem PyProof.Rows
section
variable  {O:G9}(key:Cn->O.α)
def Le (p q:Cn):Prop:=O.kle (key p) (key q)
structure MW (a b o:Array Cn)(x y:Nat):Prop where
 hx:x<=a.size
 hy:y<=b.size
 perm:(o.toList++(a.toList.drop x++b.toList.drop y)).Perm (a.toList++b.toList)
 sorted:o.toList.Pairwise (Le key)
 below:∀p∈o.toList,∀z∈a.toList.drop x++b.toList.drop y,Le key p z
def d7 (a b r:Array Cn):Prop:=r.toList.Perm (a.toList++b.toList)/\r.toList.Pairwise (Le key)
variable  {key}
theorem MW.fin {a b o:Array Cn}{x y:Nat}(m:MW key a b o x y){t:List Cn}{r:Array Cn}(hr:r.toList=o.toList++t)(ht:t.Perm (a.toList.drop x++b.toList.drop y))(hs:t.Pairwise (Le key)):d7 key a b r:=by
 unfold d7
 rw[hr]
 exact ⟨(D5 _ ht).trans m.perm,Dx.mpr ⟨m.sorted,hs,λp hp q hq=>m.below p hp q (ht.mem_iff.mp hq)⟩⟩
theorem MW.take {a b o:Array Cn}{x y x' y':Nat}(m:MW key a b o x y){t:List Cn}{r:Array Cn}(hr:r.toList=o.toList++t)(hx:x'<=a.size)(hy:y'<=b.size)
  (ht:(t++(a.toList.drop x'++b.toList.drop y')).Perm (a.toList.drop x++b.toList.drop y)) (hs:t.Pairwise (Le key)) (hb:∀p∈t,∀z∈a.toList.drop x'++b.toList.drop y',Le key p z):MW key a b r x' y':=by
 have sub:∀z,z∈t\/z∈a.toList.drop x'++b.toList.drop y'->z∈a.toList.drop x++b.toList.drop y:=λz hz=>ht.mem_iff.mp (B0.mpr hz)
 refine ⟨hx,hy,?_,?_,?_⟩
 ·rw[hr,Cy]
  exact (D5 _ ht).trans m.perm
 ·rw[hr]
  exact Dx.mpr ⟨m.sorted,hs,λp hp q hq=>m.below p hp q (sub q (.inl hq))⟩
 ·rw[hr]
  intro p hp z hz
  rcases B0.mp hp with h | h
  ·exact m.below p h z (sub z (.inr hz))
  ·exact hb p h z hz
theorem drop_cons {α:Type}{l:List α}{i:Nat}{z:α}(h:l[i]? = some z):l.drop i=z :: l.drop (i+1):=by
 obtain ⟨hi,e⟩:=B1.mp h
 rw[EY hi,e]
theorem drop_take {α:Type}(l:List α)(i k:Nat):l.drop i=(l.drop i).take k++l.drop (i+k):=by
 rw[<- KD,DG]
theorem aI {a:Array Cn}{i:Nat}{z:Cn}(h:a[i]? = some z):a.toList[i]? = some z:=by rw[B3];exact h
theorem MW.ji {a b o:Array Cn}{x y:Nat}{z:Cn}(m:MW key a b o x y)(h:a[x]? = some z)(ha:a.toList.Pairwise (Le key))(hb:∀t∈b.toList.drop y,Le key z t):MW key a b (o.push z) (x+1) y:=by
 have e:=drop_cons (aI h)
 have hx:x<a.size:=(DV.mp h).1
 have pa:(z :: a.toList.drop (x+1)).Pairwise (Le key):=by rw[<- e];exact ha.sublist (DC _ _)
 refine m.take (t:=[z]) (by rw[Em]) hx m.hy (by rw[e];exact FR _) (Ea _ _) λp hp t ht =>?_
 have ep:p=z:=by simpa using hp
 subst ep
 rcases B0.mp ht with q | q
 ·exact (Gp.mp pa).1 t q
 ·exact hb t q
theorem MW.mv {a b o:Array Cn}{x y:Nat}{z:Cn}(m:MW key a b o x y)(h:b[y]? = some z)(hb:b.toList.Pairwise (Le key))(ha:∀t∈a.toList.drop x,Le key z t):MW key a b (o.push z) x (y+1):=by
 have e:=drop_cons (aI h)
 have hy:y<b.size:=(DV.mp h).1
 have pb:(z :: b.toList.drop (y+1)).Pairwise (Le key):=by rw[<- e];exact hb.sublist (DC _ _)
 refine m.take (t:=[z]) (by rw[Em]) m.hx hy (by rw[e,List.singleton_append];exact J8.symm) (Ea _ _) λp hp t ht =>?_
 have ep:p=z:=by simpa using hp
 subst ep
 rcases B0.mp ht with q | q
 ·exact ha t q
 ·exact (Gp.mp pb).1 t q
theorem ext_toList (a:Array Cn)(x k:Nat):(a.extract x (x+k)).toList=(a.toList.drop x).take k:=by
 rw[ED,D2,Fe]
theorem gq (a:Array Cn)(x:Nat):(a.extract x a.size).toList=a.toList.drop x:=by
 rw[ED,D2]
 exact B9 (by rw[Dt,BW];exact BS _)
theorem aL {l:List Cn}(h:l.Pairwise (Le key)){i j:Nat}{p q:Cn}(hi:l[i]? = some p)(hj:l[j]? = some q)(hij:i<=j):Le key p q:=by
 by_cases e:i=j
 ·subst e
  rw[hi] at hj
  cases hj
  exact Eb _
 ·obtain ⟨h1,e1⟩:=B1.mp hi
  obtain ⟨h2,e2⟩:=B1.mp hj
  have:=EZ.mp h i j h1 h2 (by lia)
  rw[e1,e2] at this
  exact this
theorem bh {l:List Cn}{i:Nat}{t:Cn}(h:t∈l.drop i):∃j,i<=j/\l[j]? = some t:=by
 obtain ⟨n,e⟩:=CW.mp h
 rw[Fu] at e
 exact ⟨i+n,by lia,e⟩
theorem jj {l:List Cn}{i k:Nat}{t:Cn}(h:t∈(l.drop i).take k):∃j,j<k/\l[i+j]? = some t:=by
 obtain ⟨n,e⟩:=CW.mp h
 rw[Ec] at e
 split at e
 ·rw[Fu] at e
  exact ⟨n,by omega,e⟩
 ·cases e
theorem MW.vY {a b o:Array Cn}{x y k:Nat}(m:MW key a b o x y)(hk:x+k<=a.size)(ha:a.toList.Pairwise (Le key))(hb:∀j p,j<k->a.toList[x+j]? = some p->∀t∈b.toList.drop y,Le key p t):MW key a b (o++a.extract x (x+k)) (x+k) y:=by
 refine m.take (t:=(a.toList.drop x).take k) (by rw[C3,ext_toList]) hk m.hy ?_ ?_ λp hp t ht =>?_
 ·rw[<- Cy, <- drop_take]
 ·exact ha.sublist ((DB _ _).trans (DC _ _))
 ·obtain ⟨j,hj,e⟩:=jj hp
  rcases B0.mp ht with q | q
  ·obtain ⟨i,hi,e2⟩:=bh q
   exact aL ha e e2 (by lia)
  ·exact hb j p hj e t q
theorem MW.vZ {a b o:Array Cn}{x y k:Nat}(m:MW key a b o x y)(hk:y+k<=b.size)(hb:b.toList.Pairwise (Le key))(ha:∀j p,j<k->b.toList[y+j]? = some p->∀t∈a.toList.drop x,Le key p t):MW key a b (o++b.extract y (y+k)) x (y+k):=by
 refine m.take (t:=(b.toList.drop y).take k) (by rw[C3,ext_toList]) m.hx hk ?_ ?_ λp hp t ht =>?_
 ·rw[drop_take b.toList y k]
  have e:((b.toList.drop y).take k++b.toList.drop (y+k)).take k=(b.toList.drop y).take k:=by rw[<- drop_take]
  rw[e]
  refine (List.perm_append_comm_assoc _ _ _)
 ·exact hb.sublist ((DB _ _).trans (DC _ _))
 ·obtain ⟨j,hj,e⟩:=jj hp
  rcases B0.mp ht with q | q
  ·exact ha j p hj e t q
  ·obtain ⟨i,hi,e2⟩:=bh q
   exact aL hb e e2 (by lia)
theorem MW.uA {a b o:Array Cn}{x y:Nat}(m:MW key a b o x y)(ha:a.toList.Pairwise (Le key))(hy:y=b.size):d7 key a b (o++a.extract x a.size++b.extract y b.size):=by
 subst hy
 have e:b.toList.drop b.size=[]:=Ik (by rw[BW];exact BS _)
 refine m.fin (t:=a.toList.drop x) (by rw[C3,C3,gq,gq,e,CK]) (by rw[e,CK]) (ha.sublist (DC _ _))
theorem MW.uB {a b o:Array Cn}{x y:Nat}(m:MW key a b o x y)(hb:b.toList.Pairwise (Le key))(hx:x=a.size):d7 key a b (o++a.extract x a.size++b.extract y b.size):=by
 subst hx
 have e:a.toList.drop a.size=[]:=Ik (by rw[BW];exact BS _)
 refine m.fin (t:=b.toList.drop y) (by rw[C3,C3,gq,gq,e,CK]) (by rw[e,Gm]) (hb.sublist (DC _ _))
theorem MW.last {a b o:Array Cn}{x y:Nat}(m:MW key a b o x y)(ha:a.toList.Pairwise (Le key))(hb:b.toList.Pairwise (Le key))(hx:x+1=a.size)(hl:∀p q,p∈b.toList->a[a.size-1]? = some q->Le key p q):d7 key a b (o++b.extract y b.size++a.extract x a.size):=by
 refine m.fin (t:=b.toList.drop y++a.toList.drop x) (by rw[C3,C3,gq,gq,Cy]) Ew ?_
 refine Dx.mpr ⟨hb.sublist (DC _ _),ha.sublist (DC _ _),λp hp q hq=>hl p q (FN hp) ?_⟩
 obtain ⟨i,hi,e⟩:=bh hq
 rw[B3] at e
 have hi2:i<a.size:=(DV.mp e).1
 rw[show a.size-1=i by lia]
 exact e
theorem MW.size {a b o:Array Cn}{x y:Nat}(m:MW key a b o x y):o.size+(a.size-x)+(b.size-y)=a.size+b.size:=by
 have e:=m.perm.length_eq
 simp only[BR,Dt,BW] at e
 lia
end
structure Sm (st st':CM):Prop where
 k:kindOf st'=kindOf st
 a:Cq st'=Cq st
 p:CF st'=CF st
 f:failedOf st'=failedOf st
theorem Sm.refl (st:CM):Sm st st:=⟨rfl,rfl,rfl,rfl⟩
theorem Sm.mg {st st':CM}(h:Sm st st')(n:Nat):Sm st (SortSt.mk' (kindOf st') (Cq st') (CF st') n (failedOf st')):=⟨h.k,h.a,h.p,h.f⟩
open PySem PyProof.Rows
section
variable  {prog:Ca}{w:CJ}{A:Dd}{E:BM->BQ->Prop}{s:BQ}{O:G9}{key:Cn->O.α}{U:Cn->Prop}{κ:SortKind}
theorem bq {a:Array Cn}{i:Nat}(h:i<a.size):∃z,a[i]? = some z:=⟨a[i],by simp[h]⟩
theorem b8 {a:Array Cn}{i:Nat}{z:Cn}(h:a[i]? = some z):z∈a.toList:=CW.mpr ⟨i,by rw[B3];exact h⟩
theorem ltq {x n:Nat}(h:x<=n)(c:¬ (x == n)=true):x<n:=Jp h λz=>c (beq_iff_eq.mpr z)
abbrev LoC:=Option (Array Cn)×Array Cn×Nat×Nat×Nat×Nat×Nat
def yd (a b o:Array Cn)(x y mg ac bc:Nat):StateT CM Sem (ForInStep LoC):=do
  let z ← elem' a x
  if (x+1+1 == a.size)=true then pure (.done (some (o.push z++b.extract y b.size++a.extract (x+1) a.size),o.push z,x+1,y,mg,ac,bc))
  else if (decide (ac<7) && decide (bc<7))=true then pure (.done (none,o.push z,x+1,y,mg,ac,bc))
  else pure (.yield (none,o.push z,x+1,y,mg,ac,bc))
def ye (a b o:Array Cn)(x y mg ac bc:Nat):StateT CM Sem (ForInStep LoC):=do
  let z ← elem' b y
  if (y+1 == b.size)=true then pure (.done (some (o.push z++a.extract x a.size++b.extract (y+1) b.size),o.push z,x,y+1,mg,ac,bc))
  else do
    let z2 ← elem' a x
    let __x ← gal true z2 b (y+1) (b.size-(y+1)) 0
    match __x with
    | some k =>
      if k>0 then
        if (y+1+k == b.size)=true then pure (.done (some (o.push z++b.extract (y+1) (y+1+k)++a.extract x a.size++b.extract (y+1+k) b.size),o.push z++b.extract (y+1) (y+1+k),x,y+1+k,mg,ac,k))
        else yd a b (o.push z++b.extract (y+1) (y+1+k)) x (y+1+k) mg ac k
      else yd a b (o.push z) x (y+1) mg ac k
    | _=>pure (.done (some (o.push z++a.extract x a.size++b.extract (y+1) b.size),o.push z,x,y+1,mg,ac,bc))
def uC (a b p:Array Cn)(x y ac bc mg:Nat):StateT CM Sem (ForInStep LoC):=do
  modify (λs=>SortSt.mk' (kindOf s) (Cq s) (CF s) mg (failedOf s))
  let z ← elem' b y
  let __x ← gal false z a x (a.size-x) 0
  match __x with
  | some k =>
    if k>0 then
      if (x+k+1 == a.size)=true then pure (.done (some (p++a.extract x (x+k)++b.extract y b.size++a.extract (x+k) a.size),p++a.extract x (x+k),x+k,y,mg,k,bc))
      else if (x+k == a.size)=true then pure (.done (some (p++a.extract x (x+k)++a.extract (x+k) a.size++b.extract y b.size),p++a.extract x (x+k),x+k,y,mg,k,bc))
      else ye a b (p++a.extract x (x+k)) (x+k) y mg k bc
    else ye a b p x y mg k bc
  | _=>pure (.done (some (p++a.extract x a.size++b.extract y b.size),p,x,y,mg,ac,bc))
def LoQ (key:Cn->O.α)(a b:Array Cn)(st:CM)(n:Nat)(r:ForInStep LoC)(st':CM):Prop:=match r with
 | .done c=>Sm st st'/\((∃r p x y mg ac bc,c=(some r,p,x,y,mg,ac,bc)/\d7 key a b r)\/∃p x y mg ac bc,c=(none,p,x,y,mg,ac,bc)/\MW key a b p x y/\x+1<a.size/\y<b.size/\n<=p.size)
 | .yield c=>Sm st st'/\∃p x y mg ac bc,c=(none,p,x,y,mg,ac,bc)/\MW key a b p x y/\x+1<a.size/\y<b.size/\n<=p.size
theorem LoQ.out {a b:Array Cn}{st st':CM}{n:Nat}{r:Array Cn}{c:Array Cn×Nat×Nat×Nat×Nat×Nat}(sm:Sm st st')(f:d7 key a b r):LoQ key a b st n (.done (some r,c)) st':=by
 obtain ⟨p,x,y,mg,ac,bc⟩:=c
 exact ⟨sm,.inl ⟨_,_,_,_,_,_,_,rfl,f⟩⟩
theorem sJ {a b:Array Cn}{st st':CM}(ha:a.toList.Pairwise (Le key))(hb:b.toList.Pairwise (Le key))(hl:∀p q,p∈b.toList->a[a.size-1]? = some q->Le key p q)
  {o:Array Cn} {x y mg ac bc n:Nat} {za:Cn} (sm:Sm st st') (ea:a[x]? = some za) (m4:MW key a b (o.push za) (x+1) y) (hx:x+1<a.size) (hy:y<b.size) (hn:n<=o.size):wpS (Cs prog w) A E s (yd a b o x y mg ac bc) (LoQ key a b st n) st':=by
 unfold yd
 refine Cc (bj ea ?_)
 by_cases d5:(x+1+1 == a.size)=true
 ·rw[if_pos d5]
  exact Co (LoQ.out sm (m4.last ha hb (beq_iff_eq.mp d5) hl))
 rw[if_neg d5]
 have hx2:x+1+1<a.size:=ltq hx d5
 have hn':n<=(o.push za).size:=by rw[E3];exact FD hn
 split
 ·exact Co ⟨sm,.inr ⟨_,_,_,_,_,_,rfl,m4,hx2,hy,hn'⟩⟩
 ·exact Co ⟨sm,_,_,_,_,_,_,rfl,m4,hx2,hy,hn'⟩
theorem sL (C:Cmp prog w A s O key U κ){a b:Array Cn}{st st':CM}(hκ:kindOf st=κ)(ua:∀p∈a.toList,U p)(ub:∀p∈b.toList,U p)
  (ha:a.toList.Pairwise (Le key)) (hb:b.toList.Pairwise (Le key)) (hl:∀p q,p∈b.toList->a[a.size-1]? = some q->Le key p q)
  {o:Array Cn} {x y mg ac bc n:Nat} {zb:Cn} (sm:Sm st st') (eb:b[y]? = some zb) (mk:MW key a b o x y) (bl:∀t∈a.toList.drop x,Le key zb t) (hx1:x+1<a.size) (hy:y<b.size) (hn:n<=o.size):wpS (Cs prog w) A E s (ye a b o x y mg ac bc) (LoQ key a b st n) st':=by
 unfold ye
 refine Cc (bj eb ?_)
 have m2:=mk.mv eb hb bl
 by_cases d3:(y+1 == b.size)=true
 ·rw[if_pos d3]
  exact Co (LoQ.out sm (m2.uA ha (beq_iff_eq.mp d3)))
 rw[if_neg d3]
 have hy1:y+1<b.size:=ltq hy d3
 have hxa:x<a.size:=En hx1
 obtain ⟨za,ea⟩:=bq hxa
 refine Cc (bj ea ?_)
 refine Cc (Ad C (λi=>(b[y+1+i]?).getD za) (sm.k.trans hκ) (ua _ (b8 ea)) (λi hi =>?_) (λi hi =>?_) (λi j hij hj =>?_) (JL hy1) λk1 hk1 g1 g2 =>?_)
 ·obtain ⟨z,e⟩:=bq (show y+1+i<b.size by omega)
  rw[e];rfl
 ·obtain ⟨z,e⟩:=bq (show y+1+i<b.size by omega)
  rw[e];exact ub _ (b8 e)
 ·obtain ⟨z,e⟩:=bq (show y+1+i<b.size by omega)
  obtain ⟨z',e'⟩:=bq (show y+1+j<b.size by omega)
  rw[e,e'];exact aL hb (aI e) (aI e') (FZ hij _)
 dsimp only at g1 g2 ⊢
 have tb:∀j q,j<k1->b.toList[y+1+j]? = some q->∀t∈a.toList.drop x,Le key q t:=λj q hj e t ht=>by
  have z:=g1 j hj
  rw[B3] at e
  rw[e] at z
  obtain ⟨n,hn,e2⟩:=bh ht
  exact C2 (DK z) (aL ha (aI ea) e2 hn)
 have hk1':y+1+k1<=b.size:=by omega
 have m3:=m2.vZ (k:=k1) hk1' hb tb
 have bl2:∀t∈b.toList.drop (y+1+k1),Le key za t:=λt ht=>by
  obtain ⟨n,hn,e2⟩:=bh ht
  rw[B3] at e2
  have hn2:n<b.size:=(DV.mp e2).1
  have z:=g2 (n-(y+1)) (by omega) (by omega)
  rw[show y+1+(n-(y+1))=n by omega,e2] at z
  exact z
 have hn1:n<=(o.push zb).size:=by rw[E3];exact FD hn
 by_cases k2:k1>0
 ·rw[if_pos k2]
  by_cases d4:(y+1+k1 == b.size)=true
  ·rw[if_pos d4]
   exact Co (LoQ.out sm (m3.uA ha (beq_iff_eq.mp d4)))
  rw[if_neg d4]
  exact sJ ha hb hl sm ea (m3.ji ea ha bl2) hx1 (ltq hk1' d4) (CP hn1 (by rw[FE];exact EC _ _))
 ·rw[if_neg k2]
  obtain rfl:k1=0:=Fq k2
  exact sJ ha hb hl sm ea (m2.ji ea ha bl2) hx1 hy1 hn1
theorem sM (C:Cmp prog w A s O key U κ){a b:Array Cn}{st st':CM}(hκ:kindOf st=κ)(ua:∀p∈a.toList,U p)(ub:∀p∈b.toList,U p)
  (ha:a.toList.Pairwise (Le key)) (hb:b.toList.Pairwise (Le key)) (hl:∀p q,p∈b.toList->a[a.size-1]? = some q->Le key p q)
  {p:Array Cn} {x y ac bc n:Nat} (mg:Nat) (sm:Sm st st') (m:MW key a b p x y) (hx:x+1<a.size) (hy:y<b.size) (hn:n<=p.size):wpS (Cs prog w) A E s (uC a b p x y ac bc mg) (LoQ key a b st n) st':=by
 unfold uC
 obtain ⟨zb,eb⟩:=bq hy
 refine Cc (EJ ?_)
 refine Cc (bj eb ?_)
 refine Cc (Ac C (λi=>(a[x+i]?).getD zb) ((sm.mg _).k.trans hκ) (ub _ (b8 eb)) (λi hi =>?_) (λi hi =>?_) (λi j hij hj =>?_) (JL (En hx)) λk hk h1 h2 =>?_)
 ·obtain ⟨z,e⟩:=bq (show x+i<a.size by lia)
  rw[e];rfl
 ·obtain ⟨z,e⟩:=bq (show x+i<a.size by lia)
  rw[e];exact ua _ (b8 e)
 ·obtain ⟨z,e⟩:=bq (show x+i<a.size by lia)
  obtain ⟨z',e'⟩:=bq (show x+j<a.size by lia)
  rw[e,e'];exact aL ha (aI e) (aI e') (FZ hij _)
 dsimp only at h1 h2 ⊢
 have ta:∀j q,j<k->a.toList[x+j]? = some q->∀t∈b.toList.drop y,Le key q t:=λj q hj e t ht=>by
  have z:=h1 j hj
  rw[B3] at e
  rw[e] at z
  obtain ⟨n,hn,e2⟩:=bh ht
  exact C2 (show O.kle (key q) (key zb) from z) (aL hb (aI eb) e2 hn)
 have hk':x+k<=a.size:=by lia
 have mk:=m.vY (k:=k) hk' ha ta
 have bl:∀t∈a.toList.drop (x+k),Le key zb t:=λt ht=>by
  obtain ⟨n,hn,e2⟩:=bh ht
  rw[B3] at e2
  have hn2:n<a.size:=(DV.mp e2).1
  have z:=h2 (n-x) (by lia) (by lia)
  rw[show x+(n-x)=n by lia,e2] at z
  exact DK z
 by_cases k0:k>0
 ·rw[if_pos k0]
  by_cases d1:(x+k+1 == a.size)=true
  ·rw[if_pos d1]
   exact Co (LoQ.out (sm.mg _) (mk.last ha hb (beq_iff_eq.mp d1) hl))
  rw[if_neg d1]
  by_cases d2:(x+k == a.size)=true
  ·rw[if_pos d2]
   exact Co (LoQ.out (sm.mg _) (mk.uB hb (beq_iff_eq.mp d2)))
  rw[if_neg d2]
  exact sL C hκ ua ub ha hb hl (sm.mg _) eb mk bl (ltq (ltq hk' d2) d1) hy (CP hn (by rw[FE];exact EC _ _))
 ·rw[if_neg k0]
  obtain rfl:k=0:=Fq k0
  exact sL C hκ ua ub ha hb hl (sm.mg _) eb m bl hx hy hn
theorem yf (C:Cmp prog w A s O key U κ){a b:Array Cn}{st st':CM}(hκ:kindOf st=κ)(ua:∀p∈a.toList,U p)(ub:∀p∈b.toList,U p)
  (ha:a.toList.Pairwise (Le key)) (hb:b.toList.Pairwise (Le key)) (hl:∀p q,p∈b.toList->a[a.size-1]? = some q->Le key p q)
  {p:Array Cn} {x y ac bc n mg:Nat} (sm:Sm st st') (m:MW key a b p x y) (hx:x+1<a.size) (hy:y<b.size) (hn:n<=p.size):wpS (Cs prog w) A E s (if mg>1 then uC a b p x y ac bc (mg-1) else uC a b p x y ac bc mg) (LoQ key a b st n) st':=by
 split
 ·exact sM C hκ ua ub ha hb hl (mg-1) sm m hx hy hn
 ·exact sM C hκ ua ub ha hb hl mg sm m hx hy hn
abbrev LoD:=Option (Array Cn)×Array Cn×Nat×Nat×Nat×Nat
abbrev LoE:=Option (Array Cn)×Array Cn×Nat×Nat×Nat
def v3 (a b:Array Cn)(mg:Nat)(c:LoD):StateT CM Sem (ForInStep LoD):=do
  let u ← elem' b c.2.2.2.1
  let v ← elem' a c.2.2.1
  let __x ← lt' u v
  match __x with
  | some bw =>
    if bw=true then do
      let z ← elem' b c.2.2.2.1
      if (c.2.2.2.1+1 == b.size)=true then pure (.done (some (c.2.1.push z++a.extract c.2.2.1 a.size++b.extract (c.2.2.2.1+1) b.size),c.2.1.push z,c.2.2.1,c.2.2.2.1+1,0,c.2.2.2.2.2+1))
      else if c.2.2.2.2.2+1≥mg then pure (.done (none,c.2.1.push z,c.2.2.1,c.2.2.2.1+1,0,c.2.2.2.2.2+1))
      else pure (.yield (none,c.2.1.push z,c.2.2.1,c.2.2.2.1+1,0,c.2.2.2.2.2+1))
    else do
      let z ← elem' a c.2.2.1
      if (c.2.2.1+1+1 == a.size)=true then pure (.done (some (c.2.1.push z++b.extract c.2.2.2.1 b.size++a.extract (c.2.2.1+1) a.size),c.2.1.push z,c.2.2.1+1,c.2.2.2.1,c.2.2.2.2.1+1,0))
      else if c.2.2.2.2.1+1≥mg then pure (.done (none,c.2.1.push z,c.2.2.1+1,c.2.2.2.1,c.2.2.2.2.1+1,0))
      else pure (.yield (none,c.2.1.push z,c.2.2.1+1,c.2.2.2.1,c.2.2.2.2.1+1,0))
  | _=>pure (.done (some (c.2.1++a.extract c.2.2.1 a.size++b.extract c.2.2.2.1 b.size),c.2.1,c.2.2.1,c.2.2.2.1,c.2.2.2.2.1,c.2.2.2.2.2))
def Ae (a b:Array Cn)(c:LoC):StateT CM Sem (ForInStep LoC) :=
 if c.2.2.2.2.1>1 then uC a b c.2.1 c.2.2.1 c.2.2.2.1 c.2.2.2.2.2.1 c.2.2.2.2.2.2 (c.2.2.2.2.1-1) else uC a b c.2.1 c.2.2.1 c.2.2.2.1 c.2.2.2.2.2.1 c.2.2.2.2.2.2 c.2.2.2.2.1
def rf (a b:Array Cn)(c:LoE):StateT CM Sem (ForInStep LoE):=do
  let d ← forIn [0:a.size+b.size] ((none,c.2.1,c.2.2.1,c.2.2.2.1,0,0):LoD) λ_ d=>v3 a b c.2.2.2.2 d
  match d.1 with
  | some r=>pure (.done (some r,d.2.1,d.2.2.1,d.2.2.2.1,c.2.2.2.2))
  | none=>do
    rule "list.sort.gallop"
    let e ← forIn [0:a.size+b.size] ((none,d.2.1,d.2.2.1,d.2.2.2.1,c.2.2.2.2+1,d.2.2.2.2.1,d.2.2.2.2.2):LoC) λ_ e=>Ae a b e
    match e.1 with
    | some r=>pure (.done (some r,e.2.1,e.2.2.1,e.2.2.2.1,e.2.2.2.2.1))
    | none=>do
      modify (λs=>SortSt.mk' (kindOf s) (Cq s) (CF s) (e.2.2.2.2.1+1) (failedOf s))
      pure (.yield (none,e.2.1,e.2.2.1,e.2.2.2.1,e.2.2.2.2.1+1))
theorem yg (a b:Array Cn):mLo a b=(do
    rule "list.sort.merge-lo"
    let z ← elem' b 0
    if (1 == b.size)=true then pure (#[z]++a.extract 0 a.size++b.extract 1 b.size)
    else if (0+1 == a.size)=true then pure (#[z]++b.extract 1 b.size++a.extract 0 a.size)
    else do
      let g ← get
      let c ← forIn [0:a.size+b.size] ((none, #[z],0,1,gallopOf g):LoE) λ_ c=>rf a b c
      match c.1 with
      | some r=>pure r
      | none=>unsupported "internal:list.sort.merge-bound"):=by
  kernel_rfl
def LdI (key:Cn->O.α)(a b:Array Cn)(st:CM)(n:Nat)(c:LoD)(st':CM):Prop:=Sm st st'/\∃o' x y ac bc,c=(none,o',x,y,ac,bc)/\MW key a b o' x y/\x+1<a.size/\y<b.size/\n<=o'.size
def LdQ (key:Cn->O.α)(a b:Array Cn)(st:CM)(n:Nat)(c:LoD)(st':CM):Prop:=Sm st st'/\((∃r o x y ac bc,c=(some r,o,x,y,ac,bc)/\d7 key a b r)\/∃o' x y ac bc,c=(none,o',x,y,ac,bc)/\MW key a b o' x y/\x+1<a.size/\y<b.size/\n<=o'.size)
theorem v5 (C:Cmp prog w A s O key U κ){a b:Array Cn}{st st':CM}(hκ:kindOf st=κ)(ua:∀p∈a.toList,U p)(ub:∀p∈b.toList,U p)
  (ha:a.toList.Pairwise (Le key)) (hb:b.toList.Pairwise (Le key)) (hl:∀p q,p∈b.toList->a[a.size-1]? = some q->Le key p q)
  {mg n m':Nat} {c:LoD} (I:LdI key a b st n c st') (hm:m'<=n+1) {Q:ForInStep LoD->CM->Prop} (h:∀r st',(match r with | .done c'=>LdQ key a b st (n+1) c' st' | .yield c'=>LdI key a b st m' c' st')->Q r st'):wpS (Cs prog w) A E s (v3 a b mg c) Q st':=by
 obtain ⟨sm2,o',x,y,ac,bc,rfl,m,hx,hy,hz⟩:=I
 unfold v3
 obtain ⟨za,ea⟩:=bq (En hx)
 obtain ⟨zb,eb⟩:=bq hy
 refine Cc (bj eb (Cc (bj ea (Cc (C.lt _ st' zb za _ (sm2.k.trans hκ) (ub _ (b8 eb)) (ua _ (b8 ea)) ?_)))))
 dsimp only
 have sz:∀z,n+1<=(o'.push z).size:=λz=>by rw[E3];exact HZ hz
 cases hlt:O.blt (key zb) (key za) with
 | true =>
  rw[if_pos rfl]
  refine Cc (bj eb ?_)
  have m1:=m.mv eb hb λt ht=>by
   obtain ⟨n,hn,e⟩:=bh ht
   exact C2 (DK hlt) (aL ha (aI ea) e hn)
  by_cases c3:(y+1 == b.size)=true
  ·rw[if_pos c3]
   exact Co (h _ _ ⟨sm2,.inl ⟨_,_,_,_,_,_,rfl,m1.uA ha (beq_iff_eq.mp c3)⟩⟩)
  ·rw[if_neg c3]
   have c3':=ltq hy c3
   split
   ·exact Co (h _ _ ⟨sm2,.inr ⟨_,_,_,_,_,rfl,m1,hx,c3',sz _⟩⟩)
   ·exact Co (h _ _ ⟨sm2,_,_,_,_,_,rfl,m1,hx,c3',CP hm (sz _)⟩)
 | false =>
  rw[if_neg B6]
  refine Cc (bj ea ?_)
  have m1:=m.ji ea ha λt ht=>by
   obtain ⟨n,hn,e⟩:=bh ht
   exact C2 (show O.kle (key za) (key zb) from hlt) (aL hb (aI eb) e hn)
  by_cases c3:(x+1+1 == a.size)=true
  ·rw[if_pos c3]
   exact Co (h _ _ ⟨sm2,.inl ⟨_,_,_,_,_,_,rfl,m1.last ha hb (beq_iff_eq.mp c3) hl⟩⟩)
  ·rw[if_neg c3]
   have c3':=ltq hx c3
   split
   ·exact Co (h _ _ ⟨sm2,.inr ⟨_,_,_,_,_,rfl,m1,c3',hy,sz _⟩⟩)
   ·exact Co (h _ _ ⟨sm2,_,_,_,_,_,rfl,m1,c3',hy,CP hm (sz _)⟩)
def LeI (key:Cn->O.α)(a b:Array Cn)(st:CM)(n:Nat)(c:LoE)(st':CM):Prop:=Sm st st'/\∃o x y mg,c=(none,o,x,y,mg)/\MW key a b o x y/\x+1<a.size/\y<b.size/\n+1<=o.size
def LeQ (key:Cn->O.α)(a b:Array Cn)(st:CM)(c:LoE)(st':CM):Prop:=Sm st st'/\((∃r o x y mg,c=(some r,o,x,y,mg)/\d7 key a b r)\/∃o x y mg,c=(none,o,x,y,mg)/\MW key a b o x y/\x+1<a.size/\y<b.size/\a.size+b.size+1<=o.size)
theorem uD (C:Cmp prog w A s O key U κ){a b:Array Cn}{st st':CM}(hκ:kindOf st=κ)(ua:∀p∈a.toList,U p)(ub:∀p∈b.toList,U p)
  (ha:a.toList.Pairwise (Le key)) (hb:b.toList.Pairwise (Le key)) (na:0<a.size) (hl:∀p q,p∈b.toList->a[a.size-1]? = some q->Le key p q)
  {n:Nat} {c:LoE} (I:LeI key a b st n c st'):wpS (Cs prog w) A E s (rf a b c) (λr st'=>match r with | .done c'=>LeQ key a b st c' st' | .yield c'=>LeI key a b st (n+1) c' st') st':=by
 obtain ⟨sm1,o,x,y,mg,rfl,m,hx,hy,hz⟩:=I
 unfold rf
 have q1:1<=a.size+b.size:=CP na (EC _ _)
 refine Cc (Et (DH (I:=λj c st'=>LdI key a b st (o.size+min j 1) c st') (Q:=LdQ key a b st (o.size+1)) (λj c st2 _ hj J=>v5 (n:=o.size+min j 1) (m':=o.size+min (j+1) 1) C hκ ua ub ha hb hl J (by lia) λr st' k =>?_) (λc st' J =>?_) ⟨sm1,o,x,y,0,0,rfl,m,hx,hy,BS _⟩) ?_)
 ·cases r with
  | done c'=>exact k.imp id λz=>z.imp id λ⟨o',x,y,ac,bc,e,m,hx,hy,hz⟩=>⟨o',x,y,ac,bc,e,m,hx,hy,by lia⟩
  | yield c'=>exact k
 ·obtain ⟨sm,o',x,y,ac,bc,e,m,hx,hy,hz⟩:=J
  exact ⟨sm,.inr ⟨o',x,y,ac,bc,e,m,hx,hy,by lia⟩⟩
 rintro c st2 ⟨sm2,⟨r,o',x,y,ac,bc,rfl,fr⟩ | ⟨o',x,y,ac,bc,rfl,m,hx,hy,hz2⟩⟩
 ·exact Co ⟨sm2,.inl ⟨_,_,_,_,_,rfl,fr⟩⟩
 dsimp only
 refine Cc (HW (EB ⟨rfl,?_⟩))
 refine Cc (Et (DH (I:=λ_ c st'=>LoQ key a b st o'.size (.yield c) st') (Q:=λc st'=>LoQ key a b st o'.size (.done c) st') (λj c st3 _ hj J =>?_) (λc st' J=>⟨J.1,.inr J.2⟩) ⟨sm2,o',x,y,_,ac,bc,rfl,m,hx,hy,BS _⟩) ?_)
 ·obtain ⟨sm3,p,x,y,mg,ac,bc,rfl,m,hx,hy,hz3⟩:=J
  refine Et (yf C hκ ua ub ha hb hl sm3 m hx hy hz3) ?_
  intro r st' h
  cases r <;> exact h
 rintro c st3 ⟨sm3,⟨r,p,x,y,mg,ac,bc,rfl,fr⟩ | ⟨p,x,y,mg,ac,bc,rfl,m,hx,hy,hz3⟩⟩
 ·exact Co ⟨sm3,.inl ⟨_,_,_,_,_,rfl,fr⟩⟩
 ·dsimp only
  exact Cc (EJ (Co ⟨sm3.mg _,p,x,y,_,rfl,m,hx,hy,by lia⟩))
theorem Af (C:Cmp prog w A s O key U κ){a b:Array Cn}{st:CM}{Q:Array Cn->CM->Prop}(hκ:kindOf st=κ)(ua:∀p∈a.toList,U p)(ub:∀p∈b.toList,U p)
  (ha:a.toList.Pairwise (Le key)) (hb:b.toList.Pairwise (Le key)) (na:0<a.size) (nb:0<b.size) (h0:∀p q,b[0]? = some p->a[0]? = some q->Le key p q) (hl:∀p q,p∈b.toList->a[a.size-1]? = some q->Le key p q)
  (h:∀r st',Sm st st'->d7 key a b r->Q r st'):wpS (Cs prog w) A E s (mLo a b) Q st:=by
 rw[yg]
 refine Cc (HW (EB ⟨rfl,?_⟩))
 obtain ⟨b0,eb0⟩:=bq nb
 obtain ⟨a0,ea0⟩:=bq na
 have a0le:∀t∈a.toList,Le key a0 t:=λt ht=>by
  obtain ⟨i,e⟩:=CW.mp ht
  exact aL ha (aI ea0) e (CT _)
 have m0:MW key a b #[] 0 0:=⟨CT _,CT _,FR _,List.Pairwise.nil,λp hp=>by cases hp⟩
 have m1:MW key a b #[b0] 0 1:=m0.mv eb0 hb λt ht=>C2 (h0 _ _ eb0 ea0) (a0le t ht)
 refine Cc (bj eb0 ?_)
 by_cases c1:(1 == b.size)=true
 ·rw[if_pos c1]
  exact Co (h _ st (Sm.refl st) (m1.uA ha (beq_iff_eq.mp c1)))
 rw[if_neg c1]
 by_cases c2:(0+1 == a.size)=true
 ·rw[if_pos c2]
  exact Co (h _ st (Sm.refl st) (m1.last ha hb (beq_iff_eq.mp c2) hl))
 rw[if_neg c2]
 refine Cc (Hx ?_)
 refine Cc (Et (DH (I:=λi c st'=>LeI key a b st i c st') (Q:=LeQ key a b st) (λi c st1 _ _ J=>Et (uD C hκ ua ub ha hb na hl J) λr st' h=>by cases r <;> exact h) (λc st' J =>?_) ⟨Sm.refl st,_,_,_,_,rfl,m1,ltq na c2,ltq nb c1,BS _⟩) ?_)
 ·obtain ⟨sm,o,x,y,mg,e,m,hx,hy,hz⟩:=J
  exact ⟨sm,.inr ⟨o,x,y,mg,e,m,hx,hy,by lia⟩⟩
 rintro c st' ⟨sm,⟨r,o,x,y,mg,rfl,fr⟩ | ⟨o,x,y,mg,rfl,m,hx,hy,hz⟩⟩
 ·exact Co (h r st' sm fr)
 ·have:=m.size
  lia
end
open PySem PyProof.Rows
section
variable  {O:G9}(key:Cn->O.α)
structure MV (a b o:Array Cn)(x y:Nat):Prop where
 hx:x<=a.size
 hy:y<=b.size
 perm:((a.toList.take x++b.toList.take y)++o.toList.reverse).Perm (a.toList++b.toList)
 sorted:o.toList.reverse.Pairwise (Le key)
 above:∀p∈a.toList.take x++b.toList.take y,∀q∈o.toList.reverse,Le key p q
variable  {key}
theorem MV.fin {a b o:Array Cn}{x y:Nat}(m:MV key a b o x y){t:List Cn}{r:Array Cn}(hr:r.toList=t++o.toList.reverse)(ht:t.Perm (a.toList.take x++b.toList.take y))(hs:t.Pairwise (Le key)):d7 key a b r:=by
 unfold d7
 rw[hr]
 exact ⟨(EO _ ht).trans m.perm,Dx.mpr ⟨hs,m.sorted,λp hp q hq=>m.above p (ht.mem_iff.mp hp) q hq⟩⟩
theorem MV.take {a b o:Array Cn}{x y x' y':Nat}(m:MV key a b o x y){t:List Cn}{r:Array Cn}(hr:r.toList.reverse=t++o.toList.reverse)(hx:x'<=a.size)(hy:y'<=b.size)
  (ht:((a.toList.take x'++b.toList.take y')++t).Perm (a.toList.take x++b.toList.take y)) (hs:t.Pairwise (Le key)) (hb:∀p∈a.toList.take x'++b.toList.take y',∀q∈t,Le key p q):MV key a b r x' y':=by
 have sub:∀z,z∈a.toList.take x'++b.toList.take y'\/z∈t->z∈a.toList.take x++b.toList.take y:=λz hz=>ht.mem_iff.mp (B0.mpr hz)
 refine ⟨hx,hy,?_,?_,?_⟩
 ·rw[hr, <- Cy]
  exact (EO _ ht).trans m.perm
 ·rw[hr]
  exact Dx.mpr ⟨hs,m.sorted,λp hp q hq=>m.above p (sub p (.inr hp)) q hq⟩
 ·rw[hr]
  intro p hp z hz
  rcases B0.mp hz with h | h
  ·exact hb p hp z h
  ·exact m.above p (sub p (.inl hp)) z h
theorem bz {l:List Cn}{k:Nat}{t:Cn}(h:t∈l.take k):∃j,j<k/\l[j]? = some t:=by
 obtain ⟨n,e⟩:=CW.mp h
 rw[Ec] at e
 split at e
 ·exact ⟨n,by omega,e⟩
 ·cases e
theorem mw {l:List Cn}{x:Nat}{z:Cn}(hx:1<=x)(h:l[x-1]? = some z):l.take x=l.take (x-1)++[z]:=by
 obtain ⟨n,rfl⟩:∃n,x=n+1:=⟨x-1,by lia⟩
 rw[Nat.add_sub_cancel] at h ⊢
 rw[Dp,h]
 rfl
theorem sN (a:Array Cn)(c x:Nat)(hx:x<=a.size):(a.extract c x).toList=(a.toList.take x).drop c:=by
 rw[ED,D2,List.drop_take]
theorem gr (a:Array Cn)(x:Nat):(a.extract 0 x).toList=a.toList.take x:=by
 rw[ED,D2,GH,JW]
theorem MV.ji {a b o:Array Cn}{x y:Nat}{z:Cn}(m:MV key a b o x y)(h1:1<=x)(h:a[x-1]? = some z)(ha:a.toList.Pairwise (Le key))(hb:∀t∈b.toList.take y,Le key t z):MV key a b (o.push z) (x-1) y:=by
 have e:=mw h1 (aI h)
 refine m.take (t:=[z]) (by rw[Em,Ff];rfl) (by have:=m.hx;lia) m.hy ?_ (Ea _ _) λp hp q hq =>?_
 ·rw[e,Cy,Cy]
  exact D5 _ Ew
 ·have eq:q=z:=by simpa using hq
  subst eq
  rcases B0.mp hp with r | r
  ·obtain ⟨j,hj,e2⟩:=bz r
   exact aL ha e2 (aI h) (by lia)
  ·exact hb p r
theorem MV.mv {a b o:Array Cn}{x y:Nat}{z:Cn}(m:MV key a b o x y)(h1:1<=y)(h:b[y-1]? = some z)(hb:b.toList.Pairwise (Le key))(ha:∀t∈a.toList.take x,Le key t z):MV key a b (o.push z) x (y-1):=by
 have e:=mw h1 (aI h)
 refine m.take (t:=[z]) (by rw[Em,Ff];rfl) m.hx (by have:=m.hy;lia) ?_ (Ea _ _) λp hp q hq =>?_
 ·rw[e,Cy]
 ·have eq:q=z:=by simpa using hq
  subst eq
  rcases B0.mp hp with r | r
  ·exact ha p r
  ·obtain ⟨j,hj,e2⟩:=bz r
   exact aL hb e2 (aI h) (by lia)
theorem sO (l:List Cn){c x:Nat}(h:c<=x):l.take x=l.take c++(l.take x).drop c:=by
 have e:(l.take x).take c=l.take c:=by rw[List.take_take,Nat.min_eq_left h]
 rw[<- e,DG]
theorem j8 {l:List Cn}{c x:Nat}{t:Cn}(h:t∈(l.take x).drop c):∃j,c<=j/\j<x/\l[j]? = some t:=by
 obtain ⟨j,hj,e⟩:=bh h
 rw[Ec] at e
 split at e
 ·exact ⟨j,hj,by omega,e⟩
 ·cases e
theorem MV.vY {a b o:Array Cn}{x y c:Nat}(m:MV key a b o x y)(hc:c<=x)(ha:a.toList.Pairwise (Le key))(hb:∀j p,c<=j->j<x->a.toList[j]? = some p->∀t∈b.toList.take y,Le key t p):MV key a b (o++(a.extract c x).reverse) c y:=by
 refine m.take (t:=(a.toList.take x).drop c) (by rw[C3,Ff,E1,FO,sN _ _ _ m.hx]) (CP hc m.hx) m.hy ?_ ?_ λp hp q hq =>?_
 ·refine List.Perm.trans ?_ (EO _ (List.Perm.of_eq (sO a.toList hc).symm))
  rw[Cy,Cy]
  exact D5 _ Ew
 ·exact ha.sublist ((DC _ _).trans (DB _ _))
 ·obtain ⟨j,h1,h2,e⟩:=j8 hq
  rcases B0.mp hp with r | r
  ·obtain ⟨i,hi,e2⟩:=bz r
   exact aL ha e2 e (by lia)
  ·exact hb j q h1 h2 e p r
theorem MV.vZ {a b o:Array Cn}{x y c:Nat}(m:MV key a b o x y)(hc:c<=y)(hb:b.toList.Pairwise (Le key))(ha:∀j p,c<=j->j<y->b.toList[j]? = some p->∀t∈a.toList.take x,Le key t p):MV key a b (o++(b.extract c y).reverse) x c:=by
 refine m.take (t:=(b.toList.take y).drop c) (by rw[C3,Ff,E1,FO,sN _ _ _ m.hy]) m.hx (CP hc m.hy) ?_ ?_ λp hp q hq =>?_
 ·rw[Cy, <- sO b.toList hc]
 ·exact hb.sublist ((DC _ _).trans (DB _ _))
 ·obtain ⟨j,h1,h2,e⟩:=j8 hq
  rcases B0.mp hp with r | r
  ·exact ha j q h1 h2 e p r
  ·obtain ⟨i,hi,e2⟩:=bz r
   exact aL hb e2 e (by lia)
theorem MV.uB {a b o:Array Cn}{x y:Nat}(m:MV key a b o x y)(hb:b.toList.Pairwise (Le key))(hx:x=0):d7 key a b (a.extract 0 x++b.extract 0 y++o.reverse):=by
 subst hx
 refine m.fin (t:=b.toList.take y) (by rw[C3,C3,gr,gr,E1,GI,Gm]) (by rw[GI,Gm]) (hb.sublist (DB _ _))
theorem MV.uA {a b o:Array Cn}{x y:Nat}(m:MV key a b o x y)(ha:a.toList.Pairwise (Le key))(hy:y=0):d7 key a b (a.extract 0 x++b.extract 0 y++o.reverse):=by
 subst hy
 refine m.fin (t:=a.toList.take x) (by rw[C3,C3,gr,gr,E1,GI,CK]) (by rw[GI,CK]) (ha.sublist (DB _ _))
theorem MV.first {a b o:Array Cn}{x y:Nat}(m:MV key a b o x y)(ha:a.toList.Pairwise (Le key))(hb:b.toList.Pairwise (Le key))(hy:y=1)(hl:∀p q,b[0]? = some p->q∈a.toList->Le key p q):d7 key a b (b.extract 0 y++a.extract 0 x++o.reverse):=by
 refine m.fin (t:=b.toList.take y++a.toList.take x) (by rw[C3,C3,gr,gr,E1]) Ew ?_
 refine Dx.mpr ⟨hb.sublist (DB _ _),ha.sublist (DB _ _),λp hp q hq=>hl p q ?_ (Ef hq)⟩
 obtain ⟨i,hi,e⟩:=bz hp
 rw[B3] at e
 rw[show i=0 by lia] at e
 exact e
theorem MV.size {a b o:Array Cn}{x y:Nat}(m:MV key a b o x y):o.size+x+y=a.size+b.size:=by
 have e:=m.perm.length_eq
 have h1:=m.hx
 have h2:=m.hy
 simp only[BR,Di,BW,DJ] at e
 lia
end
open PySem PyProof.Rows
section
variable  {prog:Ca}{w:CJ}{A:Dd}{E:BM->BQ->Prop}{s:BQ}{O:G9}{key:Cn->O.α}{U:Cn->Prop}{κ:SortKind}
abbrev HiC:=Option (Array Cn)×Nat×Nat×Array Cn×Nat×Nat×Nat
def yh (a b:Array Cn)(x y:Nat)(o:Array Cn)(mg ac bc:Nat):StateT CM Sem (ForInStep HiC):=do
  let z ← elem' a (x-1)
  if (x-1 == 0)=true then pure (.done (some (a.extract 0 (x-1)++b.extract 0 y++(o.push z).reverse),x-1,y,o.push z,mg,ac,bc))
  else if (decide (ac<7) && decide (bc<7))=true then pure (.done (none,x-1,y,o.push z,mg,ac,bc))
  else pure (.yield (none,x-1,y,o.push z,mg,ac,bc))
def yi (a b:Array Cn)(x y:Nat)(o:Array Cn)(mg ac bc:Nat):StateT CM Sem (ForInStep HiC):=do
  let z ← elem' b (y-1)
  if (y-1 == 1)=true then pure (.done (some (b.extract 0 (y-1)++a.extract 0 x++(o.push z).reverse),x,y-1,o.push z,mg,ac,bc))
  else do
    let z2 ← elem' a (x-1)
    let __x ← gal true z2 b 0 (y-1) (y-1-1)
    match __x with
    | some c =>
      if y-1-c>0 then
        if (c == 1)=true then pure (.done (some (b.extract 0 c++a.extract 0 x++(o.push z++(b.extract c (y-1)).reverse).reverse),x,c,o.push z++(b.extract c (y-1)).reverse,mg,ac,y-1-c))
        else if (c == 0)=true then pure (.done (some (a.extract 0 x++b.extract 0 c++(o.push z++(b.extract c (y-1)).reverse).reverse),x,c,o.push z++(b.extract c (y-1)).reverse,mg,ac,y-1-c))
        else yh a b x c (o.push z++(b.extract c (y-1)).reverse) mg ac (y-1-c)
      else yh a b x (y-1) (o.push z) mg ac (y-1-c)
    | _=>pure (.done (some (a.extract 0 x++b.extract 0 (y-1)++(o.push z).reverse),x,y-1,o.push z,mg,ac,bc))
def uE (a b:Array Cn)(x y:Nat)(p:Array Cn)(ac bc mg:Nat):StateT CM Sem (ForInStep HiC):=do
  modify (λs=>SortSt.mk' (kindOf s) (Cq s) (CF s) mg (failedOf s))
  let z ← elem' b (y-1)
  let __x ← gal false z a 0 x (x-1)
  match __x with
  | some c =>
    if x-c>0 then
      if (c == 0)=true then pure (.done (some (a.extract 0 c++b.extract 0 y++(p++(a.extract c x).reverse).reverse),c,y,p++(a.extract c x).reverse,mg,x-c,bc))
      else yi a b c y (p++(a.extract c x).reverse) mg (x-c) bc
    else yi a b x y p mg (x-c) bc
  | _=>pure (.done (some (a.extract 0 x++b.extract 0 y++p.reverse),x,y,p,mg,ac,bc))
def HiQ (key:Cn->O.α)(a b:Array Cn)(st:CM)(n:Nat)(r:ForInStep HiC)(st':CM):Prop:=match r with
 | .done c=>Sm st st'/\((∃r x y p mg ac bc,c=(some r,x,y,p,mg,ac,bc)/\d7 key a b r)\/∃x y p mg ac bc,c=(none,x,y,p,mg,ac,bc)/\MV key a b p x y/\1<=x/\2<=y/\n<=p.size)
 | .yield c=>Sm st st'/\∃x y p mg ac bc,c=(none,x,y,p,mg,ac,bc)/\MV key a b p x y/\1<=x/\2<=y/\n<=p.size
theorem HiQ.out {a b:Array Cn}{st st':CM}{n:Nat}{r:Array Cn}{c:Nat×Nat×Array Cn×Nat×Nat×Nat}(sm:Sm st st')(f:d7 key a b r):HiQ key a b st n (.done (some r,c)) st':=by
 obtain ⟨p,x,y,mg,ac,bc⟩:=c
 exact ⟨sm,.inl ⟨_,_,_,_,_,_,_,rfl,f⟩⟩
theorem v7 {x:Nat}(c:¬ (x == 0)=true):1<=x:=Nat.pos_of_ne_zero λz=>c (beq_iff_eq.mpr z)
theorem yj {y:Nat}(h:1<=y)(c:¬ (y == 1)=true):2<=y:=Jp h λz=>c (beq_iff_eq.mpr z.symm)
theorem sP {a b:Array Cn}{st st':CM}(hb:b.toList.Pairwise (Le key))
  {o:Array Cn} {x y mg ac bc n:Nat} {za:Cn} (sm:Sm st st') (ea:a[x-1]? = some za) (m4:MV key a b (o.push za) (x-1) y) (hy:2<=y) (hn:n<=o.size):wpS (Cs prog w) A E s (yh a b x y o mg ac bc) (HiQ key a b st n) st':=by
 unfold yh
 refine Cc (bj ea ?_)
 by_cases d5:(x-1 == 0)=true
 ·rw[if_pos d5]
  exact Co (HiQ.out sm (m4.uB hb (beq_iff_eq.mp d5)))
 rw[if_neg d5]
 have hx2:=v7 d5
 have hn':n<=(o.push za).size:=by rw[E3];exact FD hn
 split
 ·exact Co ⟨sm,.inr ⟨_,_,_,_,_,_,rfl,m4,hx2,hy,hn'⟩⟩
 ·exact Co ⟨sm,_,_,_,_,_,_,rfl,m4,hx2,hy,hn'⟩
theorem sQ (C:Cmp prog w A s O key U κ){a b:Array Cn}{st st':CM}(hκ:kindOf st=κ)(ua:∀p∈a.toList,U p)(ub:∀p∈b.toList,U p)
  (ha:a.toList.Pairwise (Le key)) (hb:b.toList.Pairwise (Le key)) (h0:∀p q,b[0]? = some p->q∈a.toList->Le key p q)
  {o:Array Cn} {x y mg ac bc n:Nat} {zb:Cn} (sm:Sm st st') (eb:b[y-1]? = some zb) (mk:MV key a b o x y) (bl:∀t∈a.toList.take x,Le key t zb) (hx1:1<=x) (hy:2<=y) (hn:n<=o.size):wpS (Cs prog w) A E s (yi a b x y o mg ac bc) (HiQ key a b st n) st':=by
 unfold yi
 refine Cc (bj eb ?_)
 have m2:=mk.mv (JM hy) eb hb bl
 have y1:1<=y-1:=EE hy
 have bx1:=mk.hx
 have by1:=mk.hy
 by_cases d3:(y-1 == 1)=true
 ·rw[if_pos d3]
  exact Co (HiQ.out sm (m2.first ha hb (beq_iff_eq.mp d3) h0))
 rw[if_neg d3]
 have hy1:=yj y1 d3
 obtain ⟨za,ea⟩:=bq (show x-1<a.size by lia)
 refine Cc (bj ea ?_)
 refine Cc (Ad C (λi=>(b[i]?).getD za) (sm.k.trans hκ) (ua _ (b8 ea)) (λi hi =>?_) (λi hi =>?_) (λi j hij hj =>?_) (G1 y1) λc2 hc2 g1 g2 =>?_)
 ·obtain ⟨z,e⟩:=bq (show i<b.size by lia)
  rw[Fb,e];rfl
 ·obtain ⟨z,e⟩:=bq (show i<b.size by lia)
  rw[e];exact ub _ (b8 e)
 ·obtain ⟨z,e⟩:=bq (show i<b.size by lia)
  obtain ⟨z',e'⟩:=bq (show j<b.size by lia)
  rw[e,e'];exact aL hb (aI e) (aI e') hij
 dsimp only at g1 g2 ⊢
 have tb:∀j q,c2<=j->j<y-1->b.toList[j]? = some q->∀t∈a.toList.take x,Le key t q:=λj q hj hj2 e t ht=>by
  have z:=g2 j hj hj2
  rw[B3] at e
  rw[e] at z
  obtain ⟨n,hn,e2⟩:=bz ht
  exact C2 (aL ha e2 (aI ea) (EE hn)) z
 have m3:=m2.vZ hc2 hb tb
 have bl2:∀t∈b.toList.take c2,Le key t za:=λt ht=>by
  obtain ⟨n,hn,e2⟩:=bz ht
  rw[B3] at e2
  have z:=g1 n hn
  rw[e2] at z
  exact DK z
 have hn1:n<=(o.push zb).size:=by rw[E3];exact FD hn
 by_cases k2:y-1-c2>0
 ·rw[if_pos k2]
  by_cases d4:(c2 == 1)=true
  ·rw[if_pos d4]
   exact Co (HiQ.out sm (m3.first ha hb (beq_iff_eq.mp d4) h0))
  rw[if_neg d4]
  by_cases d6:(c2 == 0)=true
  ·rw[if_pos d6]
   exact Co (HiQ.out sm (m3.uA ha (beq_iff_eq.mp d6)))
  rw[if_neg d6]
  exact sP hb sm ea (m3.ji hx1 ea ha bl2) (yj (v7 d6) d4) (CP hn1 (by rw[FE];exact EC _ _))
 ·rw[if_neg k2]
  have ec2:c2=y-1:=Fw hc2 (Iv (Fq k2))
  rw[ec2] at bl2
  exact sP hb sm ea (m2.ji hx1 ea ha bl2) hy1 hn1
theorem sR (C:Cmp prog w A s O key U κ){a b:Array Cn}{st st':CM}(hκ:kindOf st=κ)(ua:∀p∈a.toList,U p)(ub:∀p∈b.toList,U p)
  (ha:a.toList.Pairwise (Le key)) (hb:b.toList.Pairwise (Le key)) (h0:∀p q,b[0]? = some p->q∈a.toList->Le key p q)
  {p:Array Cn} {x y ac bc n:Nat} (mg:Nat) (sm:Sm st st') (m:MV key a b p x y) (hx:1<=x) (hy:2<=y) (hn:n<=p.size):wpS (Cs prog w) A E s (uE a b x y p ac bc mg) (HiQ key a b st n) st':=by
 unfold uE
 have bx:=m.hx
 have by':=m.hy
 obtain ⟨zb,eb⟩:=bq (show y-1<b.size by lia)
 refine Cc (EJ ?_)
 refine Cc (bj eb ?_)
 refine Cc (Ac C (λi=>(a[i]?).getD zb) ((sm.mg _).k.trans hκ) (ub _ (b8 eb)) (λi hi =>?_) (λi hi =>?_) (λi j hij hj =>?_) (G1 hx) λc hc h1 h2 =>?_)
 ·obtain ⟨z,e⟩:=bq (Cj hi bx)
  rw[Fb,e];rfl
 ·obtain ⟨z,e⟩:=bq (Cj hi bx)
  rw[e];exact ua _ (b8 e)
 ·obtain ⟨z,e⟩:=bq (show i<a.size by lia)
  obtain ⟨z',e'⟩:=bq (show j<a.size by lia)
  rw[e,e'];exact aL ha (aI e) (aI e') hij
 dsimp only at h1 h2 ⊢
 have ta:∀j q,c<=j->j<x->a.toList[j]? = some q->∀t∈b.toList.take y,Le key t q:=λj q hj hj2 e t ht=>by
  have z:=h2 j hj hj2
  rw[B3] at e
  rw[e] at z
  obtain ⟨n,hn,e2⟩:=bz ht
  exact C2 (aL hb e2 (aI eb) (EE hn)) (DK z)
 have mk:=m.vY hc ha ta
 have bl:∀t∈a.toList.take c,Le key t zb:=λt ht=>by
  obtain ⟨n,hn,e2⟩:=bz ht
  rw[B3] at e2
  have z:=h1 n hn
  rw[e2] at z
  exact z
 by_cases k0:x-c>0
 ·rw[if_pos k0]
  by_cases d1:(c == 0)=true
  ·rw[if_pos d1]
   exact Co (HiQ.out (sm.mg _) (mk.uB hb (beq_iff_eq.mp d1)))
  rw[if_neg d1]
  exact sQ C hκ ua ub ha hb h0 (sm.mg _) eb mk bl (v7 d1) hy (CP hn (by rw[FE];exact EC _ _))
 ·rw[if_neg k0]
  have ec:c=x:=Fw hc (Iv (Fq k0))
  rw[ec] at bl
  exact sQ C hκ ua ub ha hb h0 (sm.mg _) eb m bl hx hy hn
theorem yk (C:Cmp prog w A s O key U κ){a b:Array Cn}{st st':CM}(hκ:kindOf st=κ)(ua:∀p∈a.toList,U p)(ub:∀p∈b.toList,U p)
  (ha:a.toList.Pairwise (Le key)) (hb:b.toList.Pairwise (Le key)) (h0:∀p q,b[0]? = some p->q∈a.toList->Le key p q)
  {p:Array Cn} {x y ac bc n mg:Nat} (sm:Sm st st') (m:MV key a b p x y) (hx:1<=x) (hy:2<=y) (hn:n<=p.size):wpS (Cs prog w) A E s (if mg>1 then uE a b x y p ac bc (mg-1) else uE a b x y p ac bc mg) (HiQ key a b st n) st':=by
 split
 ·exact sR C hκ ua ub ha hb h0 (mg-1) sm m hx hy hn
 ·exact sR C hκ ua ub ha hb h0 mg sm m hx hy hn
abbrev HiD:=Option (Array Cn)×Nat×Nat×Array Cn×Nat×Nat
abbrev HiE:=Option (Array Cn)×Nat×Nat×Array Cn×Nat
def v8 (a b:Array Cn)(mg:Nat)(c:HiD):StateT CM Sem (ForInStep HiD):=do
  let u ← elem' b (c.2.2.1-1)
  let v ← elem' a (c.2.1-1)
  let __x ← lt' u v
  match __x with
  | some aw =>
    if aw=true then do
      let z ← elem' a (c.2.1-1)
      if (c.2.1-1 == 0)=true then pure (.done (some (a.extract 0 (c.2.1-1)++b.extract 0 c.2.2.1++(c.2.2.2.1.push z).reverse),c.2.1-1,c.2.2.1,c.2.2.2.1.push z,c.2.2.2.2.1+1,0))
      else if c.2.2.2.2.1+1≥mg then pure (.done (none,c.2.1-1,c.2.2.1,c.2.2.2.1.push z,c.2.2.2.2.1+1,0))
      else pure (.yield (none,c.2.1-1,c.2.2.1,c.2.2.2.1.push z,c.2.2.2.2.1+1,0))
    else do
      let z ← elem' b (c.2.2.1-1)
      if (c.2.2.1-1 == 1)=true then pure (.done (some (b.extract 0 (c.2.2.1-1)++a.extract 0 c.2.1++(c.2.2.2.1.push z).reverse),c.2.1,c.2.2.1-1,c.2.2.2.1.push z,0,c.2.2.2.2.2+1))
      else if c.2.2.2.2.2+1≥mg then pure (.done (none,c.2.1,c.2.2.1-1,c.2.2.2.1.push z,0,c.2.2.2.2.2+1))
      else pure (.yield (none,c.2.1,c.2.2.1-1,c.2.2.2.1.push z,0,c.2.2.2.2.2+1))
  | _=>pure (.done (some (a.extract 0 c.2.1++b.extract 0 c.2.2.1++c.2.2.2.1.reverse),c.2.1,c.2.2.1,c.2.2.2.1,c.2.2.2.2.1,c.2.2.2.2.2))
def Ag (a b:Array Cn)(c:HiC):StateT CM Sem (ForInStep HiC) :=
 if c.2.2.2.2.1>1 then uE a b c.2.1 c.2.2.1 c.2.2.2.1 c.2.2.2.2.2.1 c.2.2.2.2.2.2 (c.2.2.2.2.1-1) else uE a b c.2.1 c.2.2.1 c.2.2.2.1 c.2.2.2.2.2.1 c.2.2.2.2.2.2 c.2.2.2.2.1
def rh (a b:Array Cn)(c:HiE):StateT CM Sem (ForInStep HiE):=do
  let d ← forIn [0:a.size+b.size] ((none,c.2.1,c.2.2.1,c.2.2.2.1,0,0):HiD) λ_ d=>v8 a b c.2.2.2.2 d
  match d.1 with
  | some r=>pure (.done (some r,d.2.1,d.2.2.1,d.2.2.2.1,c.2.2.2.2))
  | none=>do
    rule "list.sort.gallop"
    let e ← forIn [0:a.size+b.size] ((none,d.2.1,d.2.2.1,d.2.2.2.1,c.2.2.2.2+1,d.2.2.2.2.1,d.2.2.2.2.2):HiC) λ_ e=>Ag a b e
    match e.1 with
    | some r=>pure (.done (some r,e.2.1,e.2.2.1,e.2.2.2.1,e.2.2.2.2.1))
    | none=>do
      modify (λs=>SortSt.mk' (kindOf s) (Cq s) (CF s) (e.2.2.2.2.1+1) (failedOf s))
      pure (.yield (none,e.2.1,e.2.2.1,e.2.2.2.1,e.2.2.2.2.1+1))
theorem yo (a b:Array Cn):mHi a b=(do
    rule "list.sort.merge-hi"
    let z ← elem' a (a.size-1)
    if (a.size-1 == 0)=true then pure (a.extract 0 (a.size-1)++b.extract 0 b.size++(#[z]:Array Cn).reverse)
    else if (b.size == 1)=true then pure (b.extract 0 b.size++a.extract 0 (a.size-1)++(#[z]:Array Cn).reverse)
    else do
      let g ← get
      let c ← forIn [0:a.size+b.size] ((none,a.size-1,b.size, #[z],gallopOf g):HiE) λ_ c=>rh a b c
      match c.1 with
      | some r=>pure r
      | none=>unsupported "internal:list.sort.merge-bound"):=by
  kernel_rfl
def HdI (key:Cn->O.α)(a b:Array Cn)(st:CM)(n:Nat)(c:HiD)(st':CM):Prop:=Sm st st'/\∃x y o' ac bc,c=(none,x,y,o',ac,bc)/\MV key a b o' x y/\1<=x/\2<=y/\n<=o'.size
def HdQ (key:Cn->O.α)(a b:Array Cn)(st:CM)(n:Nat)(c:HiD)(st':CM):Prop:=Sm st st'/\((∃r x y o ac bc,c=(some r,x,y,o,ac,bc)/\d7 key a b r)\/∃x y o' ac bc,c=(none,x,y,o',ac,bc)/\MV key a b o' x y/\1<=x/\2<=y/\n<=o'.size)
theorem v9 (C:Cmp prog w A s O key U κ){a b:Array Cn}{st st':CM}(hκ:kindOf st=κ)(ua:∀p∈a.toList,U p)(ub:∀p∈b.toList,U p)
  (ha:a.toList.Pairwise (Le key)) (hb:b.toList.Pairwise (Le key)) (h0:∀p q,b[0]? = some p->q∈a.toList->Le key p q)
  {mg n m':Nat} {c:HiD} (I:HdI key a b st n c st') (hm:m'<=n+1) {Q:ForInStep HiD->CM->Prop} (h:∀r st',(match r with | .done c'=>HdQ key a b st (n+1) c' st' | .yield c'=>HdI key a b st m' c' st')->Q r st'):wpS (Cs prog w) A E s (v8 a b mg c) Q st':=by
 obtain ⟨sm2,x,y,o',ac,bc,rfl,m,hx,hy,hz⟩:=I
 unfold v8
 have bx:=m.hx
 have by':=m.hy
 obtain ⟨za,ea⟩:=bq (show x-1<a.size by omega)
 obtain ⟨zb,eb⟩:=bq (show y-1<b.size by omega)
 refine Cc (bj eb (Cc (bj ea (Cc (C.lt _ st' zb za _ (sm2.k.trans hκ) (ub _ (b8 eb)) (ua _ (b8 ea)) ?_)))))
 dsimp only
 have sz:∀z,n+1<=(o'.push z).size:=λz=>by rw[E3];exact HZ hz
 cases hlt:O.blt (key zb) (key za) with
 | true =>
  rw[if_pos rfl]
  refine Cc (bj ea ?_)
  have m1:=m.ji hx ea ha λt ht=>by
   obtain ⟨n,hn,e⟩:=bz ht
   exact C2 (aL hb e (aI eb) (EE hn)) (DK hlt)
  by_cases c3:(x-1 == 0)=true
  ·rw[if_pos c3]
   exact Co (h _ _ ⟨sm2,.inl ⟨_,_,_,_,_,_,rfl,m1.uB hb (beq_iff_eq.mp c3)⟩⟩)
  ·rw[if_neg c3]
   have c3':=v7 c3
   split
   ·exact Co (h _ _ ⟨sm2,.inr ⟨_,_,_,_,_,rfl,m1,c3',hy,sz _⟩⟩)
   ·exact Co (h _ _ ⟨sm2,_,_,_,_,_,rfl,m1,c3',hy,CP hm (sz _)⟩)
 | false =>
  rw[if_neg B6]
  refine Cc (bj eb ?_)
  have m1:=m.mv (JM hy) eb hb λt ht=>by
   obtain ⟨n,hn,e⟩:=bz ht
   exact C2 (aL ha e (aI ea) (EE hn)) (show O.kle (key za) (key zb) from hlt)
  by_cases c3:(y-1 == 1)=true
  ·rw[if_pos c3]
   exact Co (h _ _ ⟨sm2,.inl ⟨_,_,_,_,_,_,rfl,m1.first ha hb (beq_iff_eq.mp c3) h0⟩⟩)
  ·rw[if_neg c3]
   have c3':=yj (EE hy) c3
   split
   ·exact Co (h _ _ ⟨sm2,.inr ⟨_,_,_,_,_,rfl,m1,hx,c3',sz _⟩⟩)
   ·exact Co (h _ _ ⟨sm2,_,_,_,_,_,rfl,m1,hx,c3',CP hm (sz _)⟩)
def HeI (key:Cn->O.α)(a b:Array Cn)(st:CM)(n:Nat)(c:HiE)(st':CM):Prop:=Sm st st'/\∃x y o mg,c=(none,x,y,o,mg)/\MV key a b o x y/\1<=x/\2<=y/\n+1<=o.size
def HeQ (key:Cn->O.α)(a b:Array Cn)(st:CM)(c:HiE)(st':CM):Prop:=Sm st st'/\((∃r x y o mg,c=(some r,x,y,o,mg)/\d7 key a b r)\/∃x y o mg,c=(none,x,y,o,mg)/\MV key a b o x y/\1<=x/\2<=y/\a.size+b.size+1<=o.size)
theorem uF (C:Cmp prog w A s O key U κ){a b:Array Cn}{st st':CM}(hκ:kindOf st=κ)(ua:∀p∈a.toList,U p)(ub:∀p∈b.toList,U p)
  (ha:a.toList.Pairwise (Le key)) (hb:b.toList.Pairwise (Le key)) (h0:∀p q,b[0]? = some p->q∈a.toList->Le key p q) (na:0<a.size)
  {n:Nat} {c:HiE} (I:HeI key a b st n c st'):wpS (Cs prog w) A E s (rh a b c) (λr st'=>match r with | .done c'=>HeQ key a b st c' st' | .yield c'=>HeI key a b st (n+1) c' st') st':=by
 obtain ⟨sm1,x,y,o,mg,rfl,m,hx,hy,hz⟩:=I
 unfold rh
 have q1:1<=a.size+b.size:=CP na (EC _ _)
 refine Cc (Et (DH (I:=λj c st'=>HdI key a b st (o.size+min j 1) c st') (Q:=HdQ key a b st (o.size+1)) (λj c st2 _ hj J=>v9 (n:=o.size+min j 1) (m':=o.size+min (j+1) 1) C hκ ua ub ha hb h0 J (by lia) λr st' k =>?_) (λc st' J =>?_) ⟨sm1,x,y,o,0,0,rfl,m,hx,hy,BS _⟩) ?_)
 ·cases r with
  | done c'=>exact k.imp id λz=>z.imp id λ⟨x,y,o',ac,bc,e,m,hx,hy,hz⟩=>⟨x,y,o',ac,bc,e,m,hx,hy,by lia⟩
  | yield c'=>exact k
 ·obtain ⟨sm,x,y,o',ac,bc,e,m,hx,hy,hz⟩:=J
  exact ⟨sm,.inr ⟨x,y,o',ac,bc,e,m,hx,hy,by lia⟩⟩
 rintro c st2 ⟨sm2,⟨r,x,y,o',ac,bc,rfl,fr⟩ | ⟨x,y,o',ac,bc,rfl,m,hx,hy,hz2⟩⟩
 ·exact Co ⟨sm2,.inl ⟨_,_,_,_,_,rfl,fr⟩⟩
 dsimp only
 refine Cc (HW (EB ⟨rfl,?_⟩))
 refine Cc (Et (DH (I:=λ_ c st'=>HiQ key a b st o'.size (.yield c) st') (Q:=λc st'=>HiQ key a b st o'.size (.done c) st') (λj c st3 _ hj J =>?_) (λc st' J=>⟨J.1,.inr J.2⟩) ⟨sm2,x,y,o',_,ac,bc,rfl,m,hx,hy,BS _⟩) ?_)
 ·obtain ⟨sm3,x,y,p,mg,ac,bc,rfl,m,hx,hy,hz3⟩:=J
  refine Et (yk C hκ ua ub ha hb h0 sm3 m hx hy hz3) ?_
  intro r st' h
  cases r <;> exact h
 rintro c st3 ⟨sm3,⟨r,x,y,p,mg,ac,bc,rfl,fr⟩ | ⟨x,y,p,mg,ac,bc,rfl,m,hx,hy,hz3⟩⟩
 ·exact Co ⟨sm3,.inl ⟨_,_,_,_,_,rfl,fr⟩⟩
 ·dsimp only
  exact Cc (EJ (Co ⟨sm3.mg _,x,y,p,_,rfl,m,hx,hy,by lia⟩))
theorem Ah (C:Cmp prog w A s O key U κ){a b:Array Cn}{st:CM}{Q:Array Cn->CM->Prop}(hκ:kindOf st=κ)(ua:∀p∈a.toList,U p)(ub:∀p∈b.toList,U p)
  (ha:a.toList.Pairwise (Le key)) (hb:b.toList.Pairwise (Le key)) (na:0<a.size) (nb:0<b.size) (h0:∀p q,b[0]? = some p->q∈a.toList->Le key p q) (hl:∀p q,p∈b.toList->a[a.size-1]? = some q->Le key p q)
  (h:∀r st',Sm st st'->d7 key a b r->Q r st'):wpS (Cs prog w) A E s (mHi a b) Q st:=by
 rw[yo]
 refine Cc (HW (EB ⟨rfl,?_⟩))
 obtain ⟨a0,ea0⟩:=bq (G1 na)
 have m0:MV key a b #[] a.size b.size:=by
  refine ⟨BS _,BS _,?_,List.Pairwise.nil,λp _ q hq=>by cases hq⟩
  rw[B9 (by rw[BW];exact BS _),B9 (by rw[BW];exact BS _)]
  show (a.toList++b.toList++[]).Perm _
  rw[CK]
 have m1:MV key a b #[a0] (a.size-1) b.size:=m0.ji na ea0 ha λt ht=>hl t a0 (Ef ht) ea0
 refine Cc (bj ea0 ?_)
 by_cases c1:(a.size-1 == 0)=true
 ·rw[if_pos c1]
  exact Co (h _ st (Sm.refl st) (m1.uB hb (beq_iff_eq.mp c1)))
 rw[if_neg c1]
 by_cases c2:(b.size == 1)=true
 ·rw[if_pos c2]
  exact Co (h _ st (Sm.refl st) (m1.first ha hb (beq_iff_eq.mp c2) h0))
 rw[if_neg c2]
 refine Cc (Hx ?_)
 refine Cc (Et (DH (I:=λi c st'=>HeI key a b st i c st') (Q:=HeQ key a b st) (λi c st1 _ _ J=>Et (uF C hκ ua ub ha hb h0 na J) λr st' h=>by cases r <;> exact h) (λc st' J =>?_) ⟨Sm.refl st,_,_,_,_,rfl,m1,v7 c1,yj nb c2,BS _⟩) ?_)
 ·obtain ⟨sm,x,y,o,mg,e,m,hx,hy,hz⟩:=J
  exact ⟨sm,.inr ⟨x,y,o,mg,e,m,hx,hy,by lia⟩⟩
 rintro c st' ⟨sm,⟨r,x,y,o,mg,rfl,fr⟩ | ⟨x,y,o,mg,rfl,m,hx,hy,hz⟩⟩
 ·exact Co (h r st' sm fr)
 ·have:=m.size
  lia
end
open PySem PyProof.Rows
theorem Ai (i:Nat):mAt i=(do
    let s ← get
    let (some (sa,na,pw),some (sb,nb,_)):=((CF s)[i]?,(CF s)[i+1]?) | unsupported "internal:list.sort.pending"
    set (SortSt.mk' (kindOf s) (Cq s) (((CF s).setIfInBounds i (sa,na+nb,pw)).eraseIdxIfInBounds (i+1)) (gallopOf s) (failedOf s))
    let some k ← gal false (← elem' (Cq s) sb) (Cq s) sa na 0 | return false
    let (sa,na):=(sa+k,na-k)
    if na == 0 then return true
    let some nb ← gal true (← elem' (Cq s) (sa+na-1)) (Cq s) sb nb (nb-1) | return false
    if nb == 0 then return true
    let x:=(Cq s).extract sa sb
    let y:=(Cq s).extract sb (sb+nb)
    let mm ← if na<=nb then mLo x y else mHi x y
    modify λs=>setArr s (mm.toList.zipIdx.foldl (λa (p,j)=>a.setIfInBounds (sa+j) p) (Cq s))
    return (failedOf (← get)).isNone):=rfl
theorem ik {α:Type}(p r:List α)(k:Nat):(p++r).drop (p.length+k)=r.drop k:=by
 rw[<- KD,Hv]
theorem ri {α:Type}(p r:List α)(k:Nat):(p++r)[p.length+k]? = r[k]? := by
 rw[C6 (by lia),Fe]
theorem zq {α:Type}(p a r:List α){k:Nat}(h:k<a.length):(p++(a++r))[p.length+k]? = a[k]? := by
 rw[ri,CB h]
theorem written (l:List Cn):∀(c n:Nat) (a:Array Cn),c+n+l.length<=a.size->((l.zipIdx n).foldl (λ(a:Array Cn) (pj:Cn×Nat)=>a.setIfInBounds (c+pj.2) pj.1) a).toList=a.toList.take (c+n)++l++a.toList.drop (c+n+l.length):=by
 induction l with
 | nil=>intro c n a _;simp
 | cons z l ih =>
  intro c n a h
  rw[Ct] at h
  rw[List.zipIdx_cons,Ir,ih c (n+1) _ (by rw[HA];lia)]
  have e:(a.setIfInBounds (c+n) z).toList=a.toList.set (c+n) z:=Hj ..
  rw[e]
  have lt:c+n<a.toList.length:=by rw[BW];lia
  have t1:(a.toList.set (c+n) z).take (c+(n+1))=a.toList.take (c+n)++[z]:=by
   rw[show c+(n+1)=c+n+1 by lia,Dp,List.take_set_of_le (BS _),DY lt]
   rfl
  have t2:(a.toList.set (c+n) z).drop (c+(n+1)+l.length)=a.toList.drop (c+n+(l.length+1)):=by
   rw[List.drop_set_of_lt (by lia),show c+(n+1)+l.length=c+n+(l.length+1) by lia]
  rw[t1,t2,Ct]
  simp
section
variable  {prog:Ca}{w:CJ}{A:Dd}{E:BM->BQ->Prop}{s:BQ}{O:G9}{key:Cn->O.α}{U:Cn->Prop}{κ:SortKind}
theorem Aj (C:Cmp prog w A s O key U κ){i pw pw2:Nat}{st:CM}{Q:Bool->CM->Prop}{P X Y S:List Cn}(hκ:kindOf st=κ)(hf:failedOf st=none)
    (ha:(Cq st).toList=P++(X++(Y++S))) (hu:∀p∈(Cq st).toList,U p) (h1:(CF st)[i]? = some (P.length,X.length,pw)) (h2:(CF st)[i+1]? = some (P.length+X.length,Y.length,pw2))
    (nx:0<X.length) (ny:0<Y.length) (sx:X.Pairwise (Le key)) (sy:Y.Pairwise (Le key))
    (h:∀st' M,M.Perm (X++Y)->M.Pairwise (Le key)->(Cq st').toList=P++(M++S)->CF st'=((CF st).setIfInBounds i (P.length,X.length+Y.length,pw)).eraseIdxIfInBounds (i+1)->kindOf st'=κ -> failedOf st'=none->Q true st') :
    wpS (Cs prog w) A E s (mAt i) Q st:=by
  rw[Ai]
  refine Cc (Hx ?_)
  rw[h1,h2]
  dsimp only
  refine Cc (show wpS (Cs prog w) A E s (modify λ_=>SortSt.mk' (kindOf st) (Cq st) (((CF st).setIfInBounds i (P.length,X.length+Y.length,pw)).eraseIdxIfInBounds (i+1)) (gallopOf st) (failedOf st)) _ st from EJ ?_)
  generalize hst1:SortSt.mk' (kindOf st) (Cq st) (((CF st).setIfInBounds i (P.length,X.length+Y.length,pw)).eraseIdxIfInBounds (i+1)) (gallopOf st) (failedOf st)=st1
  have k1:kindOf st1=κ:=by rw[<- hst1];exact hκ
  have a1:Cq st1=Cq st:=by rw[<- hst1]
  have p1:CF st1=((CF st).setIfInBounds i (P.length,X.length+Y.length,pw)).eraseIdxIfInBounds (i+1):=by rw[<- hst1]
  have f1:failedOf st1=none:=by rw[<- hst1];exact hf
  have sz:(Cq st).size=P.length+X.length+Y.length+S.length:=by
    rw[<- BW,ha];simp only[BR];lia
  have atX:∀j,j<X.length->(Cq st)[P.length+j]? = X[j]? := λj hj=>by
    rw[<- B3,ha,zq _ _ _ hj]
  have atY:∀j,j<Y.length->(Cq st)[P.length+X.length+j]? = Y[j]? := λj hj=>by
    rw[<- B3,ha, <- Cy,show P.length+X.length+j=(P++X).length+j by rw[BR],zq _ _ _ hj]
  have uX:∀p∈X,U p:=λp hp=>hu p (by rw[ha];simp[hp])
  have uY:∀p∈Y,U p:=λp hp=>hu p (by rw[ha];simp[hp])
  have xget:∀j,j<X.length->∃z,X[j]? = some z:=λj hj=>⟨X[j],by simp[hj]⟩
  have yget:∀j,j<Y.length->∃z,Y[j]? = some z:=λj hj=>⟨Y[j],by simp[hj]⟩
  obtain ⟨y0,ey0⟩:=yget 0 ny
  have plain:(∀p∈X,∀q∈Y,Le key p q)->Q true st1:=λhle=>h st1 (X++Y) (FR _) (Dx.mpr ⟨sx,sy,hle⟩) (by rw[a1,ha,Cy]) p1 k1 f1
  refine Cc (bj (z:=y0) (by rw[show P.length+X.length=P.length+X.length+0 by lia,atY 0 ny];exact ey0) ?_)
  refine Cc (Ac C (λj=>(X[j]?).getD y0) k1 (uY _ (BV ey0)) (λj hj =>?_) (λj hj =>?_) (λi j hij hj =>?_) nx λk hk g1 g2 =>?_)
  · obtain ⟨z,e⟩:=xget j hj
    rw[atX j hj,e];rfl
  · obtain ⟨z,e⟩:=xget j hj
    rw[e];exact uX _ (BV e)
  · obtain ⟨z,e⟩:=xget i (by lia)
    obtain ⟨z',e'⟩:=xget j hj
    rw[e,e'];exact aL sx e e' hij
  dsimp only at g1 g2 ⊢
  have y0le:∀q∈Y,Le key y0 q:=λq hq=>by
    obtain ⟨n,e⟩:=CW.mp hq
    exact aL sy ey0 e (CT _)
  by_cases c1:(X.length-k == 0)=true
  · rw[if_pos c1]
    refine Co (plain λp hp q hq =>?_)
    obtain ⟨n,e⟩:=CW.mp hp
    have hn:n<X.length:=(B1.mp e).1
    have z:=g1 n (by have:=beq_iff_eq.mp c1;lia)
    rw[e] at z
    exact C2 z (y0le q hq)
  rw[if_neg c1]
  have kx:k<X.length:=by have:X.length-k≠0:=λz=>c1 (beq_iff_eq.mpr z);lia
  obtain ⟨xl,exl⟩:=xget (X.length-1) (by lia)
  have xlle:∀p∈X,Le key p xl:=λp hp=>by
    obtain ⟨n,e⟩:=CW.mp hp
    have hn:n<X.length:=(B1.mp e).1
    exact aL sx e exl (by lia)
  refine Cc (bj (z:=xl) (by rw[show P.length+k+(X.length-k)-1=P.length+(X.length-1) by lia,atX _ (by lia)];exact exl) ?_)
  refine Cc (Ad C (λj=>(Y[j]?).getD xl) k1 (uX _ (BV exl)) (λj hj =>?_) (λj hj =>?_) (λi j hij hj =>?_) (by lia) λm hm e1 e2 =>?_)
  · obtain ⟨z,e⟩:=yget j hj
    rw[atY j hj,e];rfl
  · obtain ⟨z,e⟩:=yget j hj
    rw[e];exact uY _ (BV e)
  · obtain ⟨z,e⟩:=yget i (by lia)
    obtain ⟨z',e'⟩:=yget j hj
    rw[e,e'];exact aL sy e e' hij
  dsimp only at e1 e2 ⊢
  by_cases c2:(m == 0)=true
  · rw[if_pos c2]
    refine Co (plain λp hp q hq =>?_)
    obtain ⟨n,e⟩:=CW.mp hq
    have hn:n<Y.length:=(B1.mp e).1
    have z:=e2 n (by have:=beq_iff_eq.mp c2;lia) hn
    rw[e] at z
    exact C2 (xlle p hp) z
  rw[if_neg c2]
  have m0:0<m:=by have:m≠0:=λz=>c2 (beq_iff_eq.mpr z);lia
  have ex:((Cq st).extract (P.length+k) (P.length+X.length)).toList=X.drop k:=by
    rw[ED,D2,ha,ik,GS (by lia)]
    rw[List.take_left' (by rw[Dt];lia)]
  have ey:((Cq st).extract (P.length+X.length) (P.length+X.length+m)).toList=Y.take m:=by
    have e:=ik (P++X) (Y++S) 0
    rw[BR,Nat.add_zero,GH,Cy] at e
    rw[ED,D2,ha,e,Fe,GU hm]
  have sX:((Cq st).extract (P.length+k) (P.length+X.length)).size=X.length-k:=by rw[<- BW,ex,Dt]
  have sY:((Cq st).extract (P.length+X.length) (P.length+X.length+m)).size=m:=by rw[<- BW,ey,Di];lia
  generalize (Cq st).extract (P.length+k) (P.length+X.length)=xa at ex sX ⊢
  generalize (Cq st).extract (P.length+X.length) (P.length+X.length+m)=ya at ey sY ⊢
  have xa0:∀q∈xa.toList,Le key y0 q:=λq hq=>by
    rw[ex] at hq
    obtain ⟨n,hn,e⟩:=bh hq
    have hn2:n<X.length:=(B1.mp e).1
    have z:=g2 n hn hn2
    rw[e] at z
    exact DK z
  have yaL:∀p∈ya.toList,Le key p xl:=λp hp=>by
    rw[ey] at hp
    obtain ⟨n,hn,e⟩:=bz hp
    have z:=e1 n hn
    rw[e] at z
    exact DK z
  have first:∀p q,ya[0]? = some p->q∈xa.toList->Le key p q:=λp q hp hq=>by
    rw[<- B3,ey,Ec,if_pos m0,ey0] at hp
    cases hp
    exact xa0 q hq
  have lst:∀p q,p∈ya.toList->xa[xa.size-1]? = some q->Le key p q:=λp q hp hq=>by
    rw[<- B3,ex,Fu,sX,show k+(X.length-k-1)=X.length-1 by lia,exl] at hq
    cases hq
    exact yaL p hp
  have sxa:xa.toList.Pairwise (Le key):=by rw[ex];exact sx.sublist (DC _ _)
  have sya:ya.toList.Pairwise (Le key):=by rw[ey];exact sy.sublist (DB _ _)
  have uxa:∀p∈xa.toList,U p:=λp hp=>by rw[ex] at hp;exact uX p (FN hp)
  have uya:∀p∈ya.toList,U p:=λp hp=>by rw[ey] at hp;exact uY p (Ef hp)
  have post:∀r st',Sm st1 st'->d7 key xa ya r->wpS (Cs prog w) A E s (do modify λs=>setArr s (r.toList.zipIdx.foldl (λa (p,j)=>a.setIfInBounds (P.length+k+j) p) (Cq s));return (failedOf (← get)).isNone) Q st':=by
    rintro r st' sm ⟨fp,fs⟩
    refine Cc (EJ (Cc (Hx (Co ?_))))
    have rl:r.toList.length=X.length-k+m:=by rw[fp.length_eq,BR,BW,BW,sX,sY]
    have wr:=written r.toList (P.length+k) 0 (Cq st') (by rw[sm.a,a1,sz,rl];lia)
    have e:(failedOf (setArr st' (r.toList.zipIdx.foldl (λa (p,j)=>a.setIfInBounds (P.length+k+j) p) (Cq st')))).isNone=true:=by
      show (failedOf st').isNone=true
      rw[sm.f,f1];rfl
    rw[e]
    have t1:(P++(X++(Y++S))).take (P.length+k+0)=P++X.take k:=by
      rw[Nat.add_zero,List.take_append,B9 (by lia),Fe,GU (by lia)]
    have t2:(P++(X++(Y++S))).drop (P.length+k+0+r.toList.length)=Y.drop m++S:=by
      rw[rl,show P.length+k+0+(X.length-k+m)=P.length+(X.length+m) by lia,ik,ik,GS hm]
    have perm:(X.take k++(r.toList++Y.drop m)).Perm (X++Y):=by
      rw[ex,ey] at fp
      have q:(X.take k++(r.toList++Y.drop m)).Perm (X.take k++((X.drop k++Y.take m)++Y.drop m)):=D5 _ (EO _ fp)
      have e3:X.take k++((X.drop k++Y.take m)++Y.drop m)=X++Y:=by
        rw[Cy (X.drop k),DG, <- Cy,DG]
      rw[e3] at q
      exact q
    have inr:∀z∈r.toList,z∈X.drop k\/z∈Y.take m:=λz hz=>by
      have q:=fp.mem_iff.mp hz
      rw[ex,ey] at q
      exact B0.mp q
    refine h _ (X.take k++(r.toList++Y.drop m)) perm ?_ ?_ ?_ (sm.k.trans k1) (sm.f.trans f1)
    · refine Dx.mpr ⟨sx.sublist (DB _ _),Dx.mpr ⟨fs,sy.sublist (DC _ _),λp hp q hq =>?_⟩,λp hp q hq =>?_⟩
      · obtain ⟨n,hn,en⟩:=bh hq
        have hn2:n<Y.length:=(B1.mp en).1
        rcases inr p hp with z | z
        · have g:=e2 n hn hn2
          rw[en] at g
          exact C2 (xlle p (FN z)) g
        · obtain ⟨j,hj,ej⟩:=bz z
          exact aL sy ej en (by lia)
      · obtain ⟨n,hn,en⟩:=bz hp
        have g:=g1 n hn
        rw[en] at g
        rcases B0.mp hq with z | z
        · rcases inr q z with z | z
          · obtain ⟨j,hj,ej⟩:=bh z
            exact aL sx en ej (by lia)
          · exact C2 g (y0le q (Ef z))
        · exact C2 g (y0le q (FN z))
    · show (r.toList.zipIdx.foldl (λa (p,j)=>a.setIfInBounds (P.length+k+j) p) (Cq st')).toList=_
      rw[wr,sm.a,a1,ha,t1,t2]
      simp only[Cy]
    · show CF st'=_
      rw[sm.p,p1]
  by_cases c3:X.length-k<=m
  · rw[if_pos c3]
    exact Cc (Af C k1 uxa uya sxa sya (by lia) (by lia) (λp q hp hq=>first p q hp (b8 hq)) lst λr st' sm fr=>post r st' sm fr)
  · rw[if_neg c3]
    exact Cc (Ah C k1 uxa uya sxa sya (by lia) (by lia) first lst λr st' sm fr=>post r st' sm fr)
end
open PySem PyProof.Rows
theorem yp (lo m:Nat):Aa lo m=(do
    let mut n:=1
    for _ in [1:m] do
      let some sm ← ltAt' (lo+n) (lo+n-1)
        | return none
      if sm then break
      n:=n+1
    if n == m then return some n
    if n>1 then
      let some ro ← ltAt' lo (lo+n-1)
        | return none
      if ro then return some n
      reverseSlice' lo (lo+n)
    rule "list.sort.descending-run"
    n:=n+1
    let mut q:=0
    for _ in [n:m] do
      let some sm ← ltAt' (lo+n) (lo+n-1)
        | return none
      if sm then
        if q>0 then reverseSlice' (lo+n-(q+1)) (lo+n)
        q:=0
      else
        let some lg ← ltAt' (lo+n-1) (lo+n)
          | return none
        if lg then break
        q:=q+1
      n:=n+1
    if q>0 then reverseSlice' (lo+n-(q+1)) (lo+n)
    reverseSlice' lo (lo+n)
    for _ in [n:m] do
      let some sm ← ltAt' (lo+n) (lo+n-1)
        | return none
      if sm then break
      n:=n+1
    return some n):=rfl
theorem wa (lo n ok:Nat):vW lo n ok=(do
    for k in [max ok 1:n] do
      let mut l:=0;let mut r:=k
      for _ in [0:k] do
        if l≥r then break
        let m:=(l+r)/2
        let some le ← ltAt' (lo+k) (lo+m)
          | return false
        if le then r:=m else l:=m+1
      moveDown' (lo+k) (lo+l)
    return true):=rfl
section
variable  {O:G9}(key:Cn->O.α)
def kk (xs:Array Cn)(i:Nat):O.α:=key ((xs[i]?).getD (Es,Es))
def Up (xs:Array Cn)(lo n:Nat):Prop:=∀i j,lo<=i->i<=j->j<lo+n->O.kle (kk key xs i) (kk key xs j)
def Down (xs:Array Cn)(lo n:Nat):Prop:=∀i j,lo<=i->i<=j->j<lo+n->O.kle (kk key xs j) (kk key xs i)
variable  {key}
theorem il {xs ys:Array Cn}{i j:Nat}(h:xs[i]? = ys[j]?):kk key xs i=kk key ys j:=by unfold kk;rw[h]
theorem my {xs:Array Cn}{i j:Nat}(hj:j<=xs.size)(k:Nat):kk key (mirror xs i j ((j-i)/2)) k=if i<=k/\k<j then kk key xs (i+j-1-k) else kk key xs k:=by
 have e:=Ji (i:=i) hj k
 by_cases h:i<=k/\k<j
 ·rw[if_pos h] at e ⊢;exact il e
 ·rw[if_neg h] at e ⊢;exact il e
theorem eZ {xs:Array Cn}{i j:Nat}(hj:j<=xs.size)(he:∀k,i<=k->k<j->kk key xs k=kk key xs (j-1))(k:Nat):kk key (mirror xs i j ((j-i)/2)) k=kk key xs k:=by
 rw[my hj]
 split
 ·rw[he _ (by omega) (by omega),he k (by omega) (by omega)]
 ·rfl
end
structure SA (lo:Nat)(st st':CM):Prop where
 perm:(Cq st').Perm (Cq st)
 pre:∀k,k<lo->(Cq st')[k]? = (Cq st)[k]?
 k:kindOf st'=kindOf st
 p:CF st'=CF st
 f:failedOf st'=failedOf st
theorem SA.refl (lo:Nat)(st:CM):SA lo st st:=⟨Array.Perm.refl _,λ_ _=>rfl,rfl,rfl,rfl⟩
theorem SA.size {lo:Nat}{st st':CM}(h:SA lo st st'):(Cq st').size=(Cq st).size:=h.perm.size_eq
theorem SA.mirror {lo:Nat}{st st':CM}(h:SA lo st st'){i j:Nat}(hi:lo<=i)(hj:j<=(Cq st').size):SA lo st (setArr st' (mirror (Cq st') i j ((j-i)/2))) :=
 ⟨(mirror_perm _ _ _ _).trans h.perm,λk hk=>by
  show (PyProof.Rows.mirror (Cq st') i j ((j-i)/2))[k]? = _
  rw[Ji hj,if_neg (by lia)]
  exact h.pre k hk,h.k,h.p,h.f⟩
theorem SA.mem {lo:Nat}{st st':CM}(h:SA lo st st'){p:Cn}(hp:p∈(Cq st').toList):p∈(Cq st).toList:=(Hk.mp h.perm).mem_iff.mp hp
section
variable  {prog:Ca}{w:CJ}{A:Dd}{E:BM->BQ->Prop}{s:BQ}{O:G9}{key:Cn->O.α}{U:Cn->Prop}{κ:SortKind}
theorem gs (C:Cmp prog w A s O key U κ){st:CM}{i j:Nat}{Q:Option Bool->CM->Prop}(hκ:kindOf st=κ)(hu:∀p∈(Cq st).toList,U p)(hi:i<(Cq st).size)(hj:j<(Cq st).size)
  (h:Q (some (O.blt (kk key (Cq st) i) (kk key (Cq st) j))) st):wpS (Cs prog w) A E s (ltAt' i j) Q st:=by
 rw[ltAt'_eq]
 refine Cc (Hx ?_)
 obtain ⟨x,ex⟩:=bq hi
 obtain ⟨y,ey⟩:=bq hj
 dsimp only
 refine Cc (bj ex (Cc (bj ey (C.lt _ st x y _ hκ (hu _ (b8 ex)) (hu _ (b8 ey)) ?_))))
 unfold kk at h
 rw[ex,ey] at h
 exact h
theorem yq (C:Cmp prog w A s O key U κ){st:CM}{lo m:Nat}{Q:Option Nat->CM->Prop}(hκ:kindOf st=κ)(hu:∀p∈(Cq st).toList,U p)(hm:1<=m)(hz:lo+m=(Cq st).size)
  (h:∀n st',1<=n->n<=m->SA lo st st'->Up key (Cq st') lo n->Q (some n) st'):wpS (Cs prog w) A E s (Aa lo m) Q st:=by
 rw[yp]
 dsimp only
 refine Cc (Et (DH (I:=λx c st'=>st=st'/\c=(none,x)/\Up key (Cq st) lo x)
  (Q:=λc st'=>st=st'/\∃n,c=(none,n)/\1<=n/\n<=m/\Up key (Cq st) lo n/\(n<m->O.klt (kk key (Cq st) (lo+n)) (kk key (Cq st) (lo+n-1)))) ?step ?fin ⟨rfl,rfl,λi j h1 h2 h3=>by rw[show i=j by lia];exact Eb _⟩) ?post)
 case fin =>
  rintro c st' ⟨rfl,rfl,up⟩
  exact ⟨rfl,_,rfl,by lia,by lia,by rw[show max 1 m=m by lia] at up ⊢;exact up,by lia⟩
 case step =>
  rintro x c st' h1 h2 ⟨rfl,rfl,up⟩
  dsimp only
  refine Cc (gs C hκ hu (by lia) (by lia) ?_)
  dsimp only
  cases hb:O.blt (kk key (Cq st) (lo+x)) (kk key (Cq st) (lo+x-1)) with
  | true =>
   rw[if_pos rfl]
   exact Co ⟨rfl,x,rfl,h1,by lia,up,λ_=>hb⟩
  | false =>
   rw[if_neg (by simp)]
   refine Co ⟨rfl,rfl,λi j k1 k2 k3 =>?_⟩
   by_cases hj:j=lo+x
   ·by_cases hi:i=j
    ·rw[hi];exact Eb _
    ·rw[hj]
     exact C2 (up i (lo+x-1) k1 (by lia) (by lia)) hb
   ·exact up i j k1 k2 (by lia)
 case post =>
  rintro c st' ⟨rfl,n,rfl,n1,n2,up,br⟩
  dsimp only
  by_cases c1:(n == m)=true
  ·rw[if_pos c1]
   exact Co (h n st n1 n2 (SA.refl _ _) up)
  rw[if_neg c1]
  have nm:n<m:=by have:n≠m:=λz=>c1 (beq_iff_eq.mpr z);lia
  have br:=br nm
  by_cases c2:n>1
  case' pos =>
   rw[if_pos c2]
   refine Cc (gs C hκ hu (by lia) (by lia) ?_)
   dsimp only
   cases hro:O.blt (kk key (Cq st) lo) (kk key (Cq st) (lo+n-1))
   case' true =>
    rw[if_pos rfl]
    exact Co (h n st n1 n2 (SA.refl _ _) up)
   rw[if_neg (by simp)]
   have eqs:∀k,lo<=k->k<lo+n->kk key (Cq st) k=kk key (Cq st) (lo+n-1):=λk k1 k2 =>
    Jb (up k (lo+n-1) k1 (by lia) (by lia)) (C2 (show O.kle (kk key (Cq st) (lo+n-1)) (kk key (Cq st) lo) from hro) (up lo k (BS _) k1 k2))
   rw[GZ]
   refine Cc (EJ ?_)
   have sa:=(SA.refl lo st).mirror (i:=lo) (j:=lo+n) (BS _) (by lia)
   have ke:=eZ (key:=key) (xs:=Cq st) (i:=lo) (j:=lo+n) (by lia) eqs
   have ka:∀k,kk key (Cq (setArr st (mirror (Cq st) lo (lo+n) ((lo+n-lo)/2)))) k=kk key (Cq st) k:=ke
   generalize setArr st (mirror (Cq st) lo (lo+n) ((lo+n-lo)/2))=st1 at sa ka ⊢
   clear ke
  case' neg =>
   rw[if_neg c2]
   have eqs:∀k,lo<=k->k<lo+n->kk key (Cq st) k=kk key (Cq st) (lo+n-1):=λk k1 k2=>by rw[show k=lo+n-1 by lia]
   obtain ⟨st1,e1⟩:∃st1,st1=st:=⟨_,rfl⟩
   have sa:SA lo st st1:=by rw[e1];exact SA.refl _ _
   have ka:∀k,kk key (Cq st1) k=kk key (Cq st) k:=λk=>by rw[e1]
   rw[<- e1]
   clear e1
  all_goals
   refine Cc (HW (EB ⟨rfl,?_⟩))
   have dn:Down key (Cq st1) lo (n+1):=λi j k1 k2 k3=>by
    rw[ka,ka]
    by_cases hj:j=lo+n
    ·by_cases hi:i=j
     ·rw[hi];exact Eb _
     ·rw[hj,eqs i k1 (by lia)]
      exact DK br
    ·rw[eqs i k1 (by lia),eqs j (by lia) (by lia)]
     exact Eb _
   clear eqs up br ka
   refine Cc (Et (DH (I:=λx c st'=>∃q,c=(none,x,q)/\x<=m/\SA lo st st'/\Down key (Cq st') lo x/\q+1<=x/\∀k,lo+x-(q+1)<=k->k<lo+x->kk key (Cq st') k=kk key (Cq st') (lo+x-1))
    (Q:=λc st'=>∃x q,c=(none,x,q)/\1<=x/\x<=m/\SA lo st st'/\Down key (Cq st') lo x/\q+1<=x/\∀k,lo+x-(q+1)<=k->k<lo+x->kk key (Cq st') k=kk key (Cq st') (lo+x-1)) ?step ?fin
    ⟨0,rfl,by lia,sa,dn,by lia,λk k1 k2=>by rw[show k=lo+(n+1)-1 by lia]⟩) ?post)
   case fin =>
    rintro c st' ⟨q,rfl,xm,sa,dn,hq,he⟩
    exact ⟨_,q,rfl,by lia,xm,sa,dn,hq,he⟩
   case step =>
    rintro x c st2 h1 h2 ⟨q,rfl,xm,sa2,dn2,hq,he⟩
    dsimp only
    have sz:=sa2.size
    have u2:∀p∈(Cq st2).toList,U p:=λp hp=>hu p (sa2.mem hp)
    refine Cc (gs C (sa2.k.trans hκ) u2 (by lia) (by lia) ?_)
    dsimp only
    cases hb:O.blt (kk key (Cq st2) (lo+x)) (kk key (Cq st2) (lo+x-1)) with
    | true =>
     rw[if_pos rfl]
     have dn3:Down key (Cq st2) lo (x+1):=λi j k1 k2 k3=>by
      by_cases hj:j=lo+x
      ·by_cases hi:i=j
       ·rw[hi];exact Eb _
       ·rw[hj];exact C2 (DK hb) (dn2 i (lo+x-1) k1 (by lia) (by lia))
      ·exact dn2 i j k1 k2 (by lia)
     by_cases q0:q>0
     ·rw[if_pos q0,GZ]
      refine Cc (EJ (Co ?_))
      have ke:=eZ (key:=key) (xs:=Cq st2) (i:=lo+x-(q+1)) (j:=lo+x) (by lia) he
      refine ⟨0,rfl,by lia,sa2.mirror (by lia) (by lia),λi j k1 k2 k3 =>?_,by lia,λk k1 k2=>by rw[show k=lo+(x+1)-1 by lia]⟩
      show O.kle (kk key (mirror (Cq st2) (lo+x-(q+1)) (lo+x) ((lo+x-(lo+x-(q+1)))/2)) j) (kk key (mirror (Cq st2) (lo+x-(q+1)) (lo+x) ((lo+x-(lo+x-(q+1)))/2)) i)
      rw[ke,ke]
      exact dn3 i j k1 k2 k3
     ·rw[if_neg q0]
      exact Co ⟨0,rfl,by lia,sa2,dn3,by lia,λk k1 k2=>by rw[show k=lo+(x+1)-1 by lia]⟩
    | false =>
     rw[if_neg (by simp)]
     refine Cc (gs C (sa2.k.trans hκ) u2 (by lia) (by lia) ?_)
     dsimp only
     cases hb2:O.blt (kk key (Cq st2) (lo+x-1)) (kk key (Cq st2) (lo+x)) with
     | true =>
      rw[if_pos rfl]
      exact Co ⟨x,q,rfl,by lia,xm,sa2,dn2,hq,he⟩
     | false =>
      rw[if_neg (by simp)]
      have eq:=Jb (show O.kle (kk key (Cq st2) (lo+x)) (kk key (Cq st2) (lo+x-1)) from hb2) hb
      refine Co ⟨q+1,rfl,by lia,sa2,λi j k1 k2 k3 =>?_,by lia,λk k1 k2 =>?_⟩
      ·by_cases hj:j=lo+x
       ·by_cases hi:i=j
        ·rw[hi];exact Eb _
        ·rw[hj,eq];exact dn2 i (lo+x-1) k1 (by lia) (by lia)
       ·exact dn2 i j k1 k2 (by lia)
      ·rw[show lo+(x+1)-1=lo+x by lia,eq]
       by_cases hk:k=lo+x
       ·rw[hk,eq]
       ·exact he k (by lia) (by lia)
   case post =>
    rintro c st2 ⟨x,q,rfl,x1,xm,sa2,dn2,hq,he⟩
    dsimp only
    have sz:=sa2.size
    by_cases q0:q>0
    case' pos =>
     rw[if_pos q0,GZ]
     refine Cc (EJ ?_)
     have ke:=eZ (key:=key) (xs:=Cq st2) (i:=lo+x-(q+1)) (j:=lo+x) (by lia) he
     have sa3:=sa2.mirror (i:=lo+x-(q+1)) (j:=lo+x) (by lia) (by lia)
     have dn3:Down key (Cq (setArr st2 (mirror (Cq st2) (lo+x-(q+1)) (lo+x) ((lo+x-(lo+x-(q+1)))/2)))) lo x:=λi j k1 k2 k3=>by
      show O.kle (kk key (mirror (Cq st2) (lo+x-(q+1)) (lo+x) ((lo+x-(lo+x-(q+1)))/2)) j) (kk key (mirror (Cq st2) (lo+x-(q+1)) (lo+x) ((lo+x-(lo+x-(q+1)))/2)) i)
      rw[ke,ke]
      exact dn2 i j k1 k2 k3
     generalize setArr st2 (mirror (Cq st2) (lo+x-(q+1)) (lo+x) ((lo+x-(lo+x-(q+1)))/2))=st3 at sa3 dn3 ⊢
     clear ke
    case' neg =>
     rw[if_neg q0]
     obtain ⟨st3,e3⟩:∃st3,st3=st2:=⟨_,rfl⟩
     have sa3:SA lo st st3:=by rw[e3];exact sa2
     have dn3:Down key (Cq st3) lo x:=by rw[e3];exact dn2
     rw[<- e3]
     clear e3
    all_goals
     rw[GZ]
     refine Cc (EJ ?_)
     have sz3:=sa3.size
     have sa4:=sa3.mirror (i:=lo) (j:=lo+x) (BS _) (by lia)
     have km:=my (key:=key) (xs:=Cq st3) (i:=lo) (j:=lo+x) (by lia)
     have up4:Up key (Cq (setArr st3 (mirror (Cq st3) lo (lo+x) ((lo+x-lo)/2)))) lo x:=λi j k1 k2 k3=>by
      show O.kle (kk key (mirror (Cq st3) lo (lo+x) ((lo+x-lo)/2)) i) (kk key (mirror (Cq st3) lo (lo+x) ((lo+x-lo)/2)) j)
      rw[km,km,if_pos ⟨by lia,by lia⟩,if_pos ⟨by lia,by lia⟩]
      exact dn3 _ _ (by lia) (by lia) (by lia)
     generalize setArr st3 (mirror (Cq st3) lo (lo+x) ((lo+x-lo)/2))=st4 at sa4 up4 ⊢
     clear km
     have u4:∀p∈(Cq st4).toList,U p:=λp hp=>hu p (sa4.mem hp)
     have sz4:=sa4.size
     refine Cc (Et (DH (I:=λz c st'=>st4=st'/\c=(none,z)/\z<=m/\Up key (Cq st4) lo z)
      (Q:=λc st'=>st4=st'/\∃z,c=(none,z)/\1<=z/\z<=m/\Up key (Cq st4) lo z) ?step ?fin ⟨rfl,rfl,xm,up4⟩) ?post)
     case fin =>
      rintro c st' ⟨rfl,rfl,zm,up⟩
      exact ⟨rfl,_,rfl,by lia,zm,up⟩
     case post =>
      rintro c st' ⟨rfl,z,rfl,z1,zm,up⟩
      exact Co (h z st4 z1 zm sa4 up)
     case step =>
      rintro z c st' h1 h2 ⟨rfl,rfl,zm,up⟩
      dsimp only
      refine Cc (gs C (sa4.k.trans hκ) u4 (by lia) (by lia) ?_)
      dsimp only
      cases hb:O.blt (kk key (Cq st4) (lo+z)) (kk key (Cq st4) (lo+z-1)) with
      | true =>
       rw[if_pos rfl]
       exact Co ⟨rfl,z,rfl,by lia,zm,up⟩
      | false =>
       rw[if_neg (by simp)]
       refine Co ⟨rfl,rfl,by lia,λi j k1 k2 k3 =>?_⟩
       by_cases hj:j=lo+z
       ·by_cases hi:i=j
        ·rw[hi];exact Eb _
        ·rw[hj];exact C2 (up i (lo+z-1) k1 (by lia) (by lia)) hb
       ·exact up i j k1 k2 (by lia)
theorem mz {xs:Array Cn}{src d:Nat}(hs:src<xs.size)(hd:d<=src)(k:Nat) :
  kk key (bubble xs src d) k=if k=src-d then kk key xs src else if src-d<k/\k<=src then kk key xs (k-1) else kk key xs k:=by
 have e:=getElem?_bubble hs d hd k
 by_cases h1:k=src-d
 ·rw[if_pos h1] at e ⊢;exact il e
 ·rw[if_neg h1] at e ⊢
  by_cases h2:src-d<k/\k<=src
  ·rw[if_pos h2] at e ⊢;exact il e
  ·rw[if_neg h2] at e ⊢;exact il e
theorem SA.bubble {lo:Nat}{st st':CM}(h:SA lo st st'){src d:Nat}(hs:src<(Cq st').size)(hd:lo+d<=src):SA lo st (setArr st' (bubble (Cq st') src d)) :=
 ⟨(bubble_perm _ _ _).trans h.perm,λk hk=>by
  show (PyProof.Rows.bubble (Cq st') src d)[k]? = _
  rw[getElem?_bubble hs d (by lia),if_neg (by lia),if_neg (by lia)]
  exact h.pre k hk,h.k,h.p,h.f⟩
theorem wb (C:Cmp prog w A s O key U κ){st:CM}{lo n ok:Nat}{Q:Bool->CM->Prop}(hκ:kindOf st=κ)(hu:∀p∈(Cq st).toList,U p)(hn:lo+n<=(Cq st).size)(hok:ok<=n)(up:Up key (Cq st) lo ok)
  (h:∀st',SA lo st st'->Up key (Cq st') lo n->Q true st'):wpS (Cs prog w) A E s (vW lo n ok) Q st:=by
 rw[wa]
 dsimp only
 refine Cc (Et (DH (I:=λx c st'=>c=(none,())/\SA lo st st'/\Up key (Cq st') lo (min x n)) (Q:=λc st'=>c=(none,())/\SA lo st st'/\Up key (Cq st') lo n) ?step ?fin ⟨rfl,SA.refl _ _,λi j k1 k2 k3 =>?_⟩) ?post)
 case post =>
  rintro c st' ⟨rfl,sa,up⟩
  exact Co (h st' sa up)
 case fin =>
  rintro c st' ⟨rfl,sa,up⟩
  refine ⟨rfl,sa,?_⟩
  rw[show min (max (max ok 1) n) n=n by lia] at up
  exact up
 case step =>
  rintro k c st1 h1 h2 ⟨rfl,sa1,up1⟩
  rw[show min k n=k by lia] at up1
  have sz:=sa1.size
  have u1:∀p∈(Cq st1).toList,U p:=λp hp=>hu p (sa1.mem hp)
  refine Cc (Et (DH (I:=λx c st'=>st1=st'/\∃l r,c=(none,l,r)/\l<=r/\r<=k/\r-l<=k-x/\(∀i,i<l->O.kle (kk key (Cq st1) (lo+i)) (kk key (Cq st1) (lo+k)))/\(∀i,r<=i->i<k->O.klt (kk key (Cq st1) (lo+k)) (kk key (Cq st1) (lo+i))))
   (Q:=λc st'=>st1=st'/\∃l r,c=(none,l,r)/\l<=k/\(∀i,i<l->O.kle (kk key (Cq st1) (lo+i)) (kk key (Cq st1) (lo+k)))/\(∀i,l<=i->i<k->O.klt (kk key (Cq st1) (lo+k)) (kk key (Cq st1) (lo+i)))) ?istep ?ifin ⟨rfl,0,k,rfl,by lia,by lia,by lia,λi hi=>by lia,λi a1 a2=>by lia⟩) ?ipost)
  case ifin =>
   rintro c st' ⟨rfl,l,r,rfl,b1,b2,b3,b4,b5⟩
   have e:l=r:=by lia
   subst e
   exact ⟨rfl,l,l,rfl,b2,b4,b5⟩
  case istep =>
   rintro x c st' _ hx ⟨rfl,l,r,rfl,b1,b2,b3,b4,b5⟩
   dsimp only
   by_cases hge:l≥r
   ·rw[if_pos hge]
    have e:l=r:=by lia
    subst e
    exact Co ⟨rfl,l,l,rfl,b2,b4,b5⟩
   ·rw[if_neg hge]
    refine Cc (gs C (sa1.k.trans hκ) u1 (by lia) (by lia) ?_)
    dsimp only
    cases hb:O.blt (kk key (Cq st1) (lo+k)) (kk key (Cq st1) (lo+(l+r)/2)) with
    | true =>
     rw[if_pos rfl]
     exact Co ⟨rfl,l,(l+r)/2,rfl,by lia,by lia,by lia,b4,λi a1 a2=>KeyOrd.klt_of_klt_of_kle hb (up1 _ _ (by lia) (by lia) (by lia))⟩
    | false =>
     rw[if_neg (by simp)]
     exact Co ⟨rfl,(l+r)/2+1,r,rfl,by lia,by lia,by lia,λi a1=>C2 (up1 (lo+i) (lo+(l+r)/2) (by lia) (by lia) (by lia)) hb,b5⟩
  case ipost =>
   rintro c st' ⟨rfl,l,r,rfl,b2,b4,b5⟩
   dsimp only
   rw[moveDown'_eq]
   have e:lo+k-(lo+l)=k-l:=by lia
   refine Cc (EJ (Co ⟨rfl,?_,?_⟩))
   ·rw[e]
    exact sa1.bubble (by lia) (by lia)
   ·rw[show min (k+1) n=k+1 by lia]
    intro i j k1 k2 k3
    show O.kle (kk key (bubble (Cq st1) (lo+k) (lo+k-(lo+l))) i) (kk key (bubble (Cq st1) (lo+k) (lo+k-(lo+l))) j)
    have lt:lo+k<(Cq st1).size:=by lia
    rw[e,mz lt (by lia),mz lt (by lia),show lo+k-(k-l)=lo+l by lia]
    have b4':∀z,lo<=z->z<lo+l->O.kle (kk key (Cq st1) z) (kk key (Cq st1) (lo+k)):=λz z1 z2=>by
     have:=b4 (z-lo) (by lia)
     rw[show lo+(z-lo)=z by lia] at this
     exact this
    have b5':∀z,lo+l<=z->z<lo+k->O.kle (kk key (Cq st1) (lo+k)) (kk key (Cq st1) z):=λz z1 z2=>by
     have:=b5 (z-lo) (by lia) (by lia)
     rw[show lo+(z-lo)=z by lia] at this
     exact DK this
    repeat' split
    all_goals first
     | (exfalso;lia)
     | exact Eb _
     | exact b4' _ (by lia) (by lia)
     | exact b5' _ (by lia) (by lia)
     | exact up1 _ _ (by lia) (by lia) (by lia)
 ·by_cases h1:ok=0
  ·rw[show i=j by lia];exact Eb _
  ·exact up i j k1 k2 (by lia)
end
open PySem PyProof.Rows
def pwr:Nat->Nat->Nat->Nat->Nat:=sortPriv% PySem.Builtin.power
def mrn:Nat->Nat->Nat->Nat:=sortPriv% PySem.Builtin.minRun
theorem wc:zp=(do
    let sz:=(Cq (← get)).size
    let mr:=mrn sz sz 0
    let mut lo:=0
    for _ in [0:sz] do
      if lo≥sz then break
      let some fd ← Aa lo (sz-lo)
        | return
      let mut n:=fd
      if n<mr then
        rule "list.sort.binary-insertion"
        let fo:=min (sz-lo) mr
        if !(← vW lo fo n) then return
        n:=fo
      if let some (s1,n1,_):=(CF (← get)).back? then
        let pw:=pwr sz (2*s1+n1) (2*s1+n1+n1+n) sz
        for _ in [0:sz] do
          let p:=CF (← get)
          let some (_,_,old):=(if p.size>1 then p[p.size-2]? else none)
            | break
          if old<=pw then break
          if !(← mAt (p.size-2)) then return
        modify λs=>SortSt.mk' (kindOf s) (Cq s) ((CF s).modify ((CF s).size-1) λ(st,len,_)=>(st,len,pw)) (gallopOf s) (failedOf s)
      modify λs=>SortSt.mk' (kindOf s) (Cq s) ((CF s).push (lo,n,0)) (gallopOf s) (failedOf s)
      lo:=lo+n
    for _ in [0:sz] do
      let p:=CF (← get)
      if p.size<=1 then break
      let i:=p.size-2
      let bf:=if i>0 then p[i-1]?.map (·.2.1) else none
      let i:=if bf.any (· < (p[i+1]?.elim 0 (·.2.1))) then i-1 else i
      if !(← mAt i) then return):=rfl
def Mt:Nat->List (List Cn)->List (Nat×Nat×Nat)->Prop
 | _,[],[]=>True
 | off,r :: rs,p :: ps=>p.1=off/\p.2.1=r.length/\Mt (off+r.length) rs ps
 | _,_,_=>False
theorem Mt.length:∀{off:Nat} {rs:List (List Cn)} {ps:List (Nat×Nat×Nat)},Mt off rs ps->ps.length=rs.length
 | _,[],[],_=>rfl
 | _,_ :: _,_ :: _,h=>by rw[Ct,Ct,Mt.length h.2.2]
theorem Mt.append:∀{off:Nat} {rs ts:List (List Cn)} {ps us:List (Nat×Nat×Nat)},Mt off rs ps->Mt (off+rs.flatten.length) ts us->Mt off (rs++ts) (ps++us)
 | _,[],_,[],_,_,h=>by simpa using h
 | off,r :: rs,ts,p :: ps,us,h,h'=>by
  refine ⟨h.1,h.2.1,Mt.append h.2.2 ?_⟩
  rw[Ek,BR, <- KP] at h'
  exact h'
theorem Mt.split:∀{off:Nat} {rs:List (List Cn)} {ps:List (Nat×Nat×Nat)} (i:Nat),Mt off rs ps->i+1<ps.length →
  ∃R1 X Y R2 L1 w1 w2 L2,rs=R1++X :: Y :: R2/\ps=L1++(off+R1.flatten.length,X.length,w1) :: (off+R1.flatten.length+X.length,Y.length,w2) :: L2/\L1.length=i/\Mt off R1 L1/\Mt (off+R1.flatten.length+X.length+Y.length) R2 L2
 | off,r :: r2 :: rs,p :: p2 :: ps,0,h,_=>by
  obtain ⟨a,b,w1⟩:=p
  obtain ⟨c,d,w2⟩:=p2
  obtain ⟨h1,h2,h3,h4,h5⟩:=h
  dsimp only at h1 h2 h3 h4
  subst h1 h2 h3 h4
  exact ⟨[],r,r2,rs,[],w1,w2,ps,rfl,rfl,rfl,trivial,h5⟩
 | off,r :: rs,p :: ps,i+1,h,hl=>by
  rw[Ct] at hl
  obtain ⟨R1,X,Y,R2,L1,w1,w2,L2,e1,e2,e3,m1,m2⟩:=Mt.split i h.2.2 (by lia)
  have ea:off+(r :: R1).flatten.length=off+r.length+R1.flatten.length:=by rw[Ek,BR];lia
  refine ⟨r :: R1,X,Y,R2,p :: L1,w1,w2,L2,by rw[e1];rfl,?_,by rw[Ct,e3],⟨h.1,h.2.1,m1⟩,?_⟩
  ·rw[ea,e2];rfl
  ·rw[ea];exact m2
 | off,[],[],i,_,hl=>by simp at hl
 | off,[_],[_],0,_,hl=>by simp at hl
theorem Mt.modify (f:Nat×Nat×Nat->Nat×Nat×Nat)(hf:∀p,(f p).1=p.1/\(f p).2.1=p.2.1):∀{off:Nat} {rs:List (List Cn)} {ps:List (Nat×Nat×Nat)} (i:Nat),Mt off rs ps->Mt off rs (ps.modify i f)
 | _,[],[],i,_=>by cases i <;> exact trivial
 | off,r :: rs,p :: ps,0,h=>⟨(hf p).1.trans h.1,(hf p).2.trans h.2.1,h.2.2⟩
 | off,r :: rs,p :: ps,i+1,h=>⟨h.1,h.2.1,Mt.modify f hf i h.2.2⟩
theorem uG {α:Type}(l:List α)(a b c:α)(r:List α):((l++a :: b :: r).set l.length c).eraseIdx (l.length+1)=l++c :: r:=by
 induction l with
 | nil=>rfl
 | cons x l ih=>simp only[List.cons_append,Ct,List.set_cons_succ,Gk,ih]
section
variable  {O:G9}(key:Cn->O.α)(U:Cn->Prop)(κ:SortKind)
structure Rn (a0:List Cn)(lo:Nat)(st:CM):Prop where
 ex:∃runs rest,(Cq st).toList=runs.flatten++rest/\runs.flatten.length=lo/\(∀r∈runs,r.Pairwise (Le key)/\0<r.length)/\Mt 0 runs (CF st).toList
 perm:(Cq st).toList.Perm a0
 k:kindOf st=κ
 f:failedOf st=none
end
section
variable  {prog:Ca}{w:CJ}{A:Dd}{E:BM->BQ->Prop}{s:BQ}{O:G9}{key:Cn->O.α}{U:Cn->Prop}{κ:SortKind}
theorem px (C:Cmp prog w A s O key U κ){a0:List Cn}{lo i:Nat}{st:CM}{Q:Bool->CM->Prop}(hu:∀p∈a0,U p)(R:Rn key κ a0 lo st)(hi:i+1<(CF st).size)
  (h:∀st',Rn key κ a0 lo st'->(CF st').size+1=(CF st).size->(Cq st').toList.drop lo=(Cq st).toList.drop lo->Q true st'):wpS (Cs prog w) A E s (mAt i) Q st:=by
 obtain ⟨runs,rest,ea,el,er,em⟩:=R.ex
 obtain ⟨R1,X,Y,R2,L1,w1,w2,L2,e1,e2,e3,m1,m2⟩:=Mt.split i em (by rw[BW];exact hi)
 subst e1
 rw[Fb] at e2 m2
 have hx:=er X (by simp)
 have hy:=er Y (by simp)
 have ga:(CF st)[i]? = some (R1.flatten.length,X.length,w1):=by
  rw[<- B3,e2, <- e3,show L1.length=L1.length+0 by lia,ri];rfl
 have gb:(CF st)[i+1]? = some (R1.flatten.length+X.length,Y.length,w2):=by
  rw[<- B3,e2, <- e3,ri];rfl
 refine Aj C (P:=R1.flatten) (X:=X) (Y:=Y) (S:=R2.flatten++rest) R.k R.f (by rw[ea];simp) (λp hp=>hu p (R.perm.mem_iff.mp hp)) ga gb hx.2 hy.2 hx.1 hy.1 λst' M pm sm ar pd kd fl =>?_
 have lm:M.length=X.length+Y.length:=by rw[pm.length_eq,BR]
 have ep:(CF st').toList=L1++(R1.flatten.length,X.length+Y.length,w1) :: L2:=by
  rw[pd,Array.toList_eraseIdxIfInBounds,Hj,e2, <- e3]
  exact uG _ _ _ _ _
 refine h st' ⟨⟨R1++M :: R2,rest,?_,?_,λr hr =>?_,?_⟩,?_,kd,fl⟩ ?_ ?_
 ·rw[ar];simp
 ·rw[<- el];simp[lm];lia
 ·rcases B0.mp hr with q | q
  ·exact er r (by simp[q])
  ·rcases Cg.mp q with q | q
   ·rw[q];exact ⟨sm,by have:=hx.2;lia⟩
   ·exact er r (by simp[q])
 ·rw[ep]
  refine Mt.append m1 ⟨by rw[Fb],lm.symm,?_⟩
  rw[Fb,lm, <- KP]
  exact m2
 ·rw[ar]
  refine List.Perm.trans ?_ R.perm
  rw[ea,show (R1++X :: Y :: R2).flatten++rest=R1.flatten++((X++Y)++(R2.flatten++rest)) by simp]
  exact D5 _ (EO _ pm)
 ·rw[<- BW, <- BW,ep,e2]
  simp only[BR,Ct]
  lia
 ·have l1:(R1++M :: R2).flatten.length=lo:=by rw[<- el];simp[lm];lia
  have q1:(Cq st').toList=(R1++M :: R2).flatten++rest:=by rw[ar];simp
  rw[q1,ea, <- l1,Hv,l1, <- el,Hv]
theorem Rn.sa {a0:List Cn}{lo:Nat}{st st':CM}(R:Rn key κ a0 lo st)(sa:SA lo st st'):Rn key κ a0 lo st':=by
 obtain ⟨runs,rest,ea,el,er,em⟩:=R.ex
 have et:(Cq st').toList.take lo=runs.flatten:=by
  have e1:(Cq st').toList.take lo=(Cq st).toList.take lo:=by
   refine FF λi =>?_
   rw[Ec,Ec]
   split
   ·rw[B3,B3];exact sa.pre i (by assumption)
   ·rfl
  rw[e1,ea, <- el,List.take_left]
 refine ⟨⟨runs,(Cq st').toList.drop lo,by rw[<- et,DG],el,er,by rw[sa.p];exact em⟩,(Hk.mp sa.perm).trans R.perm,sa.k.trans R.k,sa.f.trans R.f⟩
theorem uH {xs:Array Cn}{lo n:Nat}(h:Up key xs lo n):((xs.toList.drop lo).take n).Pairwise (Le key):=by
 refine EZ.mpr λi j hi hj hij =>?_
 have get:∀k (hk:k<((xs.toList.drop lo).take n).length),key ((xs.toList.drop lo).take n)[k]=kk key xs (lo+k)/\k<n:=λk hk=>by
  have hk':=hk
  rw[Di] at hk'
  refine ⟨?_,by lia⟩
  have e:((xs.toList.drop lo).take n)[k]? = xs[lo+k]? := by
   rw[Ec,if_pos (by lia),Fu,B3]
  rw[BO hk] at e
  unfold kk
  rw[<- e];rfl
 obtain ⟨e1,l1⟩:=get i hi
 obtain ⟨e2,l2⟩:=get j hj
 show O.kle (key _) (key _)
 rw[e1,e2]
 exact h _ _ (by lia) (by lia) (by lia)
theorem Rn.push {a0:List Cn}{lo n:Nat}{st:CM}(R:Rn key κ a0 lo st)(hn:0<n)(hz:lo+n<=(Cq st).size)(hs:(((Cq st).toList.drop lo).take n).Pairwise (Le key)) :
  Rn key κ a0 (lo+n) (SortSt.mk' (kindOf st) (Cq st) ((CF st).push (lo,n,0)) (gallopOf st) (failedOf st)):=by
 obtain ⟨runs,rest,ea,el,er,em⟩:=R.ex
 have ed:(Cq st).toList.drop lo=rest:=by rw[ea, <- el,Hv]
 rw[ed] at hs
 have lr:n<=rest.length:=by
  have:=congrArg List.length ea
  rw[BW,BR,el] at this
  lia
 have lt:(rest.take n).length=n:=by rw[Di];lia
 refine ⟨⟨runs++[rest.take n],rest.drop n,?_,?_,λr hr =>?_,?_⟩,R.perm,R.k,R.f⟩
 ·show (Cq st).toList=_
  rw[ea];simp
 ·simp[lt,el]
 ·rcases B0.mp hr with q | q
  ·exact er r q
  ·have e:r=rest.take n:=by simpa using q
   rw[e];exact ⟨hs,by lia⟩
 ·show Mt 0 _ ((CF st).push (lo,n,0)).toList
  rw[Em]
  exact Mt.append em ⟨by show lo=_;lia,lt.symm,trivial⟩
theorem Rn.mod {a0:List Cn}{lo:Nat}{st:CM}(R:Rn key κ a0 lo st)(i:Nat)(f:Nat×Nat×Nat->Nat×Nat×Nat)(hf:∀p,(f p).1=p.1/\(f p).2.1=p.2.1):Rn key κ a0 lo (SortSt.mk' (kindOf st) (Cq st) ((CF st).modify i f) (gallopOf st) (failedOf st)):=by
 obtain ⟨runs,rest,ea,el,er,em⟩:=R.ex
 refine ⟨⟨runs,rest,ea,el,er,?_⟩,R.perm,R.k,R.f⟩
 show Mt 0 runs ((CF st).modify i f).toList
 rw[Array.toList_modify]
 exact Mt.modify f hf i em
theorem Ak {c:Prop}[Decidable c]{n:Nat}(h:1<n):(if c then n-2-1 else n-2)+1<n:=by split <;> omega
theorem mB:∀{runs:List (List Cn)},(∀r∈runs,0<r.length)->runs.length<=runs.flatten.length
 | [],_=>BS _
 | r :: rs,h=>by
  have h1:=h r Ck
  have h2:=mB λq hq=>h q (Cf _ hq)
  rw[Ek,BR,Ct]
  lia
theorem we (C:Cmp prog w A s O key U κ){a0:List Cn}{st:CM}{Q:Unit->CM->Prop}(hu:∀p∈a0,U p)(ha:(Cq st).toList=a0)(hp:CF st = #[])(hk:kindOf st=κ)(hf:failedOf st=none)(h1:1<=a0.length)
  (h:∀st',(Cq st').toList.Perm a0->(Cq st').toList.Pairwise (Le key)->failedOf st'=none->Q () st'):wpS (Cs prog w) A E s zp Q st:=by
 rw[wc]
 refine Cc (Hx ?_)
 dsimp only
 have sz0:(Cq st).size=a0.length:=by rw[<- BW,ha]
 have szR:∀{lo:Nat} {st':CM},Rn key κ a0 lo st'->(Cq st').size=(Cq st).size:=λR=>by rw[<- BW,R.perm.length_eq,sz0]
 have uR:∀{lo:Nat} {st':CM},Rn key κ a0 lo st'->∀p∈(Cq st').toList,U p:=λR p hp=>hu p (R.perm.mem_iff.mp hp)
 have R0:Rn key κ a0 0 st:=⟨⟨[],a0,by rw[ha];rfl,rfl,λr hr=>(by cases hr),by rw[hp];exact trivial⟩,by rw[ha],hk,hf⟩
 refine Cc (Et (DH (I:=λx c st'=>∃lo,c=(none,lo)/\x<=lo/\lo<=(Cq st).size/\Rn key κ a0 lo st') (Q:=λc st'=>c=(none,(Cq st).size)/\Rn key κ a0 (Cq st).size st') ?step ?fin ⟨0,rfl,BS _,CT _,R0⟩) ?post)
 case fin =>
  rintro c st' ⟨lo,rfl,l1,l2,R⟩
  obtain rfl:lo=(Cq st).size:=by lia
  exact ⟨rfl,R⟩
 case post =>
  rintro c st1 ⟨rfl,R⟩
  dsimp only
  have p0:(CF st1).size<=(Cq st).size:=by
   obtain ⟨runs,rest,ea,el,er,em⟩:=R.ex
   have q:=em.length
   rw[BW] at q
   have:=mB λr hr=>(er r hr).2
   lia
  refine Cc (Et (DH (I:=λx c st'=>c=(none,())/\Rn key κ a0 (Cq st).size st'/\((CF st').size<=1\/(CF st').size+x<=(Cq st).size)) (Q:=λc st'=>c=(none,())/\Rn key κ a0 (Cq st).size st'/\(CF st').size<=1) ?stepB ?finB ⟨rfl,R,.inr (by lia)⟩) ?postB)
  case finB =>
   rintro c st' ⟨rfl,R,q⟩
   exact ⟨rfl,R,by lia⟩
  case stepB =>
   rintro x c st' _ hx ⟨rfl,R,q⟩
   refine Cc (Hx ?_)
   by_cases c1:(CF st').size<=1
   ·rw[if_pos c1]
    exact Co ⟨rfl,R,c1⟩
   rw[if_neg c1]
   refine Cc (px C hu R (Ak (by lia)) λst2 R2 s2 _ =>?_)
   simp only[DN,Ce,if_false]
   exact Co ⟨rfl,R2,by lia⟩
  case postB =>
   rintro c st' ⟨rfl,R,q⟩
   obtain ⟨runs,rest,ea,el,er,em⟩:=R.ex
   have lm:=em.length
   rw[BW] at lm
   have lr:=congrArg List.length ea
   rw[BW,szR R,BR,el] at lr
   have er0:rest=[]:=Fg.mp (by lia)
   subst er0
   rw[CK] at ea
   match runs,er,lm,el,ea with
   | [],_,_,el,_=>simp at el;lia
   | [r],er,_,_,ea =>
    have e:(Cq st').toList=r:=by rw[ea];simp
    exact Co (h st' R.perm (by rw[e];exact (er r (by simp)).1) R.f)
   | _ :: _ :: _,_,lm,_,_=>simp at lm;lia
 case step =>
  rintro x c st1 _ hx ⟨lo,rfl,l1,l2,R⟩
  dsimp only
  by_cases cl:lo≥(Cq st).size
  ·rw[if_pos cl]
   obtain rfl:lo=(Cq st).size:=by lia
   exact Co ⟨rfl,R⟩
  rw[if_neg cl]
  have s1:=szR R
  refine Cc (yq C R.k (uR R) (by lia) (by lia) λn st2 n1 n2 sa2 up2 =>?_)
  dsimp only
  have R2:=R.sa sa2
  have s2:=szR R2
  by_cases cm:n<mrn (Cq st).size (Cq st).size 0
  case' pos =>
   rw[if_pos cm]
   refine Cc (HW (EB ⟨rfl,?_⟩))
   obtain ⟨fo,e⟩:∃fo,fo=min ((Cq st).size-lo) (mrn (Cq st).size (Cq st).size 0):=⟨_,rfl⟩
   rw[<- e]
   refine Cc (wb C R2.k (uR R2) (by lia) (by lia) up2 λst3 sa3 up3 =>?_)
   simp only[DN,Ce,if_false]
   have R3:=R2.sa sa3
   have f0:0<fo:=by lia
   have f1:lo+fo<=(Cq st).size:=by lia
  case' neg =>
   rw[if_neg cm]
   obtain ⟨fo,e⟩:∃fo,fo=n:=⟨_,rfl⟩
   subst e
   obtain ⟨st3,e3⟩:∃st3,st3=st2:=⟨_,rfl⟩
   subst e3
   have R3:=R2
   have up3:=up2
   have f0:0<fo:=n1
   have f1:lo+fo<=(Cq st).size:=by lia
  all_goals
   have srt:=uH up3
   have s3:=szR R3
   refine Cc (Hx ?_)
   cases hbk:(CF st3).back? with
   | none =>
    dsimp only
    exact Cc (EJ (Co ⟨lo+fo,rfl,by lia,f1,R3.push f0 (by lia) srt⟩))
   | some t =>
    obtain ⟨t1,t2,t3⟩:=t
    dsimp only
    refine Cc (Et (DH (I:=λ_ c st'=>c=(none,())/\Rn key κ a0 lo st'/\(Cq st').toList.drop lo=(Cq st3).toList.drop lo) (Q:=λc st'=>c=(none,())/\Rn key κ a0 lo st'/\(Cq st').toList.drop lo=(Cq st3).toList.drop lo) ?stepC ?finC ⟨rfl,R3,rfl⟩) ?postC)
    case finC=>exact λc st' q=>q
    case stepC =>
     rintro z c st4 _ _ ⟨rfl,R4,d4⟩
     refine Cc (Hx ?_)
     by_cases p1:(CF st4).size>1
     ·rw[if_pos p1]
      have lt:(CF st4).size-2<(CF st4).size:=by lia
      have e:(CF st4)[(CF st4).size-2]? = some (CF st4)[(CF st4).size-2]:=by simp[lt]
      rw[e]
      dsimp only
      split
      ·exact Co ⟨rfl,R4,d4⟩
      ·refine Cc (px C hu R4 (by lia) λst5 R5 _ d5 =>?_)
       simp only[DN,Ce,if_false]
       exact Co ⟨rfl,R5,d5.trans d4⟩
     ·rw[if_neg p1]
      exact Co ⟨rfl,R4,d4⟩
    case postC =>
     rintro c st4 ⟨rfl,R4,d4⟩
     dsimp only
     have s4:=szR R4
     refine Cc (EJ (Cc (EJ (Co ⟨lo+fo,rfl,by lia,f1,?_⟩))))
     refine Rn.push ?_ f0 ?_ ?_
     ·refine Rn.mod R4 _ _ ?_
      exact λp=>⟨rfl,rfl⟩
     ·show lo+fo<=(Cq st4).size
      lia
     ·show (((Cq st4).toList.drop lo).take fo).Pairwise (Le key)
      rw[d4]
      exact srt
end
open PySem PyProof.Rows
structure ip (prog:Ca)(w:CJ)(s:BQ)(vs:List BM)(O:G9)(key:BM->O.α):Prop where
 ok:2<=vs.length->∀(A:Dd) (h6:Heap),(∀b o,s.heap.get? b=some o->h6.get? b=some o)->∃κ,(∀(Q:SortKind->BQ->Prop) (E:BM->BQ->Prop),Q κ { s with heap:=h6 }->Ci (Cs prog w) A (keyKind' vs.toArray) Q E { s with heap:=h6 }) ∧
  Cmp prog w A { s with heap:=h6 } O (λp=>key p.1) (λp=>p.1=p.2/\p.1∈vs) κ
section
variable  {prog:Ca}{w:CJ}{A:Dd}{E:BM->BQ->Prop}{s:BQ}{O:G9}{key:BM->O.α}
theorem zs:∀vs:List BM,(vs.zip vs).map (·.2)=vs
 | []=>rfl
 | v :: vs=>by rw[Gh,CC,zs vs]
theorem pz {l:List Cn}{vs:List BM}(h:l.Perm (vs.zip vs)):(l.map (·.2)).Perm vs/\∀p∈l,p.1=p.2/\p.1∈vs:=by
 have e:=zs vs
 refine ⟨by have:=h.map (·.2);rw[e] at this;exact this,λp hp =>?_⟩
 have m:=h.mem_iff.mp hp
 obtain ⟨i,hi⟩:=CW.mp m
 rw[Hu] at hi
 have e1:=hi.1.symm.trans hi.2
 exact ⟨Cw e1,BV hi.1⟩
theorem d8 {a:Addr}{vs:List BM}{n:Nat}{P:Fin->BQ->Prop}(ho:s.heap.get? a=some (seqObj "list" vs.toArray n))(hz:vs.length<=B4)
    (hc:2<=vs.length->∀h6,(∀b o,b≠a->s.heap.get? b=some o->h6.get? b=some o)->∃κ,(∀(Q:SortKind->BQ->Prop) (E:BM->BQ->Prop),Q κ { s with heap:=h6 }->Ci (Cs prog w) A (keyKind' vs.toArray) Q E { s with heap:=h6 }) ∧
      Cmp prog w A { s with heap:=h6 } O (λp=>key p.1) (λp=>p.1=p.2/\p.1∈vs) κ)
    (h:∀out:List BM,out.Perm vs->out.Pairwise (λx y=>O.kle (key x) (key y))->P (.done (.ret .none)) { s with heap:=sortedHeap s.heap a vs out.toArray }):Ci (Cs prog w) A (Builtin.«list.sort» ⟨[.ref a],[]⟩) P E s:=by
  rw[list_sort_plain]
  have ha:a<s.heap.objs.size:=B2 ho
  refine BJ (JY ho rfl ?_)
  refine BJ (JC ho rfl ?_ (by rw[BX];exact hz) (CT _))
  obtain ⟨e1,ho1⟩:∃e1,(s.heap.update a (DU λ_ => #[])).get? a=some (seqObj "list" #[] e1):=⟨_,get?_update_seq ho (λ_ => #[])⟩
  refine BJ (seqEpoch_at ho1 rfl (BJ (wpAny_newTuple ?_ (by exact hz))))
  refine BJ (G4 ?_ (CT _))
  refine Dj ?_
  generalize hH:((s.heap.update a (DU λ_ => #[])).push (seqObj "tuple" vs.toArray 0)).push (seqObj "list" #[] 0)=h6
  have kp:∀b o,b≠a->s.heap.get? b=some o->h6.get? b=some o:=λb o nb e=>by
    rw[<- hH]
    refine BL _ (BL _ ?_)
    rw[Jc _ _ _ _ nb]
    exact e
  have ho6:h6.get? a=some (seqObj "list" #[] e1):=by
    rw[<- hH]
    exact BL _ (BL _ ho1)
  have eH:∀out:List BM,sortedHeap s.heap a vs out.toArray=h6.update a (DU λ_=>out.toArray):=λout=>by rw[<- hH];rfl
  have go:∀st':CM,(Cq st').toList.Perm (vs.zip vs)->(Cq st').toList.Pairwise (λp q=>O.kle (key p.1) (key q.1))->failedOf st'=none →
      Ci (Cs prog w) A (do
        let sorted:=(Cq st').map (·.2)
        let touched:=(← seqEpoch a) != e1
        Builtin.List.listUpdate (.ref a) λ_=>sorted
        if let some e:=failedOf st' then rule "list.sort.comparison-raised";throw e
        if touched then rule "list.sort.modified";raiseError "ValueError" "list modified during sort"
        ret .none) P E { s with heap:=h6 }:=by
    intro st' pm ps hf
    obtain ⟨z1,z2⟩:=pz pm
    have em:(Cq st').map (·.2)=((Cq st').toList.map (·.2)).toArray:=by
      apply Ka.mp
      rw[GV]
    dsimp only
    refine BJ (seqEpoch_at ho6 rfl ?_)
    refine BJ (JC ho6 rfl ?_ (CT _) (by rw[C9, <- BW,pm.length_eq,Kl,Iw];lia))
    rw[hf]
    simp only[bne_self_eq_false,Ce,if_false]
    refine BN ?_
    rw[em, <- eH]
    refine h _ z1 (Dh.mpr (ps.imp_of_mem λ{p q} hp hq le =>?_))
    rw[<- (z2 p hp).1, <- (z2 q hq).1]
    exact le
  by_cases h2:vs.toArray.size<2
  · rw[if_pos h2,if_pos h2]
    refine BJ (BN ?_)
    dsimp only
    rw[StateT.run_pure]
    refine BJ (BN ?_)
    refine go (SortSt.mk' general' (vs.toArray.zip vs.toArray) #[] 7 none) (by show (vs.toArray.zip vs.toArray).toList.Perm _;simp) ?_ rfl
    rw[BX] at h2
    have et:(vs.toArray.zip vs.toArray).toList=vs.zip vs:=by simp
    show (vs.toArray.zip vs.toArray).toList.Pairwise (λ(p q:Cn)=>O.kle (key p.1) (key q.1))
    rw[et]
    have short:∀us:List BM,us.length<2->(us.zip us).Pairwise (λ(p q:Cn)=>O.kle (key p.1) (key q.1)):=λus hu=>by
      match us,hu with
      | [],_=>exact List.Pairwise.nil
      | [v],_=>exact Ea _ _
      | _ :: _ :: _,hu=>simp only[Ct] at hu;lia
    exact short vs h2
  · rw[if_neg h2,if_neg h2]
    rw[BX] at h2
    obtain ⟨κ,k1,C⟩:=hc (by lia) h6 kp
    refine BJ (k1 _ _ ?_)
    have et:(vs.toArray.zip vs.toArray).toList=vs.zip vs:=by simp
    refine BJ (DT (we C (E:=E) (a0:=vs.zip vs) (st:=SortSt.mk' κ (vs.toArray.zip vs.toArray) #[] 7 none)
      (Q:=λ_ st'=>(Cq st').toList.Perm (vs.zip vs)/\(Cq st').toList.Pairwise (Le λ(p:Cn)=>key p.1)/\failedOf st'=none)
      (pz (FR _)).2 et rfl rfl rfl (by rw[Kl,Iw];lia) λst' a1 a2 a3=>⟨a1,a2,a3⟩) ?_ λ_ _ e=>e)
    rintro ⟨⟨⟩,st'⟩ s' ⟨rfl,hp,hs,hf⟩
    exact go st' hp hs hf
def pB (prog:Ca)(w:CJ)(s:BQ)(v:BM)(vs:List BM):Prop :=
 ∀(A:Dd) (E:BM->BQ->Prop) (R:List BM->BQ->Prop),(∀h1,(∀b o,s.heap.get? b=some o->h1.get? b=some o)->s.heap.objs.size<=h1.objs.size->R vs { s with heap:=h1 })->Ci (Cs prog w) A (collect v) R E s
theorem j9 {v:BM}{vs:List BM}{Q:BM->BQ->Prop}(hv:pB prog w s v vs)(hz:vs.length<=B4)(C:ip prog w s vs O key)
  (h:∀(h':Heap) (p:Addr) (out:List BM) (n:Nat),(∀b o,s.heap.get? b=some o->h'.get? b=some o)->s.heap.objs.size<=p->h'.get? p=some (seqObj "list" out.toArray n)->out.Perm vs->out.Pairwise (λx y=>O.kle (key x) (key y))->Q (.ref p) { s with heap:=h' }) :
  Ci (Cs prog w) A (call (.builtin "sorted") [v]) Q E s:=by
 refine FT Kw JZ J0 (J1 _) ?_
 unfold Builtin.«sorted»
 refine BJ (m:=checkCount "sorted" 1 1 _) (BN ?_)
 refine BJ (hv _ _ _ λh1 k1 z1=>BJ (G4 ?_ hz))
 have hoL:(h1.push (seqObj "list" vs.toArray 0)).get? h1.objs.size=some (seqObj "list" vs.toArray 0):=BZ _ rfl
 have kL:∀b o,s.heap.get? b=some o->(h1.push (seqObj "list" vs.toArray 0)).get? b=some o:=λb o e=>BL _ (k1 b o e)
 refine BJ (Dj (DS slot_list_sort ⟨_,hoL,rfl⟩ entry_list_sort (d8 (key:=key) (O:=O) hoL hz (λh2 h6 k6 =>?_) λout pm ps=>⟨_,rfl,?_⟩) (IY _)))
 ·exact C.ok h2 _ h6 λb o e=>k6 b o (Cb (Cj (B2 e) z1)) (kL b o e)
 ·obtain ⟨n,en⟩:=JD (out:=out.toArray) hoL
  refine BN ⟨_,rfl,h _ _ out n (λb o e =>?_) z1 en pm ps⟩
  have lt:=Cj (B2 e) z1
  rw[IZ (Cb lt) (by rw[JT];exact C8 lt)]
  exact kL b o e
theorem iq {l:Addr}{o:Obj}{vs:List BM}{n:Nat}(ho:s.heap.get? l=some o)(hc:o.cls = .type "list" \/ o.cls = .type "tuple")(hd:o.data = .seq vs.toArray n)(hz:vs.length<=B4):pB prog w s (.ref l) vs:=by
  intro A E R h
  unfold collect
  refine BJ (Fp (CQ entry_proto_collect' ?_))
  show Ci _ _ (do again (.builtin "list.__iadd__" ⟨[<- newList [],.ref l],[]⟩)) _ _ s
  refine BJ (G4 (BN ⟨Gq _ (by decide +kernel),CQ entry_list_iadd' ?_⟩))
  show Ci _ _ (CA (.ref s.heap.objs.size) (.ref l) (.ref s.heap.objs.size)) _ _ { s with heap:=s.heap.push (seqObj "list" #[] 0) }
  unfold CA
  have ho':(s.heap.push (seqObj "list" #[] 0)).get? l=some o:=BL _ ho
  have cond:∀T,o.cls = .type T->(T = "list" \/ T = "tuple")->Ci (Cs prog w) A (typeOf (.ref l)) (λt s'=>t = .type T/\s'={ s with heap:=s.heap.push (seqObj "list" #[] 0) }) E { s with heap:=s.heap.push (seqObj "list" #[] 0) }:=λT e _=>D7 (T:=T) ⟨o,ho',e⟩ ⟨rfl,rfl⟩
  obtain ⟨T,eT,hT⟩:∃T,o.cls = .type T/\(T = "list" \/ T = "tuple"):=by
    rcases hc with hc | hc
    · exact ⟨_,hc,.inl rfl⟩
    · exact ⟨_,hc,.inr rfl⟩
  refine BJ (D7 (T:=T) ⟨o,ho',eT⟩ ?_)
  rw[if_pos (by rcases hT with rfl | rfl <;> simp)]
  refine BJ (JY ho' hd ?_)
  refine BJ (JY (xs := #[]) (n:=0) (BZ _ rfl) rfl ?_)
  rw[if_neg (by simp)]
  refine BJ (JC (xs := #[]) (n:=0) (BZ _ rfl) rfl ?_ (CT _) (by show (#[]++vs.toArray).size<=B4+1;simp only[FE,BX,Eu];lia))
  refine BN ?_
  show Ci (Cs prog w) A (do
      let o ← load s.heap.objs.size
      match o.data with
      | .seq xs _=>pure xs.toList
      | _=>unsupported "internal:collect") R E { s with heap:=(s.heap.push (seqObj "list" #[] 0)).update s.heap.objs.size (DU (· ++ vs.toArray)) }
  refine BJ (HJ (get?_update_seq (BZ _ rfl) _) ?_)
  show Ci _ _ (pure ((#[]:Array BM)++vs.toArray).toList) R E _
  rw[show ((#[]:Array BM)++vs.toArray).toList=vs by simp]
  refine BN (h _ (λb ob e =>?_) ?_)
  · rw[Jc _ _ _ _ (Cb (B2 e))]
    exact BL _ e
  · rw[Heap.size_update,JT]
    exact HL _
end
open PySem PyProof.Rows
def nO:G9 where
 α:=Int
 blt:=λa b=>decide (a<b)
 irrefl:=λa=>by simp
 trans:=λa b c h1 h2=>by simp at *;lia
 negTrans:=λa b c h=>by simp at *;lia
 total:=λa b h1 h2=>by simp at *;lia
theorem lex_irrefl:∀a,HT.lexLt a a=false
 | []=>rfl
 | x :: xs=>by rw[HT.cX,if_pos rfl];exact lex_irrefl xs
theorem lex_trans:∀a b c,HT.lexLt a b=true->HT.lexLt b c=true->HT.lexLt a c=true
 | [],[],_,h,_=>by cases h
 | [],_ :: _,[],_,h=>by cases h
 | [],_ :: _,_ :: _,_,_=>rfl
 | _ :: _,[],_,h,_=>by cases h
 | _ :: _,_ :: _,[],_,h=>by cases h
 | x :: xs,y :: ys,z :: zs,h1,h2=>by
  rw[HT.cX] at *
  by_cases e1:x=y
  ·subst e1
   rw[if_pos rfl] at h1
   by_cases e2:x=z
   ·rw[if_pos e2] at h2 ⊢
    exact lex_trans xs ys zs h1 h2
   ·rw[if_neg e2] at h2 ⊢
    exact h2
  ·rw[if_neg e1] at h1
   have l1:=of_decide_eq_true h1
   by_cases e2:y=z
   ·subst e2
    rw[if_neg e1]
    exact h1
   ·rw[if_neg e2] at h2
    have l2:=of_decide_eq_true h2
    rw[if_neg (by omega)]
    exact decide_eq_true (by omega)
theorem gu:∀a b,HT.lexLt a b=false->HT.lexLt b a=false->a=b
 | [],[],_,_=>rfl
 | [],_ :: _,h,_=>by cases h
 | _ :: _,[],_,h=>by cases h
 | x :: xs,y :: ys,h1,h2=>by
  rw[HT.cX] at *
  by_cases e:x=y
  ·subst e
   rw[if_pos rfl] at h1 h2
   rw[gu xs ys h1 h2]
  ·rw[if_neg e] at h1
   rw[if_neg (Dq e)] at h2
   have a1:=of_decide_eq_false h1
   have a2:=of_decide_eq_false h2
   omega
theorem yr (a b c:List Int)(h:HT.lexLt a c=true):HT.lexLt a b=true\/HT.lexLt b c=true:=by
 cases h1:HT.lexLt a b with
 | true=>exact .inl rfl
 | false =>
  right
  cases h2:HT.lexLt b a with
  | true=>exact lex_trans b a c h2 h
  | false=>rw[<- gu a b h1 h2];exact h
def lexOrd:G9 where
 α:=List Int
 blt:=HT.lexLt
 irrefl:=lex_irrefl
 trans:=lex_trans
 negTrans:=yr
 total:=gu
def intOf:BM->Int
 | .int i _=>i
 | _=>0
section
variable  {prog:Ca}{w:CJ}{A:Dd}{E:BM->BQ->Prop}{s:BQ}
theorem fJ:∀{vs:List BM} {ns:List Int},Ez vs ns->∀v∈vs,∃i t,v = .int i t
 | _,_,.nil,v,h=>by cases h
 | _,_,.cons n t r,v,h=>by
  rcases Cg.mp h with e | e
  ·exact ⟨n,t,e⟩
  ·exact fJ r v e
theorem e6 {vs:List BM}{ns:List Int}(hI:Ez vs ns):ip prog w s vs nO intOf:=by
 refine ⟨λh2 A h6 _=>⟨oneType',λQ E q =>?_,⟨λE st x y Q hk hx hy q =>?_⟩⟩⟩
 ·match vs,h2,hI with
  | v1 :: v2 :: rest,_,hI =>
   rw[keyKind_ints hI]
   exact BN q
  | [],h2,_=>simp at h2
  | [_],h2,_=>simp at h2
 ·obtain ⟨i,t,e1⟩:=fJ hI _ hx.2
  obtain ⟨j,u,e2⟩:=fJ hI _ hy.2
  rw[lt'_eq]
  refine Cc (Hx ?_)
  rw[hk,keyLt'_oneType,e1,e2]
  refine Cc (HW (FJ (oneLt_int ⟨rfl,?_⟩)))
  refine Co ?_
  have q':Q (some (decide (intOf x.1<intOf y.1))) st:=q
  rw[e1,e2] at q'
  exact q'
def de (h:Heap)(v:BM):List Int:=match v with
 | .ref p=>match h.get? p with
  | some o=>match o.data with
   | .seq xs _=>xs.toList.map intOf
   | _=>[]
  | none=>[]
 | _=>[]
def dM (h:Heap)(v:BM)(ns:List Int):Prop:=∃p o xs n,v = .ref p/\h.get? p=some o/\o.cls = .type "tuple" /\ o.data = .seq xs n/\Ez xs.toList ns
theorem ints_map:∀{vs:List BM} {ns:List Int},Ez vs ns->vs.map intOf=ns
 | _,_,.nil=>rfl
 | _,_,.cons n t r=>by rw[CC,ints_map r];rfl
theorem dM.ints {h:Heap}{v:BM}{ns:List Int}(x:dM h v ns):de h v=ns:=by
 obtain ⟨p,o,xs,n,rfl,e,_,d,r⟩:=x
 unfold de
 dsimp only
 rw[e]
 dsimp only
 rw[d]
 exact ints_map r
theorem dM.keeps {h h':Heap}{v:BM}{ns:List Int}(x:dM h v ns)(k:∀b o,h.get? b=some o->h'.get? b=some o):dM h' v ns:=by
 obtain ⟨p,o,xs,n,rfl,e,r⟩:=x
 exact ⟨p,o,xs,n,rfl,k _ _ e,r⟩
theorem pC {fin:Bool}{Q:Bool->BQ->Prop}:∀{us ws:List BM} {ns ms:List Int} (i:Nat),Ez us ns->Ez ws ms->(fin=true↔(decide (ns.length<ms.length)=true))->Q (HT.lexLt ns ms) s →
  PySem.W.KatLex prog w A true fin Q (us.zip ws) i s
 | _,_,_,_,i,.nil,.nil,hf,q=>by
  refine Iy ?_
  have e:fin=false:=by cases fin with
   | false=>rfl
   | true=>have:=hf.mp rfl;simp at this
  rw[e];exact q
 | _,_,_,_,i,.nil,.cons _ _ _,hf,q=>by
  refine Iy ?_
  have e:fin=true:=hf.mpr (by simp)
  rw[e];exact q
 | _,_,_,_,i,.cons _ _ _,.nil,hf,q=>by
  refine Iy ?_
  have e:fin=false:=by cases fin with
   | false=>rfl
   | true=>have:=hf.mp rfl;simp at this
  rw[e];exact q
 | _,_,_,_,i,.cons (ns:=ns) a t r,.cons (ns:=ms) c u r',hf,q=>by
  rw[Gh]
  refine PySem.W.kat_cons (wpAny_eqBool_int ?_)
  rw[HT.cX] at q
  by_cases e:a=c
  ·rw[if_pos e] at q
   rw[beq_iff_eq.mpr e]
   exact PySem.W.kat_yes (pC (i+1) r r' (by rw[hf];simp) q)
  ·rw[if_neg e] at q
   rw[beq_eq_false_iff_ne.mpr e]
   refine PySem.W.kat_no ?_
   by_cases i0:(true && i == 0)=true
   ·rw[i0]
    exact oneLt_int q
   ·rw[E4.mpr i0,oneLt'_eq]
    simp only[Ce,if_false]
    refine BJ (HT.o8 _ _ a t c u prog w _ _ ?_)
    exact DL q
theorem kg {h:Heap}:∀{vs:List BM},(∀v∈vs,∃ns,dM h v ns/\ns≠[])->∃fs,PySem.W.KatTups h vs fs/\fs.length=vs.length/\∀f∈fs,∃i t,f = .int i t
 | [],_=>⟨[],trivial,rfl,λf hf=>by cases hf⟩
 | v :: vs,hv=>by
  obtain ⟨fs,t,l,hf⟩:=kg λu hu=>hv u (Cf _ hu)
  obtain ⟨ns,⟨p,o,xs,n,rfl,e,c,d,r⟩,ne⟩:=hv v Ck
  have hx:∃i t,xs[0]? = some (.int i t):=by
   rw[<- B3]
   generalize xs.toList=l at r
   cases r with
   | nil=>exact absurd rfl ne
   | cons i t r=>exact ⟨i,t,rfl⟩
  obtain ⟨i,t',hx⟩:=hx
  exact ⟨.int i t' :: fs,KW e c d hx t,by rw[Ct,Ct,l],λf hf'=>by
   rcases Cg.mp hf' with q | q
   ·exact ⟨i,t',q⟩
   ·exact hf f q⟩
theorem ir {vs:List BM}(hv:∀v∈vs,∃ns,dM s.heap v ns/\ns≠[]):ip prog w s vs lexOrd (de s.heap):=by
 refine ⟨λh2 A h6 k6=>⟨tuples' true,λQ E q =>?_,⟨λE st x y Q hk hx hy q =>?_⟩⟩⟩
 ·obtain ⟨fs,t,l,hf⟩:=kg (h:=h6) (vs:=vs) λv hv'=>by
   obtain ⟨ns,i,ne⟩:=hv v hv'
   exact ⟨ns,i.keeps k6,ne⟩
  refine PySem.W.kat_kind (T :=.type "int") t (by lia) (λf hf' =>?_) rfl q
  obtain ⟨i,t',rfl⟩:=hf f hf'
  exact KU rfl
 ·obtain ⟨ns,i1,_⟩:=hv _ hx.2
  obtain ⟨ms,i2,_⟩:=hv _ hy.2
  have q':Q (some (HT.lexLt (de s.heap x.1) (de s.heap y.1))) st:=q
  rw[i1.ints,i2.ints] at q'
  obtain ⟨p1,o1,xs1,n1,e1,g1,c1,d1,r1⟩:=i1.keeps k6
  obtain ⟨p2,o2,xs2,n2,e2,g2,c2,d2,r2⟩:=i2.keeps k6
  rw[lt'_eq]
  refine Cc (Hx ?_)
  rw[hk,e1,e2]
  have l1:=r1.length
  have l2:=r2.length
  refine Cc (HW (FJ (PySem.W.kat_lt g1 d1 g2 d2 (pC 0 r1 r2 ?_ ⟨rfl,?_⟩))))
  ·rw[<- l1, <- l2,BW,BW]
  ·exact Co q'
end
end Srt
namespace L2
open PySem PySem.Spec PyProof.Rows
theorem kh {α β:Type}{f:α -> β}:∀{l:List β} {m:List α},l.Perm (m.map f)->∃m':List α,m'.Perm m/\l=m'.map f:=by
 intro l m h
 generalize hk:m.map f=k at h
 induction h generalizing m with
 | nil =>
  have:m=[]:=List.map_eq_nil_iff.mp hk
  exact ⟨[],by rw[this],rfl⟩
 | cons x _ ih =>
  match m,hk with
  | y :: m,hk =>
   rw[CC] at hk
   injection hk with h1 h2
   obtain ⟨m',p,e⟩:=ih h2
   exact ⟨y :: m',p.cons y,by rw[CC, <- e,h1]⟩
  | [],hk=>cases hk
 | swap x y l =>
  match m,hk with
  | a :: b :: m,hk =>
   rw[CC,CC] at hk
   injection hk with h1 h2
   injection h2 with h2 h3
   exact ⟨b :: a :: m,List.Perm.swap a b m,by rw[CC,CC,h1,h2,h3]⟩
  | [],hk=>cases hk
  | [_],hk=>simp at hk
 | trans _ _ ih1 ih2 =>
  obtain ⟨m',p,e⟩:=ih2 hk
  obtain ⟨m'',p',e'⟩:=ih1 e.symm
  exact ⟨m'',p'.trans p,e'⟩
theorem cn:∀{ns:List Int} {us:List BM},Vals (ns.map V.int) us->Ez us ns:=λr=>intsAre_of r
theorem dC:∀{us:List BM} {ns:List Int},Ez us ns->Vals (ns.map V.int) us:=λr=>iO r
theorem cY:∀{us:List BM},(∀u∈us,∃i t,u=DE i t)->Ez us (us.map Srt.intOf)
 | [],_ =>.nil
 | u :: us,h=>by
  obtain ⟨i,t,e⟩:=h u Ck
  subst e
  exact .cons i t (cY λv hv=>h v (Cf _ hv))
theorem eD:∀{α:Type} {f:α -> Addr} {ps:List α} {us:List BM},Vals (ps.map λx=>V.ref (f x)) us->us=ps.map λx=>Cd (f x)
 | _,_,[],_,r=>by cases r;rfl
 | _,f,p :: ps,_,r=>by
  cases r with
  | cons h t=>rw[CC, <- eD t,show _=Cd (f p) from h]
theorem gv {α:Type}{f:α -> Addr}:∀{ps:List α},Vals (ps.map λx=>V.ref (f x)) (ps.map λx=>Cd (f x))
 | [] =>.nil
 | p :: ps =>.cons rfl gv
section
variable  {X:Cx}
theorem Inv.pD {pins:List (Addr×Obj)}{σ:St}{H:Hp}{s:BQ}{p:Addr}{ys:List V}(I:Inv X pins σ H s)(h:SqL X.K H p ys\/SqT X.K H p ys) :
  ∃(its:List BM) (o:Obj) (n:Nat),Vals ys its/\s.heap.get? p=some o/\(o.cls = .type "list" \/ o.cls = .type "tuple")/\o.data = .seq its.toArray n/\ys.length<=B4:=by
 rcases h with h | h
 ·obtain ⟨its,r,⟨o,n,e,c,_,d⟩,z⟩:=I.list h
  exact ⟨its,o,n,r,e,.inl c,d,z⟩
 ·obtain ⟨its,r,⟨o,e,c,n,d⟩,z⟩:=I.tuple h
  exact ⟨its,o,n,r,e,.inr c,d,z⟩
theorem Inv.newList {pins:List (Addr×Obj)}{σ:St}{H:Hp}{s:BQ}{h':Heap}{p:Addr}{ys:List V}{its:List BM}{n:Nat}(I:Inv X pins σ H s)(k:∀b o,s.heap.get? b=some o->h'.get? b=some o)(hp:s.heap.objs.size<=p)
  (e:h'.get? p=some { cls :=.type "list",data :=.seq its.toArray n }) (r:Vals ys its) (hz:ys.length<=B4):Inv X pins σ (upd H p (.lst ys)) { s with heap:=h' } :=
 I.laid (t':=s.toks) k hp ⟨hz,its,n,r,e⟩
theorem nP:bC X (.builtin "sorted") (λxs H Q=>∃(p:Addr) (ns:List Int),xs=[.ref p]/\(SqL X.K H p (ns.map V.int)\/SqT X.K H p (ns.map V.int))/\∀(l:Addr) (out:List Int),H l=none->out.Perm ns->out.Pairwise (· <= ·)->Q (.ref l) (upd H l (.lst (out.map V.int)))):=by
 intro pins s σ H xs us Q I r h
 obtain ⟨p,ns,rfl,hs,q⟩:=h
 obtain ⟨u,rfl,ru⟩:=vals1 r
 cases (show u=Cd p from ru)
 obtain ⟨its,o,n,rv,e,c,d,z⟩:=I.pD hs
 have hI:=cn rv
 have lz:its.length<=B4:=by rw[<- rv.length];exact z
 refine Srt.j9 (Srt.iq e c d lz) lz (Srt.e6 hI) λh' l out m k hl el pm ps =>?_
 have hm:∀v∈out,∃i t,v=DE i t:=λv hv=>Srt.fJ hI v (pm.mem_iff.mp hv)
 have hO:=cY hm
 have pm':(out.map Srt.intOf).Perm ns:=by
  have:=pm.map Srt.intOf
  rw[Srt.ints_map hI] at this
  exact this
 refine ⟨.ref l,_,I.newList k hl el (dC hO) (by rw[BK,pm'.length_eq, <- BK (f:=V.int)];exact z),rfl,q l _ (I.hok.fresh hl) pm' ?_⟩
 refine Dh.mpr (ps.imp λ{x y} le =>?_)
 have le':decide (Srt.intOf y<Srt.intOf x)=false:=le
 have:=of_decide_eq_false le'
 lia
theorem fc:bC X (.builtin "sorted") (λxs H Q=>∃(p:Addr) (ts:List (Addr×List Int)),xs=[.ref p]/\(SqL X.K H p (ts.map λt =>.ref t.1)\/SqT X.K H p (ts.map λt =>.ref t.1))/\(∀t∈ts,SqT X.K H t.1 (t.2.map V.int)/\t.2≠[]) ∧
  ∀(l:Addr) (out:List (Addr×List Int)),H l=none->out.Perm ts->out.Pairwise (λa b=>HT.lexLt b.2 a.2=false)->Q (.ref l) (upd H l (.lst (out.map λt =>.ref t.1)))):=by
 intro pins s σ H xs us Q I r h
 obtain ⟨p,ts,rfl,hs,ht,q⟩:=h
 obtain ⟨u,rfl,ru⟩:=vals1 r
 cases (show u=Cd p from ru)
 obtain ⟨its,o,n,rv,e,c,d,z⟩:=I.pD hs
 have ei:=eD rv
 have lz:its.length<=B4:=by rw[<- rv.length];exact z
 have tup:∀t∈ts,Srt.dM s.heap (Cd t.1) t.2:=λt hm=>by
  obtain ⟨jts,jr,⟨jo,je,jc,jn,jd⟩,_⟩:=I.tuple (ht t hm).1
  exact ⟨t.1,jo,_,jn,rfl,je,jc,jd,by simpa using cn jr⟩
 have hv:∀v∈its,∃ns,Srt.dM s.heap v ns/\ns≠[]:=λv hv=>by
  rw[ei] at hv
  obtain ⟨t,hm,rfl⟩:=Cv.mp hv
  exact ⟨t.2,tup t hm,(ht t hm).2⟩
 refine Srt.j9 (Srt.iq e c d lz) lz (Srt.ir hv) λh' l out m k hl el pm ps =>?_
 rw[ei] at pm
 obtain ⟨out',pm',rfl⟩:=kh pm
 refine ⟨.ref l,_,I.newList k hl el gv (by rw[BK,pm'.length_eq, <- BK (f:=λt:Addr×List Int=>V.ref t.1)];exact z),rfl,q l _ (I.hok.fresh hl) pm' ?_⟩
 refine (Dh.mp ps).imp_of_mem λ{a b} ha hb le =>?_
 have le':HT.lexLt (Srt.de s.heap (Cd b.1)) (Srt.de s.heap (Cd a.1))=false:=le
 rw[(tup a (pm'.mem_iff.mp ha)).ints,(tup b (pm'.mem_iff.mp hb)).ints] at le'
 exact le'
end
open PySem PySem.Spec PyProof.Rows
def SB (r:Addr)(H H':Hp):Prop:=∀b u,b≠r->H b=some u->H' b=some u
theorem SB.refl (r:Addr)(H:Hp):SB r H H:=λ_ _ _ h=>h
theorem SB.trans {r:Addr}{H H1 H2:Hp}(a:SB r H H1)(b:SB r H1 H2):SB r H H2:=λc u n h=>b c u n (a c u n h)
theorem SB.put {r:Addr}{H:Hp}(o:HO):SB r H (upd H r o):=λc u n h=>by rw[aE n];exact h
def Tp (H H':Hp):Prop:=∀b xs,H b=some (.tup xs)->H' b=some (.tup xs)
theorem aD.tp {H H':Hp}(a:aD H H'):Tp H H':=λc u h=>a c _ h
def mnI (a b:Int):Int:=if b<a then b else a
def mxI (a b:Int):Int:=if b>a then b else a
def nrm (a b:Int):List Int:=[mnI a b,mxI a b]
theorem dO (a b:Int):nrm a b=nrm b a:=by
 have h1:mnI a b=mnI b a:=by unfold mnI;split <;> split <;> lia
 have h2:mxI a b=mxI b a:=by unfold mxI;split <;> split <;> lia
 unfold nrm
 rw[h1,h2]
open PySem PySem.Spec PyProof.Rows
section
variable  {X:Cx}{tg:Expr}
def iSeq (K:BP)(tl:TE):TI:=λσ H R=>tl σ H λx H1=>∃a,x = .ref a/\(((∃xs,SqL K H1 a xs)/\R (Itl K a) H1)\/((∃xs,SqT K H1 a xs)/\R (Itt K a) H1))
theorem Am {l:Expr}{tl:TE}(hl:PE X l tl):PI X tg l (iSeq X.K tl):=by
 intro pins s σ H R I h;refine thn (hl pins s σ H _ I h) λv s1 ⟨x,H1,I1,r1,q1⟩ =>?_
 obtain ⟨a,e,q1⟩:=q1
 subst e
 cases r1
 have fp:∀b∈[s1.heap.objs.size],lE X pins H1 b:=λb hb=>by
  have e:b=s1.heap.objs.size:=by simpa using hb
  rw[e];exact I1.xR (BS _) (I1.hok.fresh (BS _))
 rcases q1 with ⟨⟨xs,hq⟩,q⟩ | ⟨⟨xs,hq⟩,q⟩
 ·obtain ⟨its,rv,p,hz⟩:=I1.list hq;refine E8 p.isList ?_
  exact ⟨s1.heap.objs.size,_,_,_,H1,rfl,I1.kept (t':=s1.toks) (λb o e=>BL _ e),ma a _,⟨_,BZ _ rfl,rfl,rfl⟩,fp,q⟩
 ·obtain ⟨its,rv,p,hz⟩:=I1.tuple hq;refine EW (show s1.heap.IsTuple a its.toArray from p) ?_
  exact ⟨s1.heap.objs.size,_,_,_,H1,rfl,I1.kept (t':=s1.toks) (λb o e=>BL _ e),jR a _,⟨_,BZ _ rfl,rfl,rfl⟩,fp,q⟩
end
theorem uI {K:BP}{a:Addr}{xs:List V}{k:Nat}{tc:TT}{te:TE}{τ:St}{H:Hp}{Q:VK}(Pv:Nat->List V->Hp->Prop)(hp:H a=some (.lst xs)\/H a=some (.tup xs))(h0:Pv 0 [] H)(hz:xs.length<=B4)
  (hl:∀i ys H',Pv i ys H'->H' a=H a) (hs:∀i x ys H,xs[i]? = some x->ys.length<=i->Pv i ys H->sI k tc te τ Pv i x ys H)
  (hd:∀ys H,ys.length<=xs.length->Pv xs.length ys H->∀l,H l=none->Q (.ref l) (upd H l (.lst ys))) :
  ((∃xs,SqL K H a xs)/\j4 (Itl K a) (fG k) tc te τ Q H)\/((∃xs,SqT K H a xs)/\j4 (Itt K a) (fG k) tc te τ Q H):=by
 rcases hp with hp | hp
 ·exact .inl ⟨⟨_,SqL.of hp⟩,bV Pv h0 hz (λi ys H' _ z=>SqL.of ((hl i ys H' z).trans hp)) hs hd⟩
 ·exact .inr ⟨⟨_,SqT.of hp⟩,cF Pv h0 hz (λi ys H' _ z=>SqT.of ((hl i ys H' z).trans hp)) hs hd⟩
theorem pE {X:Cx}{K:BP}{x y:Str}{i j k:Nat}{p p' pos:Pos}(hN:X.N.Nodup)(hi:X.N[i]? = some x)(hj:X.N[j]? = some y)(hx:Loc X.env.scope x)(hy:Loc X.env.scope y)(hc:X.calm=true:=by rfl)(h:X.K=K:=by rfl)
  (hf:X.fn x=true\/X.env.scope.names.lookup x=some .local:=by first | exact .inl rfl | exact .inr rfl) (hg:X.fn y=true\/X.env.scope.names.lookup y=some .local:=by first | exact .inl rfl | exact .inr rfl):PG X (.Tuple [.Name x p,.Name y p'] k pos) (zo K i j):=by
 subst h
 exact bo hc (az (aq hN hi hx hf) (az (aq hN hj hy hg) aT))
end L2
namespace STab
open PySem PySem.SetTable
def nQ (xs:Array Nat):Prop:=∀i j a b:Nat,xs[i]? = some a->xs[j]? = some b->i<j->a<b
theorem wg {xs:Array Nat}(R:nQ xs)(j:Nat):∀(fuel lo hi:Nat),lo<=hi->hi<=xs.size->hi-lo<=fuel →
  (∀i a,i<lo->xs[i]? = some a->a<j)->(∀i a,hi<=i->xs[i]? = some a->j<=a) →
  below.go xs j fuel lo hi<=xs.size/\(∀i a,xs[i]? = some a->(i<below.go xs j fuel lo hi↔a<j)):=by
 intro fuel
 induction fuel with
 | zero =>
  intro lo hi h1 h2 h3 h4 h5
  unfold below.go
  refine ⟨by lia,λi a e=>⟨λq=>h4 i a q e,λq =>?_⟩⟩
  apply Fn
  intro q2
  have:=h5 i a (by lia) e
  lia
 | succ fuel ih =>
  intro lo hi h1 h2 h3 h4 h5
  unfold below.go
  by_cases hl:lo<hi
  ·rw[if_pos hl]
   dsimp only
   have hm:(lo+hi)/2<xs.size:=by lia
   have em:xs[(lo+hi)/2]? = some xs[(lo+hi)/2]:=Cp hm
   have eg:xs.getD ((lo+hi)/2) j=xs[(lo+hi)/2]:=by simp[Array.getD,hm]
   rw[eg]
   by_cases hc:xs[(lo+hi)/2]<j
   ·rw[if_pos hc]
    refine ih _ _ (by lia) h2 (by lia) (λi a q e =>?_) h5
    by_cases q2:i=(lo+hi)/2
    ·rw[q2,em] at e;cases e;exact hc
    ·exact Nat.lt_trans (R i _ _ _ e em (by lia)) hc
   ·rw[if_neg hc]
    refine ih _ _ (by lia) (by lia) (by lia) h4 (λi a q e =>?_)
    by_cases q2:i=(lo+hi)/2
    ·rw[q2,em] at e;cases e;lia
    ·have:=R _ i _ _ em e (by lia)
     lia
  ·rw[if_neg hl]
   refine ⟨by lia,λi a e=>⟨λq=>h4 i a q e,λq =>?_⟩⟩
   apply Fn
   intro q2
   have:=h5 i a (by lia) e
   lia
theorem dP {xs:Array Nat}(R:nQ xs)(j:Nat):below xs j<=xs.size/\∀i a,xs[i]? = some a->(i<below xs j↔a<j) :=
 wg R j _ _ _ (CT _) (BS _) (by lia) (λi a h=>by lia) λi a h e=>by
  rw[Eh (by lia)] at e;cases e
theorem below_at {xs:Array Nat}(R:nQ xs){i j:Nat}(h:xs[i]? = some j):below xs j=i:=by
 obtain ⟨h1,h2⟩:=dP R j
 have hi:i<xs.size:=by
  apply Fn;intro q;rw[Eh q] at h;cases h
 have a1:¬ i<below xs j:=λq=>by have:=(h2 i j h).mp q;lia
 apply Fw (by lia)
 apply GR
 intro q
 have e:=Cp (xs:=xs) (i:=below xs j) (by lia)
 have l1:=R _ _ _ _ e h q
 have:=(h2 _ _ e).mpr l1
 lia
theorem rj {xs:Array Nat}(R:nQ xs){i j:Nat}(h:xs[i]? = some j):below xs (j+1)=i+1:=by
 obtain ⟨h1,h2⟩:=dP R (j+1)
 have a1:i<below xs (j+1):=(h2 i j h).mpr (by lia)
 apply Fw _ a1
 apply GR
 intro q
 have hk:i+1<xs.size:=by lia
 have e:=Cp (xs:=xs) hk
 have l1:=R _ _ _ _ h e (by lia)
 have:=(h2 _ _ e).mp q
 lia
theorem rn {xs:Array Nat}(R:nQ xs):below xs 0=0:=by
 obtain ⟨h1,h2⟩:=dP R 0
 apply Fw _ (CT _)
 apply GR
 intro q
 have:=(h2 0 _ (Cp (by lia))).mp q
 lia
theorem cg {α:Type}(xs:Array α)(p:Nat)(x:α):(insertAt xs p x).toList=xs.toList.take p++x :: xs.toList.drop p:=by
 unfold insertAt
 simp
 rw[B9 (by simp)]
theorem cp {α:Type}(xs:Array α){p:Nat}(hp:p<=xs.size)(x:α)(i:Nat) :
  (insertAt xs p x)[i]? = if i<p then xs[i]? else if i=p then some x else xs[i-1]? := by
 rw[<- B3,cg]
 have hl:(xs.toList.take p).length=p:=by rw[Di,BW];lia
 by_cases h1:i<p
 ·rw[if_pos h1,CB (by lia),Ec,if_pos h1,B3]
 ·rw[if_neg h1,C6 (by lia),hl]
  by_cases h2:i=p
  ·rw[if_pos h2,h2,Nat.sub_self];rfl
  ·rw[if_neg h2]
   obtain ⟨d,hd⟩:∃d,i-p=d+1:=⟨i-p-1,by lia⟩
   rw[hd,EF,Fu,B3]
   congr 1;lia
theorem cy {α:Type}(xs:Array α)(p:Nat)(x:α):(insertAt xs p x).size=xs.size+1:=by
 rw[<- BW,cg,BR,Ct,Di,Dt,BW]
 lia
theorem insertAt_perm {α:Type}(xs:Array α)(p:Nat)(x:α):(insertAt xs p x).toList.Perm (x :: xs.toList):=by
 rw[cg]
 exact J8.trans (by rw[DG])
theorem fe {α β:Type}(xs:Array α)(p:Nat)(x:α)(f:α -> β):(insertAt xs p x).map f=insertAt (xs.map f) p (f x):=by
 apply Ka.mp
 rw[GV,cg,cg,GV,B5,CC,G3,FG]
theorem lM {xs:Array Nat}(R:nQ xs){j:Nat}(hj:∀i:Nat,xs[i]? ≠ some j):nQ (insertAt xs (below xs j) j):=by
 obtain ⟨h1,h2⟩:=dP R j
 intro a b x y ea eb hab
 rw[cp _ h1] at ea eb
 by_cases a1:a<below xs j
 ·rw[if_pos a1] at ea
  have:=(h2 _ _ ea).mp a1
  by_cases b1:b<below xs j
  ·rw[if_pos b1] at eb;exact R _ _ _ _ ea eb hab
  ·rw[if_neg b1] at eb
   by_cases b2:b=below xs j
   ·rw[if_pos b2] at eb;cases eb;exact this
   ·rw[if_neg b2] at eb
    exact R _ _ _ _ ea eb (by lia)
 ·rw[if_neg a1] at ea
  rw[if_neg (by lia),if_neg (by lia)] at eb
  have l1:¬ y<j:=λq=>by have:=(h2 _ _ eb).mpr q;lia
  by_cases a2:a=below xs j
  ·rw[if_pos a2] at ea;cases ea
   have:y≠j:=λq=>hj _ (q ▸ eb)
   lia
  ·rw[if_neg a2] at ea
   exact R _ _ _ _ ea eb (by lia)
def occ (t:SetTable)(j:Nat):Prop:=∃i:Nat,t.place[i]? = some j
theorem iP {t:SetTable}(R:nQ t.place){i j:Nat}(h:t.place[i]? = some j):t.slot j = .live i:=by
 unfold SetTable.slot
 dsimp only
 rw[below_at R h,h]
 simp
theorem rp {t:SetTable}(D:t.dummies = #[]){j:Nat}(h:¬ occ t j):t.slot j = .empty:=by
 unfold SetTable.slot
 dsimp only
 have h1:(t.place[below t.place j]? == some j)=false:=by
  rw[beq_eq_false_iff_ne];exact λq=>h ⟨_,q⟩
 rw[h1,D]
 simp[has]
def adv (mask:Nat)(p:Probe):Probe :=
 if p.more>0 then { p with j:=p.j+1,more:=p.more-1 } else
 let (i,perturb):=leap mask p.i p.perturb
 { p with j:=i,more:=runEnd mask i-i,i,perturb }
def dg (mask i perturb:Nat):Probe:={ j:=i,more:=runEnd mask i-i,i,perturb,dummy:=none }
def start (mask:Nat)(h:Int):Probe:=dg mask (bits h%(mask+1)) (bits h)
inductive Way (oc:Nat->Prop)(mask:Nat):Nat->Probe->Probe->Prop
 | here (p:Probe):Way oc mask 0 p p
 | step {n:Nat} {p q:Probe}:oc p.j->Way oc mask n (adv mask p) q->Way oc mask (n+1) p q
theorem Way.mono {oc oc':Nat->Prop}{mask n:Nat}{p q:Probe}(m:∀j,oc j->oc' j)(h:Way oc mask n p q):Way oc' mask n p q:=by
 induction h with
 | here p=>exact .here p
 | step a _ ih=>exact .step (m _ a) ih
theorem Way.dummy {oc:Nat->Prop}{mask n:Nat}{p q:Probe}(h:Way oc mask n p q):q.dummy=p.dummy:=by
 induction h with
 | here p=>rfl
 | @step n p q _ _ ih =>
  rw[ih];unfold adv;split <;> rfl
theorem An {mask:Nat}{p:Probe}(h:p.j+p.more<=mask):(adv mask p).j+(adv mask p).more<=mask:=by
 unfold adv
 split
 ·dsimp only;lia
 ·dsimp only[leap]
  have:(p.i*5+1+p.perturb/32)%(mask+1)<mask+1:=GD _ (F3 mask)
  unfold runEnd
  split <;> lia
theorem pF (mask:Nat)(h:Int):(start mask h).j+(start mask h).more<=mask:=by
 unfold start dg
 dsimp only
 have:bits h%(mask+1)<mask+1:=GD _ (F3 mask)
 unfold runEnd
 split <;> lia
theorem Way.le {oc:Nat->Prop}{mask n:Nat}{p q:Probe}(h:Way oc mask n p q):p.j+p.more<=mask->q.j<=mask:=by
 induction h with
 | here p=>intro;lia
 | step _ _ ih=>intro h;exact ih (An h)
def nT (mask:Nat):Nat->Probe->Probe
 | 0,p=>p
 | n+1,p=>nT mask n (adv mask p)
theorem pG (mask:Nat):∀(a b:Nat) (p:Probe),nT mask (a+b) p=nT mask b (nT mask a p)
 | 0,b,p=>by rw[Fb];rfl
 | a+1,b,p=>by rw[show a+1+b=(a+b)+1 by lia];exact pG mask a b (adv mask p)
theorem uJ (oc:Nat->Prop)(mask:Nat):∀(n:Nat) (p:Probe),¬ oc (nT mask n p).j->∃k q,k<=n/\Way oc mask k p q/\¬ oc q.j:=by
 intro n
 induction n with
 | zero=>intro p h;exact ⟨0,p,BS _,.here p,h⟩
 | succ n ih =>
  intro p h
  by_cases hp:oc p.j
  ·obtain ⟨k,q,a,b,c⟩:=ih (adv mask p) h
   exact ⟨k+1,q,by lia,.step hp b,c⟩
  ·exact ⟨0,p,CT _,.here p,hp⟩
theorem yt (mask:Nat):∀(m:Nat) (p:Probe),p.more=m->p.dummy=none->nT mask (m+1) p=dg mask (leap mask p.i p.perturb).1 (leap mask p.i p.perturb).2:=by
 intro m
 induction m with
 | zero =>
  intro p h d
  show adv mask p=_
  unfold adv
  rw[if_neg (by lia)]
  obtain ⟨j,mo,i,pe,dm⟩:=p
  cases d
  rfl
 | succ m ih =>
  intro p h d
  show nT mask (m+1) (adv mask p)=_
  have e:adv mask p={ p with j:=p.j+1,more:=p.more-1 }:=by unfold adv;rw[if_pos (by lia)]
  rw[e]
  exact ih _ (by dsimp only;lia) d
def cG (mask:Nat):Nat->Nat×Nat->Nat×Nat
 | 0,x=>x
 | k+1,x=>cG mask k (leap mask x.1 x.2)
theorem mC (mask:Nat):∀(a b:Nat) (x:Nat×Nat),cG mask (a+b) x=cG mask b (cG mask a x)
 | 0,b,x=>by rw[Fb];rfl
 | a+1,b,x=>by rw[show a+1+b=(a+b)+1 by lia];exact mC mask a b _
theorem more_le (mask i:Nat):runEnd mask i-i<=9:=by unfold runEnd;split <;> lia
theorem rq (mask:Nat):∀(k i pe:Nat),∃n,n<=10*k/\nT mask n (dg mask i pe)=dg mask (cG mask k (i,pe)).1 (cG mask k (i,pe)).2:=by
 intro k
 induction k with
 | zero=>intro i pe;exact ⟨0,by lia,rfl⟩
 | succ k ih =>
  intro i pe
  obtain ⟨n,h1,h2⟩:=ih (leap mask i pe).1 (leap mask i pe).2
  refine ⟨(runEnd mask i-i+1)+n,by have:=more_le mask i;lia,?_⟩
  rw[pG,yt mask (runEnd mask i-i) (dg mask i pe) rfl rfl]
  exact h2
theorem gG (mask:Nat):∀(k i pe:Nat),(cG mask k (i,pe)).2=pe/32 ^ k
 | 0,i,pe=>by simp[cG]
 | k+1,i,pe=>by
  show (cG mask k (leap mask i pe)).2=_
  rw[show leap mask i pe=((leap mask i pe).1,pe/32) from rfl,gG mask k,Nat.div_div_eq_div_mul,Nat.pow_succ,Nat.mul_comm 32]
theorem pH (mask:Nat):∀(k i pe:Nat),i<=mask->(cG mask k (i,pe)).1<=mask
 | 0,i,pe,h=>h
 | k+1,i,pe,h=>by
  show (cG mask k (leap mask i pe)).1<=mask
  rw[show leap mask i pe=((leap mask i pe).1,pe/32) from rfl]
  exact pH mask k _ _ (E5 (GD _ (F3 mask)))
def ste (m i:Nat):Nat:=(i*5+1)%m
def its (m:Nat):Nat->Nat->Nat
 | 0,i=>i
 | n+1,i=>its m n (ste m i)
theorem jC (m:Nat):∀(a b i:Nat),its m (a+b) i=its m b (its m a i)
 | 0,b,i=>by rw[Fb];rfl
 | a+1,b,i=>by rw[show a+1+b=(a+b)+1 by lia];exact jC m a b _
def orb (m:Nat):Nat->Nat->List Nat
 | 0,_=>[]
 | n+1,i=>i :: orb m n (ste m i)
theorem nU (m:Nat):∀(n i j:Nat),j∈orb m n i->∃r,r<n/\its m r i=j
 | 0,i,j,h=>by cases h
 | n+1,i,j,h=>by
  rcases Cg.mp h with h | h
  ·exact ⟨0,by lia,h.symm⟩
  ·obtain ⟨r,a,b⟩:=nU m n _ _ h
   exact ⟨r+1,by lia,b⟩
def whole (m:Nat):Bool:=((Dl m).all λj=>(orb m m 0).contains j) && (its m m 0 == 0)
theorem uK {m:Nat}(h:whole m=true){i j:Nat}(hi:i<m)(hj:j<m):∃r,r<m/\its m r i=j:=by
 unfold whole at h
 rw[Dy,ES,beq_iff_eq] at h
 obtain ⟨h1,h2⟩:=h
 obtain ⟨a,a1,a2⟩:=nU m m 0 i (Iz.mp (h1 i (Dr.mpr hi)))
 obtain ⟨b,b1,b2⟩:=nU m m 0 j (Iz.mp (h1 j (Dr.mpr hj)))
 by_cases hab:a<=b
 ·refine ⟨b-a,by lia,?_⟩
  rw[<- a2, <- jC,show a+(b-a)=b by lia]
  exact b2
 ·refine ⟨m+b-a,by lia,?_⟩
  rw[<- a2, <- jC,show a+(m+b-a)=m+b by lia,jC,h2]
  exact b2
theorem Ao:whole 8=true:=by decide +kernel
theorem yu:whole 32=true:=by decide +kernel
theorem wj:whole 128=true:=by decide +kernel
theorem wm:whole 512=true:=by decide +kernel
def Msk (mask:Nat):Prop:=mask=7\/mask=31\/mask=127\/mask=511
theorem Msk.whole {mask:Nat}(h:Msk mask):whole (mask+1)=true:=by
 rcases h with rfl | rfl | rfl | rfl
 ·exact Ao
 ·exact yu
 ·exact wj
 ·exact wm
theorem mD (mask:Nat):∀(r i:Nat),cG mask r (i,0)=(its (mask+1) r i,0)
 | 0,i=>rfl
 | r+1,i=>by
  show cG mask r (leap mask i 0)=_
  rw[show leap mask i 0=(ste (mask+1) i,0) from rfl,mD mask r];rfl
theorem yv (h:Int):bits h<2 ^ 64:=by
 unfold bits
 have h1:=EA h (show (0:Int)<2 ^ 64 by decide)
 have h0:=EM h (show (2 ^ 64:Int)≠0 by decide)
 have:((2 ^ 64:Nat):Int)=2 ^ 64:=by decide
 lia
theorem ki {mask:Nat}(hm:Msk mask){h:Int}{j:Nat}(hj:j<=mask):∃k,k<turns mask/\(cG mask k (bits h%(mask+1),bits h)).1=j:=by
 have p0:(cG mask 13 (bits h%(mask+1),bits h)).2=0:=by
  rw[gG]
  exact Nat.div_eq_of_lt (Cj (yv h) (by decide))
 have i0:=pH mask 13 (bits h%(mask+1)) (bits h) (E5 (GD _ (F3 mask)))
 obtain ⟨r,r1,r2⟩:=uK hm.whole (i:=(cG mask 13 (bits h%(mask+1),bits h)).1) (j:=j) (by lia) (by lia)
 refine ⟨13+r,by unfold turns;lia,?_⟩
 rw[mC,show cG mask 13 (bits h%(mask+1),bits h)=((cG mask 13 (bits h%(mask+1),bits h)).1,0) from Jo rfl p0,mD]
 exact r2
theorem wo {mask:Nat}(hm:Msk mask)(oc:Nat->Prop)(h:Int){j:Nat}(hj:j<=mask)(he:¬ oc j):∃n q,n<10*turns mask/\Way oc mask n (start mask h) q/\¬ oc q.j/\q.j<=mask/\q.dummy=none:=by
 obtain ⟨k,k1,k2⟩:=ki hm (h:=h) hj
 obtain ⟨n,n1,n2⟩:=rq mask k (bits h%(mask+1)) (bits h)
 obtain ⟨n',q,a,b,c⟩:=uJ oc mask n (start mask h) (by
  show ¬ oc (nT mask n (dg mask _ _)).j
  rw[n2]
  show ¬ oc (cG mask k (bits h%(mask+1),bits h)).1
  rw[k2]
  exact he)
 exact ⟨n',q,by lia,b,c,b.le (pF mask h),b.dummy⟩
theorem mE {mask n:Nat}(oc:Nat->Prop)(f:Nat->Nat)(hf:∀j,j<=mask->oc j->f j<n)(inj:∀i j,i<=mask->j<=mask->oc i->oc j->f i=f j->i=j)(hn:n<=mask):∃j,j<=mask/\¬ oc j:=by
 by_cases q:∃j,j<=mask/\¬ oc j
 ·exact q
 ·exfalso
  have all:∀j,j<=mask->oc j:=λj hj=>by
   by_cases o:oc j
   ·exact o
   ·exact absurd ⟨j,hj,o⟩ q
  have nd:((Dl (mask+1)).map f).Nodup:=by
   unfold List.Nodup
   rw[Dh]
   refine F7 (λ{a b} ha hb hab e=>hab (inj a b ?_ ?_ (all _ ?_) (all _ ?_) e)) (Kb)
   all_goals (rw[Dr] at ha hb;lia)
  have:=Ex nd (l₂:=Dl n) (λx hx=>by
   obtain ⟨j,hj,e⟩:=Cv.mp hx
   rw[Dr] at hj ⊢
   rw[<- e]
   exact hf j (by lia) (all j (by lia)))
  rw[BK,D6,D6] at this
  lia
open PySem PySem.SetTable
structure Tab (t:SetTable)(hs:Array Int):Prop where
 dm:t.dummies = #[]
 rise:nQ t.place
 size:t.place.size=hs.size
 le:∀i j:Nat,t.place[i]? = some j->j<=t.mask
 msk:Msk t.mask
 fit:hs.size<=t.mask
 reach:∀(i j:Nat) (h:Int),t.place[i]? = some j->hs[i]? = some h->∃n q,Way (occ t) t.mask n (start t.mask h) q/\q.j=j
theorem eE {α:Type}{xs:Array α}{i:Nat}{a:α}(h:xs[i]? = some a):i<xs.size:=by
 apply Fn;intro q;rw[Eh q] at h;cases h
theorem Tab.fill {t:SetTable}{hs:Array Int}(T:Tab t hs):t.fill=hs.size:=by
 unfold SetTable.fill;rw[T.dm,T.size];rfl
theorem Tab.fits {t:SetTable}{hs:Array Int}(T:Tab t hs):t.fits hs.size=true:=by
 unfold SetTable.fits
 rw[T.fill,T.size]
 simp[T.fit]
theorem Tab.ends {t:SetTable}{hs:Array Int}(T:Tab t hs)(h:Int):∃n q,n<10*turns t.mask/\Way (occ t) t.mask n (start t.mask h) q/\¬ occ t q.j/\q.j<=t.mask/\q.dummy=none:=by
 obtain ⟨j,hj,he⟩:=mE (mask:=t.mask) (n:=hs.size) (occ t) (λj=>below t.place j)
  (λj _ ⟨i,e⟩=>by show below t.place j<hs.size;rw[below_at T.rise e, <- T.size];exact eE e)
  (λi j _ _ ⟨a,ea⟩ ⟨b,eb⟩ e=>by
   have e':below t.place i=below t.place j:=e
   rw[below_at T.rise ea,below_at T.rise eb] at e'
   subst e'
   exact Cw (ea.symm.trans eb)) T.fit
 exact wo T.msk (occ t) h hj he
theorem wq {t:SetTable}{hs:Array Int}(T:Tab t hs){H:Nat->Int}{h:Int}:∀(n:Nat) (p q:Probe) (fuel:Nat),Way (occ t) t.mask n p q->¬ occ t q.j->n<fuel->p.dummy=none →
  (SetTable.probe.go t H h fuel p=some (.empty q.j none)/\∀k r i,Way (occ t) t.mask k p r->t.place[i]? = some r.j->H i≠h) ∨
  (∃k r i,k<n/\Way (occ t) t.mask k p r/\t.place[i]? = some r.j/\H i=h/\SetTable.probe.go t H h fuel p=some (.candidate r.j i (adv t.mask r))/\Way (occ t) t.mask (n-k-1) (adv t.mask r) q/\(adv t.mask r).dummy=none
   /\ ∀k' r' i',k'<k->Way (occ t) t.mask k' p r'->t.place[i']? = some r'.j->H i'≠h):=by
 intro n
 induction n with
 | zero =>
  intro p q fuel W he hf hd
  cases W
  obtain ⟨fuel,rfl⟩:∃f,fuel=f+1:=⟨fuel-1,by lia⟩
  refine .inl ⟨?_,λk r i Wr er =>?_⟩
  ·unfold SetTable.probe.go
   rw[rp T.dm he]
   dsimp only
   rw[hd]
  ·cases Wr with
   | here=>exact absurd ⟨i,er⟩ he
   | step a _=>exact absurd a he
 | succ n ih =>
  intro p q fuel W he hf hd
  obtain ⟨fuel,rfl⟩:∃f,fuel=f+1:=⟨fuel-1,by lia⟩
  cases W with
  | step a W =>
   obtain ⟨i,ei⟩:=a
   have hd':(adv t.mask p).dummy=none:=by rw[<- hd];unfold adv;split <;> rfl
   by_cases hh:H i=h
   ·refine .inr ⟨0,p,i,by lia,.here p,ei,hh,?_,W,hd',λk' r' i' hk=>by lia⟩
    unfold SetTable.probe.go
    rw[iP T.rise ei]
    dsimp only
    rw[if_pos (by rw[hh];exact beq_self_eq_true h)]
    rfl
   ·have e0:SetTable.probe.go t H h (fuel+1) p=SetTable.probe.go t H h fuel (adv t.mask p):=by
     conv=>lhs;unfold SetTable.probe.go
     rw[iP T.rise ei]
     dsimp only
     rw[if_neg (by rw[beq_iff_eq];exact hh)]
     rfl
    rcases ih (adv t.mask p) q fuel W he (by lia) hd' with ⟨r1,r2⟩ | ⟨k,r,i',k1,w1,e1,h1,g1,w2,d2,no⟩
    ·refine .inl ⟨e0.trans r1,λk r j Wr er =>?_⟩
     cases Wr with
     | here =>
      obtain rfl:i=j:=by
       have x:=below_at T.rise ei
       have y:=below_at T.rise er
       exact x.symm.trans y
      exact hh
     | step _ Wr=>exact r2 _ _ _ Wr er
    ·refine .inr ⟨k+1,r,i',by lia,.step ⟨i,ei⟩ w1,e1,h1,e0.trans g1,by rw[show n+1-(k+1)-1=n-k-1 by lia];exact w2,d2,λk' r' j hk Wr er =>?_⟩
     cases Wr with
     | here =>
      obtain rfl:i=j:=by
       have x:=below_at T.rise ei
       have y:=below_at T.rise er
       exact x.symm.trans y
      exact hh
     | step _ Wr=>exact no _ _ _ (by lia) Wr er
theorem pI {t:SetTable}{hs:Array Int}(T:Tab t hs){H:Nat->Int}{h:Int}{n:Nat}{p q:Probe}(W:Way (occ t) t.mask n p q)(he:¬ occ t q.j)(hn:n<10*turns t.mask)(hd:p.dummy=none) :
  (t.probe H h p=some (.empty q.j none)/\∀k r i,Way (occ t) t.mask k p r->t.place[i]? = some r.j->H i≠h) ∨
  (∃k r i,k<n/\Way (occ t) t.mask k p r/\t.place[i]? = some r.j/\H i=h/\t.probe H h p=some (.candidate r.j i (adv t.mask r))/\Way (occ t) t.mask (n-k-1) (adv t.mask r) q/\(adv t.mask r).dummy=none
   /\ ∀k' r' i',k'<k->Way (occ t) t.mask k' p r'->t.place[i']? = some r'.j->H i'≠h) :=
 wq T n p q _ W he hn hd
theorem Tab.wt {t:SetTable}{hs:Array Int}(T:Tab t hs)(j:Nat):t.put j=({ t with place:=insertAt t.place (below t.place j) j },below t.place j):=by
 unfold SetTable.put
 dsimp only
 have:has t.dummies j=false:=by rw[T.dm];simp[has]
 rw[this]
 rfl
theorem Tab.put {t:SetTable}{hs:Array Int}(T:Tab t hs){h:Int}{n:Nat}{q:Probe}(W:Way (occ t) t.mask n (start t.mask h) q)(he:¬ occ t q.j)(hq:q.j<=t.mask)(hf:hs.size+1<=t.mask) :
  Tab { t with place:=insertAt t.place (below t.place q.j) q.j } (insertAt hs (below t.place q.j) h):=by
 have hp:=(dP T.rise q.j).1
 have hp':below t.place q.j<=hs.size:=by rw[<- T.size];exact hp
 have up:∀j,occ t j->occ { t with place:=insertAt t.place (below t.place q.j) q.j } j:=by
  rintro j ⟨i,e⟩
  by_cases l:i<below t.place q.j
  ·exact ⟨i,by show (insertAt _ _ _)[i]? = _;rw[cp _ hp,if_pos l];exact e⟩
  ·exact ⟨i+1,by show (insertAt _ _ _)[i+1]? = _;rw[cp _ hp,if_neg (by lia),if_neg (by lia)];exact e⟩
 refine ⟨T.dm,lM T.rise λi e=>he ⟨i,e⟩,?_,λi j e =>?_,T.msk,by rw[cy];exact hf,λi j h' e eh =>?_⟩
 ·show (insertAt _ _ _).size=_
  rw[cy,cy,T.size]
 ·have e':(insertAt t.place (below t.place q.j) q.j)[i]? = some j:=e
  rw[cp _ hp] at e'
  split at e'
  ·exact T.le _ _ e'
  ·split at e'
   ·cases e';exact hq
   ·exact T.le _ _ e'
 ·have e':(insertAt t.place (below t.place q.j) q.j)[i]? = some j:=e
  rw[cp _ hp] at e'
  rw[cp _ hp'] at eh
  by_cases l1:i<below t.place q.j
  ·rw[if_pos l1] at e' eh
   obtain ⟨n',q',w,eq⟩:=T.reach _ _ _ e' eh
   exact ⟨n',q',w.mono up,eq⟩
  ·rw[if_neg l1] at e' eh
   by_cases l2:i=below t.place q.j
   ·rw[if_pos l2] at e' eh
    cases e';cases eh
    exact ⟨n,q,W.mono up,rfl⟩
   ·rw[if_neg l2] at e' eh
    obtain ⟨n',q',w,eq⟩:=T.reach _ _ _ e' eh
    exact ⟨n',q',w.mono up,eq⟩
def ocw (owner:Array (Option Nat))(j:Nat):Prop:=∃k,owner[j]? = some (some k)
theorem Way.trans {oc:Nat->Prop}{mask n m:Nat}{p q r:Probe}(h:Way oc mask n p q)(h2:Way oc mask m q r):∃k,Way oc mask k p r:=by
 induction h with
 | here=>exact ⟨m,h2⟩
 | step a _ ih=>obtain ⟨k,w⟩:=ih h2;exact ⟨k+1,.step a w⟩
theorem nV (oc:Nat->Prop)(mask:Nat):∀(k:Nat) (p:Probe),k<=p.more->(∀k',k'<k->oc (p.j+k'))->Way oc mask k p { p with j:=p.j+k,more:=p.more-k }
 | 0,p,_,_ =>.here p
 | k+1,p,h,ho=>by
  have e:adv mask p={ p with j:=p.j+1,more:=p.more-1 }:=by unfold adv;rw[if_pos (by lia)]
  refine .step (ho 0 (by lia)) ?_
  rw[e]
  have:=nV oc mask k { p with j:=p.j+1,more:=p.more-1 } (by dsimp only;lia) λk' hk=>by
   have:=ho (k'+1) (by lia)
   rw[show p.j+(k'+1)=p.j+1+k' by lia] at this
   exact this
  dsimp only at this
  rw[show p.j+1+k=p.j+(k+1) by lia,show p.more-1-k=p.more-(k+1) by lia] at this
  exact this
theorem fK {owner:Array (Option Nat)}{mask j:Nat}(hs:owner.size=mask+1)(hj:j<=mask):(owner.getD j (some 0)).isNone=true↔¬ ocw owner j:=by
 have hl:j<owner.size:=by lia
 have e:owner[j]? = some owner[j]:=Cp hl
 rw[show owner.getD j (some 0)=owner[j] by simp[Array.getD,hl]]
 unfold ocw
 rw[e]
 cases owner[j] with
 | none=>simp
 | some k=>simp
theorem mF {mask i:Nat}(h:i<=mask):runEnd mask i<=mask/\i<=runEnd mask i:=by
 unfold runEnd;split <;> lia
theorem uL {mask:Nat}{owner:Array (Option Nat)}(hs:owner.size=mask+1):∀(fuel i pe j:Nat),i<=mask->SetTable.layClean.free mask owner fuel i pe=some j →
  ¬ ocw owner j/\∃n q,Way (ocw owner) mask n (dg mask i pe) q/\q.j=j:=by
 intro fuel
 induction fuel with
 | zero=>intro i pe j hi h;unfold SetTable.layClean.free at h;cases h
 | succ fuel ih =>
  intro i pe j hi h
  unfold SetTable.layClean.free at h
  obtain ⟨r1,r2⟩:=mF hi
  have no:∀k,k<runEnd mask i+1-i->((owner.getD (i+k) (some 0)).isNone=false)->ocw owner (i+k):=λk hk e=>by
   by_cases o:ocw owner (i+k)
   ·exact o
   ·rw[(fK hs (by lia)).mpr o] at e;cases e
  cases hf:(Dl (runEnd mask i+1-i)).find? λk=>(owner.getD (i+k) (some 0)).isNone with
  | some k =>
   rw[hf] at h
   dsimp only at h
   cases h
   rw[List.find?_range_eq_some] at hf
   obtain ⟨f1,f2,f3⟩:=hf
   rw[Dr] at f2
   refine ⟨(fK hs (by lia)).mp f1,k,_,nV (ocw owner) mask k (dg mask i pe) (by show k<=runEnd mask i-i;lia) λk' hk =>?_,rfl⟩
   refine no k' (by lia) ?_
   have:=f3 k' hk
   simpa using this
  | none =>
   rw[hf] at h
   dsimp only at h
   rw[HB] at hf
   have all:∀k,k<runEnd mask i+1-i->ocw owner (i+k):=λk hk=>no k hk (by simpa using hf k hk)
   obtain ⟨g1,n,q,w,eq⟩:=ih _ _ _ (E5 (GD _ (F3 mask))) h
   refine ⟨g1,?_⟩
   have w0:=nV (ocw owner) mask (runEnd mask i-i) (dg mask i pe) (BS _) λk' hk=>all k' (by lia)
   have w1:Way (ocw owner) mask (n+1) { (dg mask i pe) with j:=(dg mask i pe).j+(runEnd mask i-i),more:=(dg mask i pe).more-(runEnd mask i-i) } q:=by
    refine .step (all (runEnd mask i-i) (by lia)) ?_
    have e:adv mask { (dg mask i pe) with j:=(dg mask i pe).j+(runEnd mask i-i),more:=(dg mask i pe).more-(runEnd mask i-i) }=dg mask (leap mask i pe).1 (leap mask i pe).2:=by
     unfold adv
     rw[if_neg (by show ¬ (runEnd mask i-i-(runEnd mask i-i))>0;lia)]
     rfl
    rw[e]
    exact w
   obtain ⟨k,w2⟩:=w0.trans w1
   exact ⟨k,q,w2,eq⟩
theorem uM {mask:Nat}{owner:Array (Option Nat)}(hs:owner.size=mask+1):∀(fuel i pe k:Nat),i<=mask->k<fuel->¬ ocw owner (cG mask k (i,pe)).1->∃j,SetTable.layClean.free mask owner fuel i pe=some j:=by
 intro fuel
 induction fuel with
 | zero=>intro i pe k _ h;lia
 | succ fuel ih =>
  intro i pe k hi hk he
  unfold SetTable.layClean.free
  obtain ⟨r1,r2⟩:=mF hi
  cases hf:(Dl (runEnd mask i+1-i)).find? λk=>(owner.getD (i+k) (some 0)).isNone with
  | some k=>exact ⟨_,rfl⟩
  | none =>
   dsimp only
   rw[HB] at hf
   cases k with
   | zero =>
    have h0:=hf 0 (by lia)
    have:(owner.getD (i+0) (some 0)).isNone=true:=(fK hs (by lia)).mpr he
    rw[this] at h0
    cases h0
   | succ k=>exact ih _ _ k (E5 (GD _ (F3 mask))) (by lia) he
structure Own (mask:Nat)(owner:Array (Option Nat))(hs:List Int):Prop where
 size:owner.size=mask+1
 cov:∀(k:Nat) (h:Int),hs[k]? = some h->∃j n q,owner[j]? = some (some k)/\Way (ocw owner) mask n (start mask h) q/\q.j=j
 bnd:∀j k:Nat,owner[j]? = some (some k)->k<hs.length
 inj:∀i j k:Nat,owner[i]? = some (some k)->owner[j]? = some (some k)->i=j
theorem Own.step {mask:Nat}(hm:Msk mask){owner:Array (Option Nat)}{hs:List Int}(O:Own mask owner hs)(h:Int)(hl:hs.length<=mask) :
  ∃j,SetTable.layClean.free mask owner (turns mask) (bits h%(mask+1)) (bits h)=some j/\Own mask (owner.setIfInBounds j (some hs.length)) (hs++[h]):=by
 obtain ⟨e,he,hne⟩:=mE (mask:=mask) (n:=hs.length) (ocw owner) (λj=>(owner.getD j none).getD 0)
  (λj _ ⟨k,ek⟩=>by
   have:=eE ek
   show (owner.getD j none).getD 0<_
   rw[show owner.getD j none=some k by rw[Ed,ek];rfl]
   exact O.bnd j k ek)
  (λi j _ _ ⟨a,ea⟩ ⟨b,eb⟩ q=>by
   have q':(owner.getD i none).getD 0=(owner.getD j none).getD 0:=q
   rw[show owner.getD i none=some a by rw[Ed,ea];rfl,show owner.getD j none=some b by rw[Ed,eb];rfl] at q'
   have q'':a=b:=q'
   subst q''
   exact O.inj i j a ea eb) hl
 have i0:bits h%(mask+1)<=mask:=E5 (GD _ (F3 mask))
 obtain ⟨k,k1,k2⟩:=ki hm (h:=h) he
 obtain ⟨j,hj⟩:=uM O.size (turns mask) _ _ k i0 k1 (by rw[k2];exact hne)
 obtain ⟨hno,n,q,w,eq⟩:=uL O.size _ _ _ _ i0 hj
 have hjm:j<=mask:=by rw[<- eq];exact w.le (pF mask h)
 have hjs:j<owner.size:=by rw[O.size];lia
 have ej:owner[j]? = some none:=by
  rw[Cp hjs]
  cases ho:owner[j] with
  | none=>rfl
  | some k=>exact absurd ⟨k,by rw[Cp hjs,ho]⟩ hno
 have get:∀i:Nat,(owner.setIfInBounds j (some hs.length))[i]? = if i=j then some (some hs.length) else owner[i]? := λi=>by
  rw[Array.getElem?_setIfInBounds]
  by_cases q:j=i
  ·rw[if_pos q,if_pos q.symm,if_pos hjs]
  ·rw[if_neg q,if_neg (Dq q)]
 have up:∀i,ocw owner i->ocw (owner.setIfInBounds j (some hs.length)) i:=by
  rintro i ⟨k,ek⟩
  refine ⟨k,?_⟩
  rw[get,if_neg (λq=>by rw[q,ej] at ek;cases ek)]
  exact ek
 refine ⟨j,hj,by rw[HA];exact O.size,λk h' eh =>?_,λi k ek =>?_,λi i' k ei ei' =>?_⟩
 ·by_cases lk:k<hs.length
  ·rw[CB lk] at eh
   obtain ⟨j',n',q',a,b,c⟩:=O.cov k h' eh
   refine ⟨j',n',q',?_,b.mono up,c⟩
   rw[get,if_neg (λq=>by rw[q,ej] at a;cases a)]
   exact a
  ·rw[C6 (by lia)] at eh
   have:k-hs.length=0:=by
    cases hk:k-hs.length with
    | zero=>rfl
    | succ m=>rw[hk] at eh;cases eh
   rw[this] at eh
   cases eh
   obtain rfl:k=hs.length:=by lia
   exact ⟨j,n,q,by rw[get,if_pos rfl],w.mono up,eq⟩
 ·rw[BR,C7]
  rw[get] at ek
  split at ek
  ·cases ek;lia
  ·have:=O.bnd _ _ ek;lia
 ·rw[get] at ei ei'
  by_cases q1:i=j
  ·by_cases q2:i'=j
   ·rw[q1,q2]
   ·rw[if_pos q1] at ei;rw[if_neg q2] at ei'
    cases ei
    have:=O.bnd _ _ ei';lia
  ·rw[if_neg q1] at ei
   by_cases q2:i'=j
   ·rw[if_pos q2] at ei'
    cases ei'
    have:=O.bnd _ _ ei;lia
   ·rw[if_neg q2] at ei'
    exact O.inj _ _ _ ei ei'
theorem pJ {mask:Nat}(hm:Msk mask):∀(l:List Int) (owner:Array (Option Nat)) (hs:List Int),Own mask owner hs->hs.length+l.length<=mask+1 →
    ∃owner',l.foldl (λacc h=>do
      let (owner,k) ← acc
      let j ← SetTable.layClean.free mask owner (turns mask) (bits h%(mask+1)) (bits h)
      pure (owner.setIfInBounds j (some k),k+1)) (some (owner,hs.length))=some (owner',hs.length+l.length)/\Own mask owner' (hs++l)
  | [],owner,hs,O,_=>⟨owner,rfl,by rw[CK];exact O⟩
  | h :: l,owner,hs,O,hl=>by
    rw[Ct] at hl
    obtain ⟨j,hj,O'⟩:=O.step hm h (by lia)
    obtain ⟨owner',e,O''⟩:=pJ hm l _ _ O' (by rw[BR,C7];lia)
    refine ⟨owner',?_,by rw[Cy] at O'';exact O''⟩
    rw[Ir]
    have:(do
      let (owner,k) ← some (owner,hs.length)
      let j ← SetTable.layClean.free mask owner (turns mask) (bits h%(mask+1)) (bits h)
      pure (owner.setIfInBounds j (some k),k+1):Option (Array (Option Nat)×Nat))=some (owner.setIfInBounds j (some hs.length),(hs++[h]).length):=by
      show (SetTable.layClean.free mask owner (turns mask) (bits h%(mask+1)) (bits h)).bind _=_
      rw[hj,BR]
      rfl
    rw[this,e]
    rw[BR,C7,Ct]
    congr 2
    lia
theorem pL {mask:Nat}(hm:Msk mask)(hs:Array Int)(hl:hs.size<=mask+1):∃owner,SetTable.layClean mask hs=some owner/\Own mask owner hs.toList:=by
  have O0:Own mask (Array.replicate (mask+1) none) []:=by
    refine ⟨by simp,λk h e=>by simp at e,λj k e =>?_,λi j k e =>?_⟩
    · rw[HC] at e;split at e <;> cases e
    · rw[HC] at e;split at e <;> cases e
  obtain ⟨owner,e,O⟩:=pJ hm hs.toList _ [] O0 (by rw[Eu,BW];lia)
  refine ⟨owner,?_,by rw[Gm] at O;exact O⟩
  unfold SetTable.layClean
  rw[<- Array.foldl_toList]
  have e':hs.toList.foldl (λacc h=>do
      let (owner,k) ← acc
      let j ← SetTable.layClean.free mask owner (turns mask) (bits h%(mask+1)) (bits h)
      pure (owner.setIfInBounds j (some k),k+1)) (some (Array.replicate (mask+1) none,0))=some (owner,0+hs.toList.length):=e
  rw[e']
  rfl
theorem filterMap_get {α β:Type}{f:α -> Option β}:∀(l:List α),(∀x∈l,(f x).isSome=true)->∀i:Nat,(l.filterMap f)[i]? = l[i]?.bind f
 | [],_,i=>by simp
 | x :: l,h,i=>by
  obtain ⟨y,hy⟩:=Hz.mp (h x Ck)
  rw[List.filterMap_cons_some hy]
  cases i with
  | zero=>simp[hy]
  | succ i =>
   rw[EF,EF]
   exact filterMap_get l (λz hz=>h z (Cf _ hz)) i
theorem yx {mask:Nat}(hm:Msk mask)(finger moves:Nat)(led plain:Bool)(es:Array (Int×BM))(hl:es.size<=mask) :
  ∃t order,SetTable.laid mask finger moves led plain (es.map (·.1))=some (t,order)/\order.toList.Perm (Dl es.size)/\Tab t ((order.filterMap (es[·]?)).map (·.1))/\(order.filterMap (es[·]?)).toList.Perm es.toList/\t.led=led/\t.plain=plain/\t.mask=mask:=by
 obtain ⟨owner,e,O⟩:=pL hm (es.map (·.1)) (by rw[C9];lia)
 refine ⟨_,_,by unfold SetTable.laid;rw[e];rfl,?_⟩
 generalize hlive:((Dl (mask+1)).filterMap λj=>(owner.getD j none).map (j, ·))=live
 have mem:∀j k,(j,k)∈live↔owner[j]? = some (some k):=λj k=>by
  rw[<- hlive,Fs]
  constructor
  ·rintro ⟨a,ha,ea⟩
   rw[Ed] at ea
   cases ho:owner[a]? with
   | none=>rw[ho] at ea;cases ea
   | some x =>
    rw[ho] at ea
    cases x with
    | none=>cases ea
    | some k'=>cases ea;exact ho
  ·intro ho
   refine ⟨j,?_,?_⟩
   ·rw[Dr, <- O.size];exact eE ho
   ·rw[Ed,ho];rfl
 have pw:live.Pairwise (λa b=>a.1<b.1):=by
  rw[<- hlive,List.pairwise_filterMap]
  refine K1 (λ{a b} hab x hx y hy =>?_) Gz
  have hx':x.1=a:=by cases ho:owner.getD a none with
   | none=>rw[ho] at hx;cases hx
   | some k=>rw[ho] at hx;cases hx;rfl
  have hy':y.1=b:=by cases ho:owner.getD b none with
   | none=>rw[ho] at hy;cases hy
   | some k=>rw[ho] at hy;cases hy;rfl
  rw[hx',hy'];exact hab
 have nd:(live.map (·.2)).Nodup:=by
  unfold List.Nodup
  rw[Dh]
  refine F7 (λ{a b} ha hb hab q =>?_) pw
  have:=O.inj a.1 b.1 a.2 ((mem _ _).mp ha) (by rw[q];exact (mem _ _).mp hb)
  lia
 have hlen:(es.map (·.1)).toList.length=es.size:=by rw[BW,C9]
 have perm:(live.map (·.2)).Perm (Dl es.size):=by
  rw[Hl nd Kb]
  intro k
  rw[Dr,Cv]
  constructor
  ·rintro ⟨⟨j,k'⟩,hm',rfl⟩
   have:=O.bnd _ _ ((mem _ _).mp hm')
   rw[hlen] at this
   exact this
  ·intro hk
   obtain ⟨j,_,_,ej,_⟩:=O.cov k _ (BO (by rw[hlen];exact hk))
   exact ⟨(j,k),(mem _ _).mpr ej,rfl⟩
 have all:∀x∈live.map (·.2),(es[x]?).isSome=true:=λx hx=>by
  have:=(perm.mem_iff).mp hx
  rw[Dr] at this
  rw[Cp this];rfl
 have tl:(live.map (·.2)).toArray.toList=live.map (·.2):=rfl
 have ll:live.length=es.size:=by have:=perm.length_eq;rw[BK,D6] at this;exact this
 have fm:((live.map (·.2)).toArray.filterMap (es[·]?)).toList=(live.map (·.2)).filterMap (es[·]?):=by simp
 have fl:((live.map (·.2)).filterMap (es[·]?)).Perm es.toList:=by
  have p1:=perm.filterMap (es[·]?)
  have:(Dl es.size).filterMap (es[·]?)=es.toList:=by
   apply FF
   intro i
   rw[filterMap_get _ (λx hx=>by rw[Dr] at hx;rw[Cp hx];rfl)]
   by_cases hi:i<es.size
   ·rw[Jd hi,B3];rfl
   ·rw[Du (by rw[D6];lia),Du (by rw[BW];lia)];rfl
  rw[this] at p1
  exact p1
 refine ⟨perm,?_,by rw[fm];exact fl,rfl,rfl,rfl⟩
 have sz:(((live.map (·.2)).toArray.filterMap (es[·]?)).map (·.1)).size=es.size:=by
  rw[C9, <- BW,fm,fl.length_eq,BW]
 have occ_of:∀j,ocw owner j->occ { mask:=mask,place:=(live.map (·.1)).toArray,dummies := #[],finger:=finger,led:=led,moves:=moves,plain:=plain } j:=by
  rintro j ⟨k,ek⟩
  obtain ⟨i,hi,ei⟩:=Fh ((mem j k).mpr ek)
  refine ⟨i,?_⟩
  show (live.map (·.1)).toArray[i]? = some j
  rw[Dm,B7,BO hi,ei]
  rfl
 refine ⟨rfl,λi j a b ea eb hij =>?_,?_,λi j ej =>?_,hm,by rw[sz];exact hl,λi j h ej eh =>?_⟩
 ·have ea':(live.map (·.1)).toArray[i]? = some a:=ea
  have eb':(live.map (·.1)).toArray[j]? = some b:=eb
  rw[Dm] at ea' eb'
  have pw':(live.map (·.1)).Pairwise (· < ·):=by rw[Dh];exact pw
  obtain ⟨hi,xi⟩:=B1.mp ea'
  obtain ⟨hj,xj⟩:=B1.mp eb'
  rw[<- xi, <- xj]
  exact EZ.mp pw' i j hi hj hij
 ·show (live.map (·.1)).toArray.size=_
  rw[sz,BX,BK,ll]
 ·have ej':(live.map (·.1)).toArray[i]? = some j:=ej
  rw[Dm,B7] at ej'
  cases hx:live[i]? with
  | none=>rw[hx] at ej';cases ej'
  | some x =>
   rw[hx] at ej'
   cases ej'
   have:=eE ((mem x.1 x.2).mp (BV hx))
   show x.1<=mask
   rw[O.size] at this
   lia
 ·have ej':(live.map (·.1)).toArray[i]? = some j:=ej
  rw[Dm,B7] at ej'
  cases hx:live[i]? with
  | none=>rw[hx] at ej';cases ej'
  | some x =>
   rw[hx] at ej'
   cases ej'
   have ho:=(mem x.1 x.2).mp (BV hx)
   have hk:=O.bnd _ _ ho
   rw[Jq, <- B3,fm,filterMap_get _ all,B7,hx] at eh
   have eh':(es[x.2]?).map (·.1)=some h:=eh
   obtain ⟨j',n,q,a,b,c⟩:=O.cov x.2 h (by rw[GV,B7,B3];exact eh')
   obtain rfl:=O.inj _ _ _ ho a
   exact ⟨n,q,b.mono occ_of,c⟩
open PySem PySem.SetTable PyProof.Rows
section
variable  {prog:Ca}{w:CJ}{A:Dd}{E:BM->BQ->Prop}{s:BQ}
abbrev TK (prog:Ca)(w:CJ):=IsTupleKey (prog:=prog) (w:=w) (intKind prog w)
def cz (prog:Ca)(w:CJ)(ks:List Int):Int:=tupleKeyHash (intKind prog w) ks
def aW (es:Array (Int×BM))(ep:Nat)(t:SetTable):Obj:={ cls :=.type "set",dict:=none,data :=.set es ep t }
def ElT (prog:Ca)(w:CJ)(h:Heap)(e:Int×BM)(ks:List Int):Prop:=∃b,e=(cz prog w ks,.ref b)/\TK prog w h ks b
theorem nW (d:Nat){v:BM}(h:carriedByValue v=true):ofAClassStatement d v=pure false:=by
 cases v with
 | ref a=>simp[carriedByValue] at h
 | _=>cases d <;> rfl
theorem iu {ks:List Int}{b:Addr}{Q:Bool->BQ->Prop}(hk:TK prog w s.heap ks b)(h:Q false s):Ci (Cs prog w) A (ofAClassStatement 8 (.ref b)) Q E s:=by
 have hT:=hk.typeIs
 obtain ⟨o,items,n,ho,_,hd,hi⟩:=hk
 unfold ofAClassStatement
 refine BJ (D7 hT ?_)
 dsimp only
 rw[if_pos (by decide)]
 refine BJ (BN ?_)
 simp only[DN,Ce,if_false]
 refine BJ (EH ho hd ?_)
 dsimp only
 refine BJ ?_
 rw[<- Jr]
 refine FY _ (λrest r s'=>r.1=none/\s'=s/\∀v∈rest,carriedByValue v=true) _ ?_ ?_ _ _ ⟨rfl,rfl,hi.byValue⟩
 ·rintro v rest r s' ⟨hr,rfl,hall⟩
  rw[nW _ (hall v Ck)]
  refine BJ (BN ?_)
  simp only[Ce,if_false]
  exact BN ⟨rfl,rfl,λu hu'=>hall u (Cf _ hu')⟩
 ·rintro ⟨r1,r2⟩ s' ⟨hr,rfl,_⟩
  simp only at hr
  subst hr
  exact BN h
theorem Ap {ks:List Int}{b:Addr}{vs:List BM}{Q:Bool->BQ->Prop}(hk:TK prog w s.heap ks b)(hv:∀v∈vs,∃ks' b',v = .ref b'/\TK prog w s.heap ks' b')(h:Q false s) :
  Ci (Cs prog w) A (searchCouldBeSeen (.ref b) vs) Q E s:=by
 unfold searchCouldBeSeen
 refine BJ ?_
 refine FY _ (λrest r s'=>r.1=none/\s'=s/\∀v∈rest,∃ks' b',v = .ref b'/\TK prog w s.heap ks' b') _ ?_ ?_ _ _ ⟨rfl,rfl,hv⟩
 ·rintro v rest r s' ⟨hr,rfl,hall⟩
  obtain ⟨ks',b',rfl,hk'⟩:=hall v Ck
  have go:∀u∈rest,∃ks' b',u = .ref b'/\TK prog w s'.heap ks' b':=λu hu'=>hall u (Cf _ hu')
  dsimp only
  split
  ·exact BN ⟨rfl,rfl,go⟩
  ·refine BJ (IK hk ?_)
   simp only[DN,Ce,if_false]
   refine BJ (IK hk' ?_)
   simp only[DN,Ce,if_false]
   refine BJ (iu hk ?_)
   simp only[Ce,if_false]
   refine BJ (iu hk' ?_)
   simp only[Ce,if_false]
   exact BN ⟨rfl,rfl,go⟩
 ·rintro ⟨r1,r2⟩ s' ⟨hr,rfl,_⟩
  simp only at hr
  subst hr
  exact BN h
theorem yy {m:Nat}(h:Msk m):(m%2 == 0)=false:=by rcases h with rfl | rfl | rfl | rfl <;> rfl
theorem bU {a:Addr}{es:Array (Int×BM)}{ep:Nat}{t:SetTable}{Q:(Array (Int×BM)×Nat×SetTable)->BQ->Prop}(ho:s.heap.get? a=some (aW es ep t))(T:Tab t (es.map (·.1)))(h:Q (es,ep,t) s) :
  Ci (Cs prog w) A (setState a) Q E s:=wpAny_setState_of ho rfl (by have:=T.fits;rwa [C9] at this) h
theorem rz (es:Array (Int×BM))(i:Nat)(e:Int×BM)(h:es[i]? = some e):(es.map (·.1))[i]? = some e.1:=by rw[Jq,h];rfl
theorem Way.split {oc:Nat->Prop}{mask k:Nat}{p r:Probe}(h:Way oc mask k p r):∀{k':Nat} {r':Probe},Way oc mask k' p r'->k<=k'->Way oc mask (k'-k) r r':=by
 induction h with
 | here p=>intro k' r' h2 _;exact h2
 | @step n p q a _ ih =>
  intro k' r' h2 l
  cases h2 with
  | here=>lia
  | @step m _ _ _ h2=>rw[show m+1-(n+1)=m-n by lia];exact ih h2 (by lia)
theorem rA {a b:Addr}{es:Array (Int×BM)}{ep:Nat}{t:SetTable}{ks:List Int}{Q:SetFound->BQ->Prop}(hu:A.units<cLine)(ho:s.heap.get? a=some (aW es ep t))(T:Tab t (es.map (·.1)))
    (els:∀e∈es,∃ks',ElT prog w s.heap e ks') (hk:TK prog w s.heap ks b) {q:Probe} (he:¬ occ t q.j) :
    ∀(fuel n:Nat) (st:Option Probe) (p:Probe),st.getD (start t.mask (cz prog w ks))=p->Way (occ t) t.mask n p q->n<fuel->n<10*turns t.mask->p.dummy=none →
      ((∃(k:Nat) (r:Probe) (i:Nat) (e:Int×BM),Way (occ t) t.mask k p r/\t.place[i]? = some r.j/\es[i]? = some e/\ElT prog w s.heap e ks)->Q (.there none) s) →
      ((¬ ∃(k:Nat) (r:Probe) (i:Nat) (e:Int×BM),Way (occ t) t.mask k p r/\t.place[i]? = some r.j/\es[i]? = some e/\ElT prog w s.heap e ks)->Q (.free q.j false) s) →
      Ci (Cs prog w) A (setSearchFrom a (.ref b) (cz prog w ks) true fuel st) Q E s:=by
  intro fuel
  induction fuel with
  | zero=>intro n st p _ _ h;omega
  | succ fuel ih =>
    intro n st p hst W hn hn2 hd hit mis
    unfold setSearchFrom
    refine BJ (bU ho T ?_)
    dsimp only
    rw[show t.gaveWay=false from yy T.msk]
    simp only[Ce,if_false]
    rw[show st.getD (t.probeStart (cz prog w ks))=p from hst]
    rcases pI T (H:=λi=>(es[i]?.map (·.1)).getD 0) (h:=cz prog w ks) W he hn2 hd with ⟨g,no⟩ | ⟨k,r,i,k1,w1,e1,h1,g,w2,d2,no⟩
    · erw [g]
      dsimp only
      refine BN (mis ?_)
      rintro ⟨k,r,i,e,wr,er,ee,eb,rfl,_⟩
      refine no k r i wr er ?_
      show (es[i]?.map (·.1)).getD 0=_
      rw[ee]
      rfl
    · erw [g]
      dsimp only
      have hi:i<es.size:=by have:=eE e1;rw[T.size,C9] at this;exact this
      have ee:es[i]? = some es[i]:=Cp hi
      obtain ⟨ks',b',eq,hk'⟩:=els es[i] (JN hi)
      rw[eq] at ee
      have hh:cz prog w ks'=cz prog w ks:=by
        have h1':(es[i]?.map (·.1)).getD 0=cz prog w ks:=h1
        rw[ee] at h1'
        exact h1'
      have tail:Ci (Cs prog w) A (do
          let equal ← HY [Cd b'] (eqBool (.ref b') (.ref b))
          let (es',_,t') ← setState a
          if (true && equal)=true then return .there none
          let some same:=t'.sameMemory t.moves t.mask | unsupported "set.changed-during-lookup:is-the-new-block-at-the-old-address"
          let still ← match (if same then t'.slot r.j else .empty) with
            | .live i'=>match es'[i']? with
              | some (_,y')=>do pure (if ← isSame y' (.ref b') then some i' else none)
              | none=>pure none
            | _=>pure none
          match still with
          | none=>rule "set.search.anew";setSearchFrom a (.ref b) (cz prog w ks) true fuel none
          | some i'=>if equal then return .there (some i') else setSearchFrom a (.ref b) (cz prog w ks) true fuel (some (adv t.mask r))) Q E s:=by
        refine BJ (Dj (JE hu hk' hk ?_))
        refine BJ (bU ho T ?_)
        dsimp only
        by_cases hks:ks'=ks
        · subst hks
          rw[decide_eq_true rfl]
          simp only[Bool.and_self,if_true]
          exact BN (hit ⟨k,r,i,_,w1,e1,ee,b',rfl,hk'⟩)
        · rw[decide_eq_false hks]
          simp only[Ht,Ce,if_false]
          rw[show t.sameMemory t.moves t.mask=some true by unfold SetTable.sameMemory;simp]
          dsimp only
          simp only[if_true]
          rw[iP T.rise e1]
          dsimp only
          rw[ee]
          dsimp only
          refine BJ (wpAny_isSame_ref_self (BJ (BN ?_)))
          simp only[if_true]
          refine ih (n-k-1) _ _ rfl w2 (by omega) (by omega) d2 (λx=>hit ?_) λx=>mis λy=>x ?_
          · obtain ⟨k',r',i',e',a1,a2,a3,a4⟩:=x
            obtain ⟨k'',w''⟩:=w1.trans (.step ⟨i,e1⟩ a1)
            exact ⟨k'',r',i',e',w'',a2,a3,a4⟩
          · obtain ⟨k',r',i',e',a1,a2,a3,a4⟩:=y
            have hx:(es[i']?.map (·.1)).getD 0=cz prog w ks:=by
              obtain ⟨bb,rfl,_⟩:=a4
              rw[a3];rfl
            by_cases lt:k'<k
            · exact absurd hx (no k' r' i' lt a1 a2)
            · have w3:=w1.split a1 (by omega)
              cases hd3:k'-k with
              | zero =>
                rw[hd3] at w3
                cases w3
                obtain rfl:i=i':=(below_at T.rise e1).symm.trans (below_at T.rise a2)
                obtain ⟨bb,rfl,hbb⟩:=a4
                rw[ee] at a3
                injection a3 with a3
                injection a3 with a31 a32
                injection a32 with a32
                subst a32
                exact absurd (hk'.inj hbb) hks
              | succ m =>
                rw[hd3] at w3
                cases w3 with
                | step _ w3=>exact ⟨m,r',i',e',w3,a2,a3,a4⟩
      cases hl:t.led with
      | true =>
        simp only[DN,Ce,if_false]
        rw[ee]
        exact tail
      | false =>
        simp only[IX,if_true]
        refine BJ (Ap hk (λv hv =>?_) ?_)
        · obtain ⟨e',he',rfl⟩:=Cv.mp hv
          obtain ⟨ks2,b2,e2,hk2⟩:=els e' (Array.mem_of_mem_filter (CI.mp he'))
          exact ⟨ks2,b2,by rw[e2],hk2⟩
        · simp only[Ce,if_false]
          rw[ee]
          exact tail
end
open PySem PySem.SetTable PyProof.Rows
section
variable  {prog:Ca}{w:CJ}{A:Dd}{E:BM->BQ->Prop}{s:BQ}
def dD (w:CJ)(h:Heap)(a:Addr)(es:Array (Int×BM)):Prop :=
 ∃ep t,h.get? a=some (aW es ep t)/\Tab t (es.map (·.1))/\es.size*5<t.mask*3/\t.led = !w.params.followText "set-order" /\ t.plain=true
theorem dD.at {h h':Heap}{a:Addr}{es:Array (Int×BM)}(x:dD w h a es)(e:∀o,h.get? a=some o->h'.get? a=some o):dD w h' a es :=
 let ⟨ep,t,ho,r⟩:=x;⟨ep,t,e _ ho,r⟩
theorem pM {m n:Nat}(hm:Msk m)(h1:n*5<m*3)(h2:(n+1)*5≥m*3)(h3:n<300):Msk (sizeAbove (grown (n+1))-1)/\n+1<=sizeAbove (grown (n+1))-1/\(n+1)*5<(sizeAbove (grown (n+1))-1)*3/\sizeAbove (grown (n+1))<=512:=by
 have c:n=4\/n=18\/n=76:=by
  rcases hm with rfl | rfl | rfl | rfl <;> lia
 unfold Msk
 rcases c with rfl | rfl | rfl <;> decide
theorem mG:512<=B4:=by rw[Er];lia
theorem iw {a:Addr}{es es':Array (Int×BM)}{ep:Nat}{t t':SetTable}{Q:Unit->BQ->Prop}(ho:s.heap.get? a=some (aW es ep t))(hz:es'.size<=512)
  (h:∀h',Heap.SameBut a s.heap h'->h'.get? a=some (aW es' (ep+1) t')->Q () { s with heap:=h' }):Ci (Cs prog w) A (storeSet a es' t') Q E s:=by
 refine wpAny_storeSet_of (o:=aW es ep t) ho rfl ?_ (CP hz mG)
 refine h _ (Je s.heap a _) ?_
 have:=CY (Obj.putSet es' t') ho (by rw[putSet_of es' t' (o:=aW es ep t) rfl];rfl)
 rw[putSet_of es' t' (o:=aW es ep t) rfl] at this
 exact this
theorem Tab.tooFull {t:SetTable}{hs:Array Int}(T:Tab t hs):t.tooFull=decide (hs.size*5≥t.mask*3):=by
 unfold SetTable.tooFull;rw[T.fill]
theorem mH {t:SetTable}{es:Array (Int×BM)}(T:Tab t (es.map (·.1))){n:Nat}(hn:es.size=n+1)(h1:n*5<t.mask*3)(h2:(n+1)*5≥t.mask*3)(h3:n<300) :
  ∃t' order,t.relaid (es.map (·.1)) (grown (n+1))=some (t',order)/\order.toList.Perm (Dl es.size)/\Tab t' ((order.filterMap (es[·]?)).map (·.1))/\(order.filterMap (es[·]?)).toList.Perm es.toList/\t'.led=t.led/\t'.plain=t.plain/\(n+1)*5<t'.mask*3:=by
 obtain ⟨k1,k2,k3,k4⟩:=pM T.msk h1 h2 h3
 obtain ⟨t',order,e,pm,T',pe,l,p,m⟩:=yx k1 t.finger (t.movedTo (sizeAbove (grown (n+1))-1)) t.led t.plain es (by lia)
 exact ⟨t',order,e,pm,T',pe,l,p,by rw[m];exact k3⟩
theorem rB {ks:List Int}{b:Addr}{Q:Bool->BQ->Prop}(hk:TK prog w s.heap ks b)(h:Q true s):Ci (Cs prog w) A (hashByValue 8 (.ref b)) Q E s:=by
 have hT:=hk.typeIs
 obtain ⟨o,items,n,ho,_,hd,hi⟩:=hk
 unfold hashByValue
 refine BJ (D3 hT F.slot_tuple_hash.lookup ?_)
 dsimp only
 refine BJ (EH ho hd ?_)
 refine BJ ?_
 show Ci _ _ (forIn items _ _) _ _ s
 rw[<- Jr]
 have hall0:∀v∈items.toList,∃k t,v = .int k t:=by
  clear hd ho
  generalize items.toList=l at hi
  induction hi with
  | nil=>intro v hv;cases hv
  | cons h1 _ ih =>
   intro v hv
   rcases Cg.mp hv with rfl | hv
   ·obtain ⟨t,e⟩:=GB h1;exact ⟨_,t,e⟩
   ·exact ih v hv
 refine FY _ (λrest r s'=>r.1=none/\s'=s/\∀v∈rest,∃k t,v=DE k t) _ ?_ ?_ _ _ ⟨rfl,rfl,hall0⟩
 ·rintro v rest r s' ⟨hr,rfl,hall⟩
  obtain ⟨k,t,rfl⟩:=hall v Ck
  rw[show hashByValue 7 (.int k t)=pure true from rfl]
  refine BJ (BN ?_)
  simp only[DN,Ce,if_false]
  exact BN ⟨rfl,rfl,λu hu'=>hall u (Cf _ hu')⟩
 ·rintro ⟨r1,r2⟩ s' ⟨hr,rfl,_⟩
  simp only at hr
  subst hr
  exact BN h
theorem yz {a b:Addr}{es:Array (Int×BM)}{ks:List Int}{Q:Bool->BQ->Prop}(hu:A.units<cLine)(I:dD w s.heap a es)(els:∀e∈es,∃ks',ElT prog w s.heap e ks')(hk:TK prog w s.heap ks b)(hz:es.size<300)
  (hin:(∃e∈es,ElT prog w s.heap e ks)->Q false s)
  (hnew:(¬ ∃e∈es,ElT prog w s.heap e ks)->∀h' es',Heap.SameBut a s.heap h'->dD w h' a es'->es'.toList.Perm ((cz prog w ks,.ref b) :: es.toList)->Q true { s with heap:=h' }) :
  Ci (Cs prog w) A (setAddHashed a (.ref b) (cz prog w ks)) Q E s:=by
 obtain ⟨ep,t,ho,T,rm,hl,hp⟩:=I
 unfold setAddHashed setAddHashedIn
 refine Dj (BJ (bU ho T ?_))
 dsimp only
 rw[show byScan (.ref b) es=false from rfl]
 simp only[Ce,if_false]
 obtain ⟨n,q,hn,W,he,hq,hd⟩:=T.ends (cz prog w ks)
 have hn':n<100000:=by
  have:t.mask<=511:=by rcases T.msk with e | e | e | e <;> lia
  unfold turns at hn
  lia
 unfold setSearch
 refine BJ (rA hu ho T els hk he 100000 n none _ rfl W hn' hn rfl (λx =>?_) λx =>?_)
 ·obtain ⟨k,r,i,e,_,_,ee,el⟩:=x
  exact BN (hin ⟨e,Array.mem_of_getElem? ee,el⟩)
 ·have nx:¬ ∃e∈es,ElT prog w s.heap e ks:=by
   rintro ⟨e,he',el⟩
   obtain ⟨i,hi,ei⟩:=Array.getElem_of_mem he'
   have ee:es[i]? = some e:=by rw[Cp hi,ei]
   have hpl:i<t.place.size:=by rw[T.size,C9];exact hi
   obtain ⟨bb,rfl,hbb⟩:=el
   obtain ⟨k,r,w1,er⟩:=T.reach i _ _ (Cp hpl) (rz es i _ ee)
   exact x ⟨k,r,i,_,w1,by rw[er];exact Cp hpl,ee,bb,rfl,hbb⟩
  dsimp only
  refine BJ (bU ho T ?_)
  dsimp only
  rw[T.wt]
  dsimp only
  rw[hp]
  simp only[if_true]
  have hz':(es.map (·.1)).size+1<=t.mask:=by
   rw[C9];have:=T.fit;rw[C9] at this
   rcases T.msk with e | e | e | e <;> rw[e] at rm ⊢ <;> lia
  have T':=T.put W he hq hz'
  rw[<- fe es (below t.place q.j) (cz prog w ks,Cd b) (·.1),hp] at T'
  have sz:(insertAt es (below t.place q.j) (cz prog w ks,Cd b)).size=es.size+1:=cy _ _ _
  refine BJ (rB hk ?_)
  simp only[if_true]
  refine BJ (iw ho (by rw[sz];lia) λh1 sb1 ho1 =>?_)
  have pm1:=insertAt_perm es (below t.place q.j) (cz prog w ks,Cd b)
  rw[T'.tooFull,C9,sz]
  by_cases full:(es.size+1)*5≥t.mask*3
  ·rw[if_pos (by simpa using full)]
   unfold setRelay
   obtain ⟨t2,order,e2,pm2,T2,pe2,l2,p2,rm2⟩:=mH T' sz (n:=es.size) (by simpa using rm) full hz
   obtain ⟨_,_,_,sa⟩:=pM T.msk rm full hz
   refine BJ (BJ (bU (s:={ s with heap:=h1 }) ho1 T' ?_))
   dsimp only
   rw[if_neg (Nat.not_lt.mpr (CP sa mG))]
   rw[e2]
   have z2:(order.filterMap ((insertAt es (below t.place q.j) (cz prog w ks,Cd b))[·]?)).size=es.size+1:=by
    rw[<- BW,pe2.length_eq,BW,sz]
   refine BJ ?_
   show Ci _ _ (if ((order.filterMap ((insertAt es (below t.place q.j) (cz prog w ks,Cd b))[·]?)).size != (insertAt es (below t.place q.j) (cz prog w ks,Cd b)).size)=true then _ else _) _ _ _
   rw[if_neg (by rw[z2,sz];simp)]
   refine BN ?_
   dsimp only
   refine iw (s:={ s with heap:=h1 }) ho1 (by rw[z2];lia) λh2 sb2 ho2 =>?_
   refine BN (hnew nx h2 _ (sb1.trans sb2) ⟨_,_,ho2,T2,by rw[z2];exact rm2,by rw[l2];exact hl,by rw[p2]⟩ (pe2.trans pm1))
  ·rw[if_neg (by simpa using full)]
   refine BN (hnew nx h1 _ sb1 ⟨_,_,ho1,T',?_,hl,rfl⟩ pm1)
   rw[sz]
   exact Fn full
end
open PySem PySem.SetTable PyProof.Rows
section
variable  {prog:Ca}{w:CJ}{A:Dd}{E:BM->BQ->Prop}{s:BQ}
def ElI (e:Int×BM)(k:Int):Prop:=∃t,e=(hashInt k,DE k t)
theorem uN {es:Array (Int×BM)}(els:∀e∈es,∃k,ElI e k):ElemsOf (intKind prog w) es.toList:=by
 intro e he
 obtain ⟨k,t,rfl⟩:=els e (CI.mp he)
 exact ⟨⟨k,HK _ _ _ _,rfl⟩,rfl⟩
theorem uO {t:SetTable}{es:Array (Int×BM)}(T:Tab t (es.map (·.1)))(h:Int)(x:BM){n:Nat}{q:Probe}(hn:n<10*turns t.mask)(W:Way (occ t) t.mask n (start t.mask h) q)(he:¬ occ t q.j)(hq:q.j<=t.mask)(hz:es.size+1<=t.mask) :
  layNew t es h x=(insertAt es (below t.place q.j) (h,x),{ t with place:=insertAt t.place (below t.place q.j) q.j },false,false):=by
 have hf:t.freeSlot h=some (q.j,false):=by
  unfold SetTable.freeSlot
  rcases pI T (H:=λ_=>h+1) (h:=h) W he hn rfl with ⟨g,_⟩ | ⟨_,_,i,_,_,_,h1,_⟩
  ·rw[show t.probe (λ_=>h+1) h (t.probeStart h)=some (.empty q.j none) from g]
   rfl
  ·have:h+1=h:=h1
   lia
 have T':=T.put W he hq (by rw[C9];exact hz)
 rw[<- fe es (below t.place q.j) (h,x) (·.1)] at T'
 have ft:=T'.fits
 rw[C9] at ft
 unfold layNew
 rw[hf]
 dsimp only
 rw[T.wt]
 dsimp only
 unfold SetTable.orStandIn
 rw[if_pos ft,ft]
 rfl
theorem pN {t:SetTable}{es:Array (Int×BM)}{n:Nat}{t':SetTable}{order:Array Nat}(e:t.relaid (es.map (·.1)) n=some (t',order))(pm:order.toList.Perm (Dl es.size))(T':Tab t' ((order.filterMap (es[·]?)).map (·.1))) :
  relayAll t es n=(order.filterMap (es[·]?),t',false):=by
 unfold relayAll
 rw[e]
 dsimp only
 have c:coversAll order es.size=true:=by unfold coversAll;rw[List.isPerm_iff];exact pm
 have f:=T'.fits
 rw[C9] at f
 rw[c,f]
 rfl
theorem add_int {a:Addr}{es:Array (Int×BM)}{k:Int}{tok:Tok}{Q:Bool->BQ->Prop}(I:dD w s.heap a es)(els:∀e∈es,∃k',ElI e k')(hz:es.size<300)
  (hin:(∃e∈es,ElI e k)->Q false s)
  (hnew:(¬ ∃e∈es,ElI e k)->∀h' es',Heap.SameBut a s.heap h'->dD w h' a es'->es'.toList.Perm ((hashInt k,.int k tok) :: es.toList)->Q true { s with heap:=h' }) :
  Ci (Cs prog w) A (setAddHashed a (.int k tok) (hashInt k)) Q E s:=by
 obtain ⟨ep,t,ho,T,rm,hl,hp⟩:=I
 have hel:=uN (prog:=prog) (w:=w) els
 have hb:es.size<scanBound:=by unfold scanBound;lia
 have hf:t.fits es.size=true:=by have:=T.fits;rwa [C9] at this
 unfold setAddHashed setAddHashedIn
 refine Dj (BJ (bU ho T ?_))
 dsimp only
 rw[byScan_of (knd:=intKind prog w) rfl hb hel]
 simp only[↓reduceIte]
 unfold setAddByScan
 refine BJ ?_
 refine BJ (EB ?_)
 refine BJ (wpAny_setScan_of (knd:=intKind prog w) (k:=k) (HK _ _ _ _) ho rfl hf hel ?_)
 cases hr:List.findIdx? (λe=>(intKind prog w).is k e.2) es.toList with
 | some j =>
  dsimp only
  obtain ⟨hj,hpj,_⟩:=List.findIdx?_eq_some_iff_getElem.mp hr
  refine BN (BN (hin ⟨es.toList[j],CI.mp (Fm hj),?_⟩))
  obtain ⟨k',t',e'⟩:=els es.toList[j] (CI.mp (Fm hj))
  obtain ⟨u,e2⟩:=GB hpj
  rw[e'] at e2
  cases e2
  exact ⟨_,e'⟩
 | none =>
  dsimp only
  have nx:¬ ∃e∈es,ElI e k:=by
   rintro ⟨e,he,t',rfl⟩
   have:=List.findIdx?_eq_none_iff.mp hr _ (CI.mpr he)
   rw[HK] at this
   cases this
  have hgw:∀(b:Bool) {s₁:BQ} {Q':Unit->BQ->Prop},Q' () s₁->Ci (Cs prog w) A (match b with | true=>rule "set.scan.the-table-gave-way" | false=>pure ()) Q' E s₁ :=
   λb s₁ Q' hq=>by cases b <;> first | exact BN hq | exact EB hq
  obtain ⟨n,q,hn,W,he,hq,hd⟩:=T.ends (hashInt k)
  have hz':es.size+1<=t.mask:=by
   rcases T.msk with e | e | e | e <;> rw[e] at rm ⊢ <;> lia
  rw[uO T (hashInt k) (.int k tok) hn W he hq hz']
  dsimp only
  refine BJ (BN (a:=()) ?_)
  have T':=T.put W he hq (by rw[C9];exact hz')
  rw[<- fe es (below t.place q.j) (hashInt k,DE k tok) (·.1),hp] at T'
  rw[hp]
  simp only[↓reduceIte]
  refine BJ ?_
  rw[show hashByValue 8 (.int k tok)=pure true from rfl]
  refine BN ?_
  simp only[↓reduceIte]
  have sz:(insertAt es (below t.place q.j) (hashInt k,DE k tok)).size=es.size+1:=cy _ _ _
  refine BJ (iw ho (by rw[sz];lia) λh1 sb1 ho1 =>?_)
  have pm1:=insertAt_perm es (below t.place q.j) (hashInt k,DE k tok)
  rw[T'.tooFull,C9,sz]
  by_cases full:(es.size+1)*5≥t.mask*3
  ·rw[if_pos (by simpa using full)]
   obtain ⟨t2,order,e2,pm2,T2,pe2,l2,p2,rm2⟩:=mH T' sz (n:=es.size) (by simpa using rm) full hz
   rw[pN e2 pm2 T2]
   dsimp only
   have z2:(order.filterMap ((insertAt es (below t.place q.j) (hashInt k,DE k tok))[·]?)).size=es.size+1:=by
    rw[<- BW,pe2.length_eq,BW,sz]
   refine BJ (BN (a:=()) ?_)
   refine BJ (iw (s:={ s with heap:=h1 }) ho1 (by rw[z2];lia) λh2 sb2 ho2 =>?_)
   refine BN (BN (hnew nx h2 _ (sb1.trans sb2) ⟨_,_,ho2,T2,by rw[z2];exact rm2,by rw[l2];exact hl,by rw[p2]⟩ (pe2.trans pm1)))
  ·rw[if_neg (by simpa using full)]
   refine BN (BN (hnew nx h1 _ sb1 ⟨_,_,ho1,T',?_,hl,rfl⟩ pm1))
   rw[sz]
   exact Fn full
end
open PySem PySem.SetTable PyProof.Rows PySem.Spec
def TS (h h':Heap):Prop:=∀b o,o.cls = .type "tuple" -> h.get? b=some o->h'.get? b=some o
structure Kd (prog:Ca)(w:CJ)(κ:Type) where
 El:Heap->BM -> κ -> Prop
 hash:κ -> Int
 room:Dd->Prop
 keeps:∀{h h':Heap} {v:BM} {k:κ},El h v k->TS h h'->El h' v k
 inj:∀{h:Heap} {v:BM} {k k':κ},El h v k->El h v k'->k=k'
 add:∀{A:Dd} {E:BM->BQ->Prop} {s:BQ} {a:Addr} {es:Array (Int×BM)} {v:BM} {k:κ} {Q:Bool->BQ->Prop},room A->dD w s.heap a es->(∀e∈es,∃k',e.1=hash k'/\El s.heap e.2 k')->El s.heap v k->es.size<300 →
  ((∃e∈es,El s.heap e.2 k)->∀tk,s.toks<=tk->Q false { s with toks:=tk }) →
  ((¬ ∃e∈es,El s.heap e.2 k)->∀h' es' tk,s.toks<=tk->Heap.SameBut a s.heap h'->dD w h' a es'->es'.toList.Perm ((hash k,v) :: es.toList)->Q true { s with heap:=h',toks:=tk }) →
  Ci (Cs prog w) A (setAdd a v) Q E s
theorem TK.keep {prog:Ca}{w:CJ}{h h':Heap}{ks:List Int}{b:Addr}(x:TK prog w h ks b)(t:TS h h'):TK prog w h' ks b :=
 let ⟨o,items,n,ho,hc,r⟩:=x;⟨o,items,n,t b o hc ho,hc,r⟩
def jk (prog:Ca)(w:CJ):Kd prog w (List Int) where
 El:=λh v ks=>∃b,v = .ref b/\TK prog w h ks b
 hash:=cz prog w
 room:=λA=>A.units<cLine
 keeps:=λ⟨b,e,x⟩ t=>⟨b,e,x.keep t⟩
 inj:=λ⟨b,e,x⟩ ⟨b',e',x'⟩=>by
  rw[e] at e';injection e' with e';subst e';exact x.inj x'
 add:=by
  intro A E s a es v k Q hu I els hv hz hin hnew
  obtain ⟨b,rfl,hk⟩:=hv
  unfold setAdd
  refine Dj (BJ (wpAny_pyHash_tuple hu hk ?_))
  have els':∀e∈es,∃ks',ElT prog w s.heap e ks':=λe he=>by
   obtain ⟨k',e1,b',e2,x⟩:=els e he
   exact ⟨k',b',Jo e1 e2,x⟩
  have conv:∀e∈es,(ElT prog w s.heap e k↔∃b,e.2 = .ref b/\TK prog w s.heap k b):=λe he=>by
   constructor
   ·rintro ⟨b',rfl,x⟩;exact ⟨b',rfl,x⟩
   ·rintro ⟨b',e2,x⟩
    obtain ⟨k',e1,b2,e3,x2⟩:=els e he
    rw[e2] at e3;injection e3 with e3;subst e3
    obtain rfl:=x.inj x2
    exact ⟨b',Jo e1 e2,x⟩
  refine yz (s:={ s with toks:=s.toks+(k.length+1) }) hu I els' hk hz (λx=>hin ?_ _ (EC _ _)) λx h' es' sb I' pm=>hnew ?_ h' es' _ (EC _ _) sb I' pm
  ·obtain ⟨e,he,x⟩:=x;exact ⟨e,he,(conv e he).mp x⟩
  ·rintro ⟨e,he,y⟩;exact x ⟨e,he,(conv e he).mpr y⟩
def sS (prog:Ca)(w:CJ):Kd prog w Int where
 El:=λ_ v k=>∃t,v = .int k t
 hash:=hashInt
 room:=λ_=>True
 keeps:=λx _=>x
 inj:=λ⟨t,e⟩ ⟨t',e'⟩=>by rw[e] at e';injection e'
 add:=by
  intro A E s a es v k Q _ I els hv hz hin hnew
  obtain ⟨t,rfl⟩:=hv
  unfold setAdd
  refine Dj (BJ ((intKind prog w).pyHash (k:=k) (HK _ _ _ _) ?_))
  have els':∀e∈es,∃k',ElI e k':=λe he=>by
   obtain ⟨k',e1,t',e2⟩:=els e he
   exact ⟨k',t',Jo e1 e2⟩
  have conv:∀e∈es,(ElI e k↔∃t,e.2=DE k t):=λe he=>by
   constructor
   ·rintro ⟨t',rfl⟩;exact ⟨t',rfl⟩
   ·rintro ⟨t',e2⟩
    obtain ⟨k',e1,t2,e3⟩:=els e he
    rw[e2] at e3;injection e3 with e3 e4;subst e3
    exact ⟨t',Jo e1 e2⟩
  refine add_int (s:={ s with toks:=s.toks+1 }) I els' hz (λx=>hin ?_ _ (HL _)) λx h' es' sb I' pm=>hnew ?_ h' es' _ (HL _) sb I' pm
  ·obtain ⟨e,he,x⟩:=x;exact ⟨e,he,(conv e he).mp x⟩
  ·rintro ⟨e,he,y⟩;exact x ⟨e,he,(conv e he).mpr y⟩
section
variable  {prog:Ca}{w:CJ}{κ:Type}(kd:Kd prog w κ)
structure Good (h:Heap)(es:Array (Int×BM))(l:List κ):Prop where
 el:∀e∈es,∃k,k∈l/\e.1=kd.hash k/\kd.El h e.2 k
 all:∀k∈l,∃e∈es,kd.El h e.2 k
 dis:es.toList.Pairwise (λe e'=>∀k,kd.El h e.2 k->¬ kd.El h e'.2 k)
 len:es.size<=l.length
variable  {kd}
theorem Good.keeps {h h':Heap}{es:Array (Int×BM)}{l:List κ}(G:Good kd h es l)(t:TS h h'):Good kd h' es l:=by
 refine ⟨λe he =>?_,λk hk =>?_,?_,G.len⟩
 ·obtain ⟨k,a,b,c⟩:=G.el e he;exact ⟨k,a,b,kd.keeps c t⟩
 ·obtain ⟨e,a,b⟩:=G.all k hk;exact ⟨e,a,kd.keeps b t⟩
 ·refine F7 (λ{e e'} he he' x k y z =>?_) G.dis
  obtain ⟨k1,_,_,c1⟩:=G.el e (CI.mp he)
  obtain ⟨k2,_,_,c2⟩:=G.el e' (CI.mp he')
  obtain rfl:=kd.inj y (kd.keeps c1 t)
  obtain rfl:=kd.inj z (kd.keeps c2 t)
  exact x _ c1 c2
theorem Good.nil (h:Heap):Good kd h #[] []:=⟨λe he=>(by simp at he),λk hk=>(by cases hk),(by simp),BS _⟩
theorem Good.same {h:Heap}{es:Array (Int×BM)}{l:List κ}(G:Good kd h es l){k:κ}(x:∃e∈es,kd.El h e.2 k):Good kd h es (l++[k]):=by
 refine ⟨λe he =>?_,λk' hk =>?_,G.dis,by rw[BR];have:=G.len;lia⟩
 ·obtain ⟨k,a,b⟩:=G.el e he;exact ⟨k,CH _ a,b⟩
 ·rcases B0.mp hk with hk | hk
  ·exact G.all k' hk
  ·rw[BU] at hk;subst hk;exact x
theorem Good.more {h:Heap}{es es':Array (Int×BM)}{l:List κ}(G:Good kd h es l){k:κ}{v:BM}(hv:kd.El h v k)(x:¬ ∃e∈es,kd.El h e.2 k)(pm:es'.toList.Perm ((kd.hash k,v) :: es.toList)):Good kd h es' (l++[k]):=by
 have mem:∀e,e∈es'↔e=(kd.hash k,v)\/e∈es:=λe=>by
  rw[<- CI,pm.mem_iff,Cg,CI]
 refine ⟨λe he =>?_,λk' hk =>?_,?_,?_⟩
 ·rcases (mem e).mp he with rfl | he
  ·exact ⟨k,Cu _ (BU.mpr rfl),rfl,hv⟩
  ·obtain ⟨k,a,b⟩:=G.el e he;exact ⟨k,CH _ a,b⟩
 ·rcases B0.mp hk with hk | hk
  ·obtain ⟨e,a,b⟩:=G.all k' hk;exact ⟨e,(mem e).mpr (.inr a),b⟩
  ·rw[BU] at hk;subst hk;exact ⟨_,(mem _).mpr (.inl rfl),hv⟩
 ·rw[pm.pairwise_iff (λ{a b} z k y1 y2=>z k y2 y1)]
  refine List.Pairwise.cons (λe he k' y1 y2 =>?_) G.dis
  obtain rfl:=kd.inj y1 hv
  exact x ⟨e,CI.mp he,y2⟩
 ·have:=pm.length_eq
  rw[Ct,BW,BW] at this
  rw[BR,C7]
  have:=G.len
  lia
end
section
variable  {prog:Ca}{w:CJ}{A:Dd}{R:Result->BQ->Prop}{I:Addr}{fp:List Addr}{G:Array GenState->Array GenState->Prop}{n:Nat}{P:Nat->BM->Prop}{St:Nat->BQ->Prop}{κ:Type}{kd:Kd prog w κ}
theorem pO (W:WalksS prog w A.in1 I fp [I] G n P St)(hrm:kd.room A.in1)(hI:∀i s,St i s->∃o,s.heap.get? I=some o/\o.cls ≠ .type "tuple")(S:Addr)(hSf:S∉fp)(hIf:I∈fp)(ks:List κ)(hn:n=ks.length)(hb:n<300) :
  ∀(k i:Nat) (s:BQ) (es:Array (Int×BM)),n-i=k->i<=n->St i s->(∀j v,P j v->∃q,ks[j]? = some q/\kd.El s.heap v q) →
   dD w s.heap S es->Good kd s.heap es (ks.take i) →
   (∀s' es',Moved [S,I] G s s'->dD w s'.heap S es'->Good kd s'.heap es' ks->R (.ok (.ret .none)) s') →
   FC (Cs prog w) A (.builtin "set.update.loop" ⟨[.ref S,.ref I],[]⟩) R s:=by
 have hSI:S≠I:=λe=>hSf (e ▸ hIf)
 have ts:∀i s s',St i s->Moved [I] G s s'->TS s.heap s'.heap:=λi s s' hst hm b o hc e=>by
  refine hm.heap b o (λhb =>?_) e
  rw[BU] at hb
  obtain ⟨o',e',c'⟩:=hI i s hst
  rw[hb,e'] at e;cases e;exact c' hc
 intro k
 induction k with
 | zero =>
  intro i s es hk hi hst hv hS hG hR
  have hin:i=n:=by omega
  subst hin
  refine CQ HM ?_
  rw[CD Fi _]
  show Ci _ A.in1 (pyNext (.ref I) >>= _) _ _ s
  refine BJ (W.done s _ _ hst λs' hm =>?_)
  show Ci _ A.in1 (ret Es) _ _ s'
  rw[B9 (by omega)] at hG
  exact BN (hR s' es (hm.mono λb hb=>by rw[BU] at hb;simp[hb]) (hS.at λo e=>hm.heap S o (by rw[BU];exact hSI) e) (hG.keeps (ts _ _ _ hst hm)))
 | succ k ih =>
  intro i s es hk hi hst hv hS hG hR
  have hlt:i<n:=by omega
  refine CQ HM ?_
  rw[CD Fi _]
  show Ci _ A.in1 (pyNext (.ref I) >>= _) _ _ s
  refine BJ (W.item i s _ _ hlt hst λv s' hP hst' hm =>?_)
  have t0:=ts _ _ _ hst hm
  obtain ⟨q,eq,hq⟩:=hv i v hP
  have hS':dD w s'.heap S es:=hS.at λo e=>hm.heap S o (by rw[BU];exact hSI) e
  have hG':=hG.keeps t0
  have tk:ks.take (i+1)=ks.take i++[q]:=by rw[KG,eq];rfl
  show Ci _ A.in1 (HY [v] (setAdd S v) >>= _) _ _ s'
  have hm2:Moved [S,I] G s s':=hm.mono λb hb=>by rw[BU] at hb;simp[hb]
  refine BJ (Dj (kd.add hrm hS' (λe he =>?_) (kd.keeps hq t0) ?_ (λx tk' htk =>?_) λx h' es' tk' htk sb I' pm =>?_))
  ·obtain ⟨k',_,a,b⟩:=hG'.el e he;exact ⟨k',a,b⟩
  ·have:=hG'.len;rw[Di] at this;omega
  ·refine BN ⟨Dk Fi _,ih (i+1) _ es (by omega) hlt (W.frame _ s' _ _ hst' htk λb _ o e=>e) (λj v' p =>?_) hS' (by rw[tk];exact hG'.same x) λs'' es'' hm'' a b =>?_⟩
   ·obtain ⟨q',a,b⟩:=hv j v' p;exact ⟨q',a,kd.keeps b t0⟩
   ·exact hR s'' es'' (KY W.gtrans (hm2.then_heap htk λb o _ e=>e) hm'') a b
  ·have t1:TS s'.heap h':=λb o hc e=>by
    rw[sb.2 b (λhb=>by
     obtain ⟨ep,t,ho,_⟩:=hS'
     rw[hb,ho] at e;cases e;simp[aW] at hc)]
    exact e
   refine BN ⟨Dk Fi _,ih (i+1) _ es' (by omega) hlt (W.frame _ s' _ _ hst' htk λb hb o e =>?_) (λj v' p =>?_) I' (by rw[tk];exact (hG'.more (kd.keeps hq t0) x pm).keeps t1) λs'' es'' hm'' a b =>?_⟩
   ·rw[sb.2 b (λh:b=S=>hSf (h ▸ hb))];exact e
   ·obtain ⟨q',a,b⟩:=hv j v' p;exact ⟨q',a,kd.keeps (kd.keeps b t0) t1⟩
   ·refine hR s'' es'' (KY W.gtrans (hm2.then_heap htk λb o hb e =>?_) hm'') a b
    rw[sb.2 b (λh:b=S=>hb (by rw[h];exact Ck))];exact e
end
section
variable  {prog:Ca}{w:CJ}{A:Dd}{E:BM->BQ->Prop}{s:BQ}
theorem sT (a:BM){Q₁:BM->BQ->Prop}
    (h:Q₁ (.ref s.heap.objs.size) { s with heap:=s.heap.push (aW #[] 0 (.fresh 0 0 (!w.params.followText "set-order"))) }) :
    FC (Cs prog w) A (.call (.builtin "set.__new__") ⟨[.type "set",a],[]⟩) (wants Q₁ E) s:=by
  refine IL ?_
  show Ci _ A.in1 (do checkBuiltinCall "set.__new__" ⟨[.type "set",a],[]⟩;again (.builtin "set.__new__" ⟨[.type "set",a],[]⟩)) _ _ s
  refine BJ (D4 (PySem.F.newCall_set_1 a) (BN ⟨Dk Km _,CQ F.entry_set_new ?_⟩))
  rw[CD Km _]
  unfold Builtin.«set.__new__» Builtin.Frozenset.newClass
  have hsub:=sub_set_self
  obtain ⟨hp,g,d,tk,os⟩:=s
  dsimp only
  wp_walk
  refine Ih (BN ?_)
  dsimp only
  simp only[newObj]
  refine BJ (wpAny_alloc (BN ?_))
  exact BN h
theorem uP (led:Bool):Tab (.fresh 0 0 led) #[]:=by
 refine ⟨rfl,λi j a b e =>?_,rfl,λi j e =>?_,.inl rfl,CT _,λi j h e =>?_⟩ <;> (simp[SetTable.fresh] at e)
theorem kj {h:Heap}{a:Addr}(ho:h.get? a=some (aW #[] 0 (.fresh 0 0 (!w.params.followText "set-order")))):dD w h a #[] :=
 ⟨0,_,ho,(by rw[Array.map_empty];exact uP _),(by show 0*5<7*3;decide),rfl,rfl⟩
theorem sub_tuple_set:isSubtype (.type "tuple") (.type "set")=pure false:=by rw[D8];kernel_rfl
theorem sub_tuple_frozenset:isSubtype (.type "tuple") (.type "frozenset")=pure false:=by rw[D8];kernel_rfl
end
open PySem PySem.SetTable PyProof.Rows PySem.Spec
section
variable  {prog:Ca}{w:CJ}{A:Dd}{E:BM->BQ->Prop}{s:BQ}
set_option maxHeartbeats 3200000 in
theorem fL {κ:Type}{kd:Kd prog w κ}{l:Addr}{items:Array BM}{ks:List κ}{Q:BM->BQ->Prop}
  (hh:A.handled=none) (hrm:kd.room A.in1.in1.in1) (hl:s.heap.IsTuple l items) (hz:items.size=ks.length) (hi:∀(i:Nat) v,items[i]? = some v->∃q,ks[i]? = some q/\kd.El s.heap v q) (hb:items.size<300)
  (h:∀(h':Heap) (es:Array (Int×BM)) (tk:Nat),s.toks<=tk->dD w h' s.heap.objs.size es->Good kd h' es ks →
   (∀b o,s.heap.get? b=some o->h'.get? b=some o)->Q (.ref s.heap.objs.size) { s with heap:=h',toks:=tk }) :
  Ci (Cs prog w) A (call (.type "set") [.ref l]) Q E s:=by
 obtain ⟨c,tl,hmro⟩:=DQ.mro
 have hmade:=DQ.made
 have hsub:=DQ.sub
 refine IQ (IL ?_)
 show Ci _ _ (callAny (.type "set") _) _ _ _
 refine BN ⟨Gq _ (by decide +kernel),CQ JO ?_⟩
 rw[Js (IM "set" [.ref l] []) rfl]
 have h1:=DQ.notType
 have h2:=DQ.canCreate
 have hct:=Il (.ref l)
 repeat (any_goals (first | assumption | wp_step))
 have gd:(s.heap.push (aW #[] 0 (.fresh 0 0 (!w.params.followText "set-order")))).objs.size=s.heap.objs.size+1:=DR _ _
 refine Fc (sT (w:=w) (.ref l) (E:=E) (Q₁:=λobj s₁=>obj = .ref s.heap.objs.size/\s₁={ s with heap:=s.heap.push (aW #[] 0 (.fresh 0 0 (!w.params.followText "set-order"))) }) ⟨rfl,rfl⟩) λr s₁ hr =>?_
 cases r with
 | error e=>exact hr
 | ok fl =>
  cases fl with
  | ret obj =>
   obtain ⟨rfl,rfl⟩:=hr
   generalize hled:(!w.params.followText "set-order")=led at gd ⊢
   have hS:(s.heap.push (aW #[] 0 (.fresh 0 0 led))).get? s.heap.objs.size=some (aW #[] 0 (.fresh 0 0 led)):=BZ _ rfl
   have hT:Shared.TypeIs { s with heap:=s.heap.push (aW #[] 0 (.fresh 0 0 led)) } (.ref s.heap.objs.size) "set" :=⟨_,hS,rfl⟩
   have hli:=DQ.init.lookup
   have hbi:=DQ.init.bind (.ref s.heap.objs.size)
   repeat (any_goals (first | assumption | wp_step))
   refine Fc (E2 (R:=wants (λr s₂=>r = .none/\∃h' es tk,s₂={ s with heap:=h',toks:=tk }/\s.toks<=tk ∧
     dD w h' s.heap.objs.size es/\Good kd h' es ks ∧
     (∀b o,s.heap.get? b=some o->h'.get? b=some o)) E) DQ.init.plain Kc (check_set_init_1 hT ?_)) λr₂ s₂ hr₂ =>?_
   ·obtain ⟨ol,hol,hcl,nl,hdl⟩:=id hl
    obtain ⟨ocls,odict,odata,oslots⟩:=ol
    simp only at hcl hdl
    subst hcl;subst hdl
    have hol':(s.heap.push (aW #[] 0 (.fresh 0 0 led))).get? l=some { cls :=.type "tuple",dict:=odict,data :=.seq items nl,slots:=oslots }:=BL _ hol
    have hsls:=sub_tuple_set
    have hslf:=sub_tuple_frozenset
    have hne:(DM "tuple" == DM "dict")=false:=by decide
    have hl1:(s.heap.push (aW #[] 0 (.fresh 0 0 led))).IsTuple l items:=⟨_,hol',rfl,nl,rfl⟩
    unfold Builtin.«set.__init__» noKeywords Builtin.Frozenset.updateFrom
    generalize hPI:pyIter=PI
    wp_walk
    subst hPI
    refine EW hl1 ?_
    refine BJ (Fp ?_)
    have hlS:l<s.heap.objs.size:=B2 hol
    have hh3:A.in1.in1.in1.handled=none:=by simp[hh]
    have hneI:l≠(s.heap.push (aW #[] 0 (.fresh 0 0 led))).objs.size:=by
     rw[gd];exact Cb (C8 hlS)
    have hSf:s.heap.objs.size∉[(s.heap.push (aW #[] 0 (.fresh 0 0 led))).objs.size,l]:=by
     rw[gd];simp only[Cg,BU,ET,or_false,not_or]
     exact ⟨Cb (Dz _),E9 hlS⟩
    refine pO (kd:=kd) ((HN hh3 _ l hneI items).toS) hrm (λi s' st =>?hI) s.heap.objs.size hSf Ck ks hz hb (items.size-0) 0 _ #[] (by lia) (CT _)
     ⟨⟨_,BZ _ rfl,rfl,rfl⟩,(hl1.push _)⟩ ?hv (by subst hled;exact kj (BL _ hS)) (Good.nil _) ?hR
    case hI =>
     obtain ⟨o,ho,hc,_⟩:=st.1
     exact ⟨o,ho,by rw[hc];decide⟩
    case hv =>
     intro j v hv
     obtain ⟨q,e,x⟩:=hi j v hv
     exact ⟨q,e,kd.keeps x λb o _ e=>BL _ (BL _ e)⟩
    case hR =>
     intro s' es' hm hS' hG'
     obtain ⟨h',g',d',tk',os'⟩:=s'
     have eg:g'=s.gens:=hm.gens
     have ed:d'=s.drawn:=hm.drawn
     have eo:os'=s.os:=hm.os
     subst eg;subst ed;subst eo
     show Ci _ _ _ _ _ _
     refine BN ?_
     show Ci _ _ (ret Es) _ _ _
     refine BN ⟨rfl,h',es',tk',rfl,hm.toks,hS',hG',λb o e =>?_⟩
     have hbb:=B2 e
     have hb1:b≠s.heap.objs.size:=Cb hbb
     have hb2:b≠(s.heap.push (aW #[] 0 (.fresh 0 0 led))).objs.size:=by
      rw[gd];exact Cb (C8 hbb)
     exact hm.heap b o (by simp only[Cg,BU,ET,or_false,not_or];exact ⟨hb1,hb2⟩) (BL _ (BL _ e))
   ·cases r₂ with
    | error e=>exact hr₂
    | ok fl₂ =>
     cases fl₂ with
     | ret r =>
      obtain ⟨rfl,h',es,tk,rfl,htk,hS',hG',hk'⟩:=hr₂
      repeat (any_goals (first | assumption | wp_step))
      exact h _ _ _ htk hS' hG' hk'
     | _=>exact hr₂.elim
  | _=>exact hr.elim
end
open PySem PySem.SetTable PyProof.Rows PySem.Spec
section
variable  {prog:Ca}{w:CJ}{A:Dd}{E:BM->BQ->Prop}{s:BQ}
set_option maxHeartbeats 3200000 in
theorem call_set_list {κ:Type}{kd:Kd prog w κ}{l:Addr}{items:Array BM}{ks:List κ}{Q:BM->BQ->Prop}
  (hh:A.handled=none) (hrm:kd.room A.in1.in1.in1) (hl:s.heap.IsList l items) (hz:items.size=ks.length) (hi:∀(i:Nat) v,items[i]? = some v->∃q,ks[i]? = some q/\kd.El s.heap v q) (hb:items.size<300)
  (h:∀(h':Heap) (es:Array (Int×BM)) (tk:Nat),s.toks<=tk->dD w h' s.heap.objs.size es->Good kd h' es ks →
   (∀b o,s.heap.get? b=some o->h'.get? b=some o)->Q (.ref s.heap.objs.size) { s with heap:=h',toks:=tk }) :
  Ci (Cs prog w) A (call (.type "set") [.ref l]) Q E s:=by
 obtain ⟨c,tl,hmro⟩:=DQ.mro
 have hmade:=DQ.made
 have hsub:=DQ.sub
 refine IQ (IL ?_)
 show Ci _ _ (callAny (.type "set") _) _ _ _
 refine BN ⟨Gq _ (by decide +kernel),CQ JO ?_⟩
 rw[Js (IM "set" [.ref l] []) rfl]
 have h1:=DQ.notType
 have h2:=DQ.canCreate
 have hct:=Il (.ref l)
 repeat (any_goals (first | assumption | wp_step))
 have gd:(s.heap.push (aW #[] 0 (.fresh 0 0 (!w.params.followText "set-order")))).objs.size=s.heap.objs.size+1:=DR _ _
 refine Fc (sT (w:=w) (.ref l) (E:=E) (Q₁:=λobj s₁=>obj = .ref s.heap.objs.size/\s₁={ s with heap:=s.heap.push (aW #[] 0 (.fresh 0 0 (!w.params.followText "set-order"))) }) ⟨rfl,rfl⟩) λr s₁ hr =>?_
 cases r with
 | error e=>exact hr
 | ok fl =>
  cases fl with
  | ret obj =>
   obtain ⟨rfl,rfl⟩:=hr
   generalize hled:(!w.params.followText "set-order")=led at gd ⊢
   have hS:(s.heap.push (aW #[] 0 (.fresh 0 0 led))).get? s.heap.objs.size=some (aW #[] 0 (.fresh 0 0 led)):=BZ _ rfl
   have hT:Shared.TypeIs { s with heap:=s.heap.push (aW #[] 0 (.fresh 0 0 led)) } (.ref s.heap.objs.size) "set" :=⟨_,hS,rfl⟩
   have hli:=DQ.init.lookup
   have hbi:=DQ.init.bind (.ref s.heap.objs.size)
   repeat (any_goals (first | assumption | wp_step))
   refine Fc (E2 (R:=wants (λr s₂=>r = .none/\∃h' es tk,s₂={ s with heap:=h',toks:=tk }/\s.toks<=tk ∧
     dD w h' s.heap.objs.size es/\Good kd h' es ks ∧
     (∀b o,s.heap.get? b=some o->h'.get? b=some o)) E) DQ.init.plain Kc (check_set_init_1 hT ?_)) λr₂ s₂ hr₂ =>?_
   ·obtain ⟨ol,hol,hcl,nl,hdl⟩:=id hl
    obtain ⟨ocls,odict,odata,oslots⟩:=ol
    simp only at hcl hdl
    subst hcl;subst hdl
    have hol':(s.heap.push (aW #[] 0 (.fresh 0 0 led))).get? l=some { cls :=.type "list",dict:=odict,data :=.seq items nl,slots:=oslots }:=BL _ hol
    have hsls:=PySem.F.sub_list_set
    have hslf:=PySem.F.sub_list_frozenset
    have hne:(DM "list" == DM "dict")=false:=by decide
    have hl1:(s.heap.push (aW #[] 0 (.fresh 0 0 led))).IsList l items:=⟨_,hol',rfl,nl,rfl⟩
    unfold Builtin.«set.__init__» noKeywords Builtin.Frozenset.updateFrom
    generalize hPI:pyIter=PI
    wp_walk
    subst hPI
    refine E8 hl1 ?_
    refine BJ (Fp ?_)
    have hlS:l<s.heap.objs.size:=B2 hol
    have hh3:A.in1.in1.in1.handled=none:=by simp[hh]
    have hneI:l≠(s.heap.push (aW #[] 0 (.fresh 0 0 led))).objs.size:=by
     rw[gd];exact Cb (C8 hlS)
    have hSf:s.heap.objs.size∉[(s.heap.push (aW #[] 0 (.fresh 0 0 led))).objs.size,l]:=by
     rw[gd];simp only[Cg,BU,ET,or_false,not_or]
     exact ⟨Cb (Dz _),E9 hlS⟩
    refine pO (kd:=kd) ((JK hh3 _ l hneI items).toS) hrm (λi s' st =>?hI) s.heap.objs.size hSf Ck ks hz hb (items.size-0) 0 _ #[] (by lia) (CT _)
     ⟨⟨_,BZ _ rfl,rfl,rfl⟩,(hl1.push _)⟩ ?hv (by subst hled;exact kj (BL _ hS)) (Good.nil _) ?hR
    case hI =>
     obtain ⟨o,ho,hc,_⟩:=st.1
     exact ⟨o,ho,by rw[hc];decide⟩
    case hv =>
     intro j v hv
     obtain ⟨q,e,x⟩:=hi j v hv
     exact ⟨q,e,kd.keeps x λb o _ e=>BL _ (BL _ e)⟩
    case hR =>
     intro s' es' hm hS' hG'
     obtain ⟨h',g',d',tk',os'⟩:=s'
     have eg:g'=s.gens:=hm.gens
     have ed:d'=s.drawn:=hm.drawn
     have eo:os'=s.os:=hm.os
     subst eg;subst ed;subst eo
     show Ci _ _ _ _ _ _
     refine BN ?_
     show Ci _ _ (ret Es) _ _ _
     refine BN ⟨rfl,h',es',tk',rfl,hm.toks,hS',hG',λb o e =>?_⟩
     have hbb:=B2 e
     have hb1:b≠s.heap.objs.size:=Cb hbb
     have hb2:b≠(s.heap.push (aW #[] 0 (.fresh 0 0 led))).objs.size:=by
      rw[gd];exact Cb (C8 hbb)
     exact hm.heap b o (by simp only[Cg,BU,ET,or_false,not_or];exact ⟨hb1,hb2⟩) (BL _ (BL _ e))
   ·cases r₂ with
    | error e=>exact hr₂
    | ok fl₂ =>
     cases fl₂ with
     | ret r =>
      obtain ⟨rfl,h',es,tk,rfl,htk,hS',hG',hk'⟩:=hr₂
      repeat (any_goals (first | assumption | wp_step))
      exact h _ _ _ htk hS' hG' hk'
     | _=>exact hr₂.elim
  | _=>exact hr.elim
end
open PySem PySem.SetTable PyProof.Rows
namespace F9
theorem fg:Slot "set_iterator" "__next__" "set_iterator.__next__" :=
 .of (owner := "set_iterator") (n := "__next__") (by rw[Ey,DI];kernel_rfl) (by decide +kernel) (by decide +kernel) (by decide +kernel)
  (by first | exact .inl (by decide +kernel) | exact .inr (by decide +kernel)) (by rw[D8];kernel_rfl)
theorem lN:entryFor table "set_iterator.__next__" = some Builtin.«set_iterator.__next__» := Ii (by kernel_rfl)
theorem nX (a:BM):argsOk "set_iterator.__next__" ⟨[a],[]⟩:=by
 unfold argsOk;kernel_rfl
theorem ko:entryFor table "set.__iter__" = some Builtin.«frozenset.__iter__» :=
 entryFor_alias (id' := "frozenset.__iter__") (by kernel_rfl) rfl (by decide +kernel) (by kernel_rfl)
end F9
theorem kq {α:Type}:∀(l:List α) (i:Nat) (x:α),l[i]? = some x->(x :: l.eraseIdx i).Perm l
 | [],i,x,h=>by simp at h
 | y :: l,0,x,h=>by simp at h;subst h;exact FR _
 | y :: l,i+1,x,h=>by
  rw[EF] at h
  rw[Gk]
  exact (List.Perm.swap y x _).trans (List.Perm.cons y (kq l i x h))
theorem sU {α:Type}(next:Nat->Nat):∀(fuel k:Nat) (left:List α) (out:Array α),left.length=fuel->(pickOrder.go next fuel k left out).toList.Perm (out.toList++left)
 | 0,k,left,out,h=>by
  have:left=[]:=Fg.mp h
  subst this
  unfold pickOrder.go
  rw[CK]
 | fuel+1,k,left,out,h=>by
  unfold pickOrder.go
  have hl:next k%left.length<left.length:=GD _ (by lia)
  have e:=BO hl
  rw[e]
  dsimp only
  have ih:=sU next fuel (k+1) (left.eraseIdx (next k%left.length)) (out.push left[next k%left.length]) (by rw[FP,if_pos hl];lia)
  refine ih.trans ?_
  rw[Em,Cy]
  exact D5 _ (kq _ _ _ e)
theorem uQ {α:Type}(next:Nat->Nat)(xs:Array α):(pickOrder next xs).toList.Perm xs.toList:=by
 unfold pickOrder
 have:=sU next xs.size 0 xs.toList #[] (by simp)
 simpa using this
section
variable  {prog:Ca}{w:CJ}{A:Dd}{E:BM->BQ->Prop}{s:BQ}
def walkVals (w:CJ)(a:Addr)(es:Array (Int×BM))(ep:Nat):List BM :=
 if w.params.followText "set-order" = true then (pickOrder (w.params.setOrder a ep) es).toList.map (·.2) else es.toList.map (·.2)
theorem mJ (w:CJ)(a:Addr)(es:Array (Int×BM))(ep:Nat):(walkVals w a es ep).Perm (es.toList.map (·.2)):=by
 unfold walkVals
 split
 ·exact (uQ _ _).map _
 ·exact FR _
theorem iQ {Q:Bool->BQ->Prop}(h:Q (w.params.followText "set-order") s):Ci (Cs prog w) A setsByText Q E s:=by
 unfold setsByText
 exact BJ (Ih (BN h))
theorem rD {a:Addr}{es:Array (Int×BM)}{ep:Nat}{t:SetTable}{Q:Option (BM×Nat)->BQ->Prop}(ho:s.heap.get? a=some (aW es ep t))(T:Tab t (es.map (·.1)))(hl:t.led = !w.params.followText "set-order")(hp:t.plain=true){slot i:Nat}
  (hs:w.params.followText "set-order" = false->below t.place slot=i)
  (hy:∀x slot',(walkVals w a es ep)[i]? = some x->(w.params.followText "set-order" = false->below t.place slot'=i+1)->Q (some (x,slot')) s)
  (hn:(walkVals w a es ep)[i]? = none->Q none s):Ci (Cs prog w) A (setNext a slot i ep) Q E s:=by
 unfold setNext
 refine BJ (bU ho T ?_)
 dsimp only
 refine BJ (iQ ?_)
 cases hb:w.params.followText "set-order" with
 | true =>
  rw[hb] at hs hy
  simp only[bne_self_eq_false,Ce,if_true,if_false]
  refine BJ ?_
  unfold setWalk
  refine BJ (bU ho T ?_)
  dsimp only
  refine BJ (iQ ?_)
  rw[hb]
  simp only[if_true]
  refine BJ (Ih (BN ?_))
  refine BN ?_
  have ew:(walkVals w a es ep)[i]? = ((pickOrder (w.params.setOrder a ep) es)[i]?).map (·.2):=by
   unfold walkVals
   rw[if_pos hb,B7,B3]
  show Q (((pickOrder (w.params.setOrder a ep) es)[i]?).map λe=>(e.2,slot)) s
  cases hx:(pickOrder (w.params.setOrder a ep) es)[i]? with
  | none=>rw[hx] at ew;exact hn ew
  | some e=>rw[hx] at ew;exact hy _ _ ew (λq=>by cases q)
 | false =>
  have hs':=hs hb
  simp only[Ce,if_false]
  have ew:(walkVals w a es ep)[i]? = (es[i]?).map (·.2):=by
   unfold walkVals
   rw[if_neg (by rw[hb];exact B6),B7,B3]
  show Ci _ _ (if (!t.plain && decide (es.size>1))=true then _ else _) _ _ _
  rw[hp]
  simp only[DN,Hs,Ce,if_false]
  refine BJ ?_
  show Ci _ _ (if (!t.led && !es.isEmpty)=true then _ else _) _ _ _
  rw[hl,hb]
  simp only[IX,DN,Hs,Ce,if_false]
  refine BN ?_
  rw[hs']
  by_cases hi:i<es.size
  ·have ee:es[i]? = some es[i]:=Cp hi
   have hpl:i<t.place.size:=by rw[T.size,C9];exact hi
   have ep':t.place[i]? = some t.place[i]:=Cp hpl
   rw[ee,ep']
   rw[ee] at ew
   exact BN (hy _ _ ew λ_=>rj T.rise ep')
  ·have ee:es[i]? = none:=Eh (by lia)
   rw[ee]
   rw[ee] at ew
   exact BN (hn ew)
def iR (h:Heap)(it a:Addr)(slot i n ep:Nat):Prop:=h.get? it=some { cls :=.type "set_iterator",data :=.fields #[.int slot 0,.int i 0,.ref a,.int n 0,.int ep 0] }
theorem iR.typeIs {it a:Addr}{slot i n ep:Nat}(x:iR s.heap it a slot i n ep):s.TypeIs (.ref it) "set_iterator" :=⟨_,x,rfl⟩
end
open PySem PySem.SetTable PyProof.Rows
section
variable  {prog:Ca}{w:CJ}{A:Dd}{E:BM->BQ->Prop}{s:BQ}
structure rE (w:CJ)(h:Heap)(it a:Addr)(es:Array (Int×BM))(ep i:Nat):Prop where
 st:∃t slot,h.get? a=some (aW es ep t)/\Tab t (es.map (·.1))/\t.led=(!w.params.followText "set-order")/\t.plain=true/\(w.params.followText "set-order" = false->below t.place slot=i)/\iR h it a slot i es.size ep
theorem sV {it a:Addr}{es:Array (Int×BM)}{ep i:Nat}{Q:Option BM->BQ->Prop}(hh:A.handled=none)(hne:it≠a)(O:rE w s.heap it a es ep i)
  (hy:∀x h',(walkVals w a es ep)[i]? = some x->rE w h' it a es ep (i+1)->Heap.SameBut it s.heap h'->Q (some x) { s with heap:=h' })
  (hn:(walkVals w a es ep)[i]? = none->∀h',Heap.ExtBut it s.heap h'->Q none { s with heap:=h' }) :
  Ci (Cs prog w) A (pyNext (.ref it)) Q E s:=by
 obtain ⟨t,slot,ho,T,hl,hp,hs,hit⟩:=O.st
 have hf:t.fits es.size=true:=by have:=T.fits;rwa [C9] at this
 unfold pyNext
 refine BJ (FJ (EG (name:=Str.ofString "__next__") hit.typeIs F9.fg
  (DS F9.fg hit.typeIs F9.lN ?_ (F9.nX _))))
 show Ci _ _ (fieldsOf (.ref it) >>= _) _ _ s
 refine BJ (wpAny_fieldsOf hit rfl ?_)
 show Ci _ _ (setEntries a >>= _) _ _ s
 refine BJ (Jj ho rfl hf ?_)
 rw[if_neg (by simp)]
 show Ci _ _ (setNext a ((slot:Int).toNat) ((i:Int).toNat) ((ep:Int).toNat) >>= _) _ _ s
 rw[EI,EI,EI]
 refine BJ (rD ho T hl hp hs (λx slot' ex hs' =>?_) λex =>?_)
 ·dsimp only
  refine BJ (Hq hit (by simp) λh1 e1 sb1 =>?_)
  refine BJ (Hq e1 (by simp) λh2 e2 sb2 =>?_)
  refine BN ⟨x,rfl,BN (hy x h2 ex ⟨t,slot',?_,T,hl,hp,hs',?_⟩ (sb1.trans sb2))⟩
  ·rw[(sb1.trans sb2).2 a (Dq hne)];exact ho
  ·unfold iR
   rw[e2]
   simp[Gw]
 ·dsimp only
  refine BJ (Hq hit (by simp) λh1 e1 sb1 =>?_)
  show Ci _ _ (newExc (.type "StopIteration") [] >>= _) _ _ _
  refine BJ ?_
  simp only[newExc,newTuple]
  refine BJ (CO ?_ (by size_fits))
  refine BJ (m:=firstArgMember _ _) (D4 (a:=Es) (by first | rfl | (simp only[firstArgMember];rfl)) ?_)
  refine CO ?_ (by size_fits)
  simp only[raiseNew]
  refine BJ (wpAny_handled ?_)
  first | rw[show A.in1.handled=none from hh] | rw[hh]
  refine BJ (BN (wpAny_throw ?_))
  refine BJ (EU (T := "StopIteration") (b:=true) ⟨_,BZ _ rfl,rfl⟩ isSubtype_stop ?_)
  exact BN (hn ex _ ((sb1.extBut.push _).push _))
theorem pP {it a S:Addr}{es:Array (Int×BM)}{ep:Nat}{res:BM}{R:Result->BQ->Prop}(hh:A.in1.handled=none)(hne:it≠a)(hSI:S≠it)(hSa:S≠a)(hz:es.size<300) :
  ∀(k i:Nat) (h:Heap) (acc:Array BM) (c:Nat),es.size-i=k->i<=es.size->rE w h it a es ep i->h.get? S=some { cls :=.type "list",dict:=none,data :=.seq acc c,slots := #[] }->acc.toList=(walkVals w a es ep).take i →
  (∀h' acc' c',(∀b o,b≠S->b≠it->h.get? b=some o->h'.get? b=some o)->h'.get? S=some { cls :=.type "list",dict:=none,data :=.seq acc' c',slots := #[] }->acc'.toList=walkVals w a es ep->R (.ok (.ret res)) { s with heap:=h' }) →
  FC (Cs prog w) A (.builtin "list.extend.loop" ⟨[.ref S,.ref it,res],[]⟩) R { s with heap:=h }:=by
 have lw:(walkVals w a es ep).length=es.size:=by rw[(mJ w a es ep).length_eq,BK,BW]
 have zl:300<=B4:=by rw[Er];lia
 intro k
 induction k with
 | zero =>
  intro i h acc c hk hi O hS ha hR
  have hin:i=es.size:=by lia
  subst hin
  refine CQ Jf ?_
  rw[CD EN _]
  show Ci _ A.in1 (pyNext (.ref it) >>= _) _ _ { s with heap:=h }
  refine BJ (sV hh hne O (λx h' ex =>?_) λex h' xb =>?_)
  ·rw[Du (by lia)] at ex;cases ex
  ·refine BN (hR h' acc c (λb o _ hb e=>xb b o hb e) (xb S _ hSI hS) ?_)
   rw[ha,B9 (by lia)]
 | succ k ih =>
  intro i h acc c hk hi O hS ha hR
  have hlt:i<es.size:=by lia
  refine CQ Jf ?_
  rw[CD EN _]
  show Ci _ A.in1 (pyNext (.ref it) >>= _) _ _ { s with heap:=h }
  refine BJ (sV hh hne O (λx h' ex O' sb =>?_) λex =>?_)
  ·have hS':h'.get? S=some { cls :=.type "list",dict:=none,data :=.seq acc c,slots := #[] }:=by rw[sb.2 S hSI];exact hS
   have hal:acc.size=i:=by rw[<- BW,ha,Di];lia
   show Ci _ A.in1 (updateSeq S (·.push x) >>= _) _ _ _
   refine BJ ?_
   refine DD (s:={ s with heap:=h' }) hS' rfl (BN ⟨Dk EN _,ih (i+1) _ (acc.push x) _ (by lia) hlt ?_ (CY _ hS' rfl) ?_ λh'' acc' c' kk hS'' ha' =>?_⟩)
    (by rw[hal];lia) (by show (acc.push x).size<=B4+1;rw[E3,hal];lia)
   ·obtain ⟨t,slot,ho,T,hl,hp,hs,hit⟩:=O'.st
    exact ⟨t,slot,(Cm _ _ hSa).trans ho,T,hl,hp,hs,(Cm _ _ hSI).trans hit⟩
   ·rw[Em,ha,KG,ex];rfl
   ·refine hR h'' acc' c' (λb o hb hb2 e=>kk b o hb hb2 ?_) hS'' ha'
    refine (Cm _ _ (Dq hb)).trans ?_
    rw[sb.2 b hb2];exact e
  ·rw[BO (by lia)] at ex;cases ex
theorem pQ {a:Addr}{es:Array (Int×BM)}{R:List BM->BQ->Prop}(hh:A.handled=none)(I:dD w s.heap a es)(hz:es.size<300)
  (h:∀h1 vs,vs.Perm (es.toList.map (·.2))->(∀b o,s.heap.get? b=some o->h1.get? b=some o)->s.heap.objs.size<=h1.objs.size->R vs { s with heap:=h1 }) :
  Ci (Cs prog w) A (collect (.ref a)) R E s:=by
 obtain ⟨ep,t,ho,T,rm,hl,hp⟩:=I
 have hf:t.fits es.size=true:=by have:=T.fits;rwa [C9] at this
 have hlt:=B2 ho
 unfold collect
 refine BJ (Fp (CQ IA ?_))
 rw[CD IC _]
 show Ci _ A.in1 (newList [] >>= λl=>again (.builtin "list.__iadd__" ⟨[l,.ref a],[]⟩)) _ _ s
 refine BJ (CO ?_)
 refine BN ⟨Dk GF _,CQ JP ?_⟩
 rw[CD GF _]
 show Ci _ A.in1 (CA (.ref s.heap.objs.size) (.ref a) (.ref s.heap.objs.size)) _ _ _
 unfold CA
 have hSa:s.heap.objs.size≠a:=E9 hlt
 have z1:(s.heap.push { cls :=.type "list",data :=.seq ([]:List BM).toArray }).objs.size=s.heap.objs.size+1:=DR _ _
 have ho1:(s.heap.push { cls :=.type "list",data :=.seq ([]:List BM).toArray }).get? a=some (aW es ep t):=BL _ ho
 have hT1:Shared.TypeIs { s with heap:=s.heap.push { cls :=.type "list",data :=.seq ([]:List BM).toArray } } (.ref a) "set" :=⟨_,ho1,rfl⟩
 refine BJ (D7 hT1 ?_)
 have h1:DF (.ref s.heap.objs.size) (.ref a)=false:=by simp[DF,hSa]
 have h2:(DM "set" == DM "list")=false:=by decide
 have h3:(DM "set" == DM "tuple")=false:=by decide
 simp only[h1,h2,h3,HP,Ce,if_false]
 refine BJ (JU hT1 Kn (DS Kn hT1 F9.ko ?_ (F.args_set_iter_1 _)))
 unfold Builtin.«frozenset.__iter__» Builtin.Frozenset.slot0 slotArgs
 simp only[List.isEmpty_nil,DN,Ce, ↓reduceIte,bind_assoc,Eu,bne_self_eq_false]
 unfold Builtin.Frozenset.addrOf Builtin.Frozenset.sizeOf
 refine BJ (BN ?_)
 try dsimp only
 refine BJ (BN ?_)
 refine BJ (BJ (Jj ho1 rfl hf (BN ?_)))
 refine BJ ?_
 unfold setDrawn
 refine BJ (bU ho1 T ?_)
 dsimp only
 refine BJ (iQ ?_)
 show Ci _ _ (pure (!w.params.followText "set-order" && (!t.plain && decide (es.size>1)))) _ _ _
 rw[hp]
 simp only[DN,Hs,Ht]
 refine BN ?_
 simp only[Ce,if_false]
 refine BJ (BN ?_)
 refine BJ (wpAny_setEpoch_of ho1 rfl hf ?_)
 refine BJ (CO (BN ⟨_,rfl, "set_iterator",_,⟨_,BZ _ rfl,rfl⟩,F9.fg.lookup,?_⟩))
 have zit:(s.heap.push { cls :=.type "list",data :=.seq ([]:List BM).toArray }).objs.size=s.heap.objs.size+1:=z1
 show Ci _ A.in1 (HY [.ref (s.heap.push { cls :=.type "list",data :=.seq ([]:List BM).toArray }).objs.size] (Ds (.ref a)) >>= _) _ _ { s with heap:=(s.heap.push { cls :=.type "list",data :=.seq ([]:List BM).toArray }).push { cls :=.type "set_iterator",data :=.fields #[Gw 0,Gw 0,.ref a,Gw es.size,Gw ep] } }
 rw[zit]
 generalize hH:(s.heap.push { cls :=.type "list",data :=.seq ([]:List BM).toArray }).push { cls :=.type "set_iterator",data :=.fields #[Gw 0,Gw 0,.ref a,Gw es.size,Gw ep] }=H
 have kH:∀b o,(s.heap.push { cls :=.type "list",data :=.seq ([]:List BM).toArray }).get? b=some o->H.get? b=some o:=λb o e=>by rw[<- hH];exact BL _ e
 have zH:H.objs.size=s.heap.objs.size+2:=by rw[<- hH,DR,z1]
 have hit:iR H (s.heap.objs.size+1) a 0 0 es.size ep:=by
  unfold iR
  rw[<- hH, <- z1]
  exact BZ _ rfl
 have hT2:Shared.TypeIs { s with heap:=H } (.ref a) "set" :=⟨_,kH _ _ ho1,rfl⟩
 refine BJ (Dj ?_)
 unfold Ds
 refine BJ (D3 hT2 F.slot_set_len.lookup ?_)
 dsimp only
 rw[show splitId "set.__len__" = some ("set", "__len__") by kernel_rfl]
 dsimp only
 refine BJ (EU hT2 sub_set_self ?_)
 simp only[DN,Ce,if_false]
 show Ci _ _ (typeOf (.ref a) >>= _) _ _ _
 refine BJ (D7 hT2 ?_)
 refine BN ?_
 show Ci _ A.in1 (rule "list.extend.makes-room" >>= λ_=>Builtin.List.listTouch (.ref s.heap.objs.size) >>= λ_ =>
  again (.builtin "list.extend.loop" ⟨[.ref s.heap.objs.size,.ref (s.heap.objs.size+1),.ref s.heap.objs.size],[]⟩)) _ _ _
 refine BJ (EB ?_)
 have hS₁:H.get? s.heap.objs.size=some { cls :=.type "list",data :=.seq ([]:List BM).toArray }:=kH _ _ (BZ _ rfl)
 refine BJ ?_
 show Ci _ A.in1 (updateSeq s.heap.objs.size (·.push .none) >>= λ_=>updateSeq s.heap.objs.size (·.pop)) _ _ _
 refine BJ (DD (s:={ s with heap:=H }) hS₁ rfl ?_)
 have hS₂:=CY (DU (·.push Es)) hS₁ rfl
 refine DD hS₂ rfl ?_
 have hS₃:=CY (DU (·.pop)) hS₂ rfl
 have oth:∀b o,b≠s.heap.objs.size->H.get? b=some o->((H.update s.heap.objs.size (DU (·.push Es))).update s.heap.objs.size (DU (·.pop))).get? b=some o :=
  λb o hb e=>(Cm _ _ (Dq hb)).trans ((Cm _ _ (Dq hb)).trans e)
 refine BN ⟨Dk EN _,pP (it:=s.heap.objs.size+1) (a:=a) (es:=es) (ep:=ep) (s:=s) hh (E9 (C8 hlt)) (Cb (Dz _)) hSa hz es.size 0 _ _ _ rfl (CT _)
  ⟨t,0,oth a _ (Dq hSa) (kH _ _ ho1),T,hl,hp,λ_=>rn T.rise,oth _ _ (E9 (Dz _)) hit⟩ hS₃ rfl λh' acc' c' kk hS' ha =>?_⟩
 show Ci _ A (load s.heap.objs.size >>= _) _ _ { s with heap:=h' }
 refine BJ (HJ hS' ?_)
 have kf:∀b o,s.heap.get? b=some o->h'.get? b=some o:=λb o e=>by
  have:=B2 e
  exact kk b o (Cb this) (Cb (C8 this)) (oth b o (Cb this) (kH b o (BL _ e)))
 refine BN ?_
 rw[ha]
 exact h h' _ (mJ w a es ep) kf (Fv (B2 hS'))
end
open PySem PySem.SetTable PyProof.Rows Srt
def Kd.sub {prog:Ca}{w:CJ}{κ:Type}(kd:Kd prog w κ)(M:BM->Prop):Kd prog w κ where
 El:=λh v k=>kd.El h v k/\M v
 hash:=kd.hash
 room:=kd.room
 keeps:=λx t=>⟨kd.keeps x.1 t,x.2⟩
 inj:=λx y=>kd.inj x.1 y.1
 add:=by
  intro A E s a es v k Q hr I els hv hz hin hnew
  refine kd.add hr I (λe he =>?_) hv.1 hz (λx tk htk=>hin ?_ tk htk) λx h' es' tk htk sb I' pm=>hnew ?_ h' es' tk htk sb I' pm
  ·obtain ⟨k',a1,a2,a3⟩:=els e he;exact ⟨k',a1,a2⟩
  ·obtain ⟨e,he,y⟩:=x
   obtain ⟨k',a1,a2,a3⟩:=els e he
   exact ⟨e,he,y,a3⟩
  ·rintro ⟨e,he,y,_⟩;exact x ⟨e,he,y⟩
section
variable  {prog:Ca}{w:CJ}{A:Dd}{E:BM->BQ->Prop}{s:BQ}{O:G9}{key:BM->O.α}
theorem kr {a:Addr}{es:Array (Int×BM)}{Q:BM->BQ->Prop}(hh:A.handled=none)(I:dD w s.heap a es)(hz:es.size<300)(C:∀vs:List BM,vs.Perm (es.toList.map (·.2))->ip prog w s vs O key)
  (h:∀(h':Heap) (p:Addr) (out:List BM) (n:Nat),(∀b o,s.heap.get? b=some o->h'.get? b=some o)->s.heap.objs.size<=p->h'.get? p=some (seqObj "list" out.toArray n)->out.Perm (es.toList.map (·.2))->out.Pairwise (λx y=>O.kle (key x) (key y))->Q (.ref p) { s with heap:=h' }) :
  Ci (Cs prog w) A (call (.builtin "sorted") [.ref a]) Q E s:=by
 refine FT Kw JZ J0 (J1 _) ?_
 unfold Builtin.«sorted»
 refine BJ (m:=checkCount "sorted" 1 1 _) (BN ?_)
 refine BJ (pQ (by simpa using hh) I hz λh1 vs pv k1 z1 =>?_)
 have hz':vs.length<=B4:=by
  rw[pv.length_eq,BK,BW]
  have:300<=B4:=by rw[Er];lia
  lia
 refine BJ (G4 ?_ hz')
 have hoL:(h1.push (seqObj "list" vs.toArray 0)).get? h1.objs.size=some (seqObj "list" vs.toArray 0):=BZ _ rfl
 have kL:∀b o,s.heap.get? b=some o->(h1.push (seqObj "list" vs.toArray 0)).get? b=some o:=λb o e=>BL _ (k1 b o e)
 refine BJ (Dj (DS slot_list_sort ⟨_,hoL,rfl⟩ entry_list_sort (d8 (key:=key) (O:=O) hoL hz' (λh2 h6 k6 =>?_) λout pm ps=>⟨_,rfl,?_⟩) (IY _)))
 ·exact (C vs pv).ok h2 _ h6 λb o e=>k6 b o (Cb (Cj (B2 e) z1)) (kL b o e)
 ·obtain ⟨n,en⟩:=JD (out:=out.toArray) hoL
  refine BN ⟨_,rfl,h _ _ out n (λb o e =>?_) z1 en (pm.trans pv) ps⟩
  have lt:=Cj (B2 e) z1
  rw[IZ (Cb lt) (by rw[JT];exact C8 lt)]
  exact kL b o e
end
end STab
namespace L2
open PySem PySem.Spec PyProof.Rows
section
variable  {X:Cx}
def cQ (w:CJ)(a:Addr)(ys:List V):HO :=.ext λh=>∃es,STab.dD w h a es/\Vals ys (es.toList.map (·.2))
theorem sW {prog:Ca}{w:CJ}{H:Hp}{h:Heap}{a:Addr}{ys:List V}{es:Array (Int×BM)}(I:STab.dD w h a es)(r:Vals ys (es.toList.map (·.2))):bB prog w (upd H a (cQ w a ys)) h a (cQ w a ys):=by
 refine ⟨⟨es,I,r⟩,?_,λh1 h2 ⟨es',I',r'⟩ k=>⟨es',I'.at k,r'⟩⟩
 obtain ⟨ep,t,ho,_⟩:=I
 exact ⟨_,ho⟩
theorem pS:∀{ns:List Int} {xs:List BM} {prog:Ca} {w:CJ},Ez xs ns->ItemsAre (intKind prog w) ns xs
 | _,_,_,_,.nil =>.nil
 | _,_,_,_,.cons n t r =>.cons (HK _ _ _ _) (pS r)
theorem Inv.tk {pins:List (Addr×Obj)}{σ:St}{H:Hp}{s:BQ}(I:Inv X pins σ H s){b:Addr}{ns:List Int}(h:SqT X.K H b (ns.map V.int)):STab.TK X.prog X.w s.heap ns b:=by
 obtain ⟨its,r,⟨o,e,c,n,d⟩,_⟩:=I.tuple h
 exact ⟨o,_,n,e,c,d,pS (by simpa using cn r)⟩
theorem pull {α β:Type}{f:α -> β}{ts:List α}:∀{l:List β},(∀v∈l,∃t∈ts,v=f t)->∃us:List α,l=us.map f/\∀t∈us,t∈ts
 | [],_=>⟨[],rfl,λt h=>by cases h⟩
 | v :: l,h=>by
  obtain ⟨t,ht,e⟩:=h v Ck
  obtain ⟨us,e2,m⟩:=pull (l:=l) λv' hv=>h v' (Cf _ hv)
  refine ⟨t :: us,by rw[CC, <- e, <- e2],λt' ht' =>?_⟩
  rcases Cg.mp ht' with rfl | h'
  ·exact ht
  ·exact m _ h'
theorem uS (hh:X.A.handled=none)(hu:X.A.units+64<cLine):bC X (.type "set") (λxs H Q=>∃(p:Addr) (ts:List (Addr×List Int)),xs=[.ref p]/\(SqL X.K H p (ts.map λt =>.ref t.1)\/SqT X.K H p (ts.map λt =>.ref t.1))/\(∀t∈ts,SqT X.K H t.1 (t.2.map V.int))/\ts.length<300 ∧
  ∀(a:Addr) (us:List (Addr×List Int)),H a=none->(∀t∈us,t∈ts)->(us.map (·.2)).Nodup->(∀t∈ts,t.2∈us.map (·.2))->us.length<=ts.length->Q (.ref a) (upd H a (cQ X.w a (us.map λt =>.ref t.1)))):=by
 intro pins s σ H xs vs Q I r h
 obtain ⟨p,ts,rfl,hs,ht,hl,q⟩:=h
 obtain ⟨u,rfl,ru⟩:=vals1 r
 cases (show u=Cd p from ru)
 have goal:∀(items:Array BM),items.toList=(ts.map λt=>Cd t.1)->∀(h':Heap) (es:Array (Int×BM)) (tk:Nat),s.toks<=tk->STab.dD X.w h' s.heap.objs.size es->STab.Good ((STab.jk X.prog X.w).sub (· ∈ items.toList)) h' es (ts.map (·.2)) →
   (∀b o,s.heap.get? b=some o->h'.get? b=some o)->EP X pins σ Q (.ref s.heap.objs.size) { s with heap:=h',toks:=tk }:=by
  intro items ei h' es tk _ S G k
  obtain ⟨us,eu,mu⟩:=pull (f:=λt:Addr×List Int=>Cd t.1) (ts:=ts) (l:=es.toList.map (·.2)) (λv hv=>by
   obtain ⟨e,he,rfl⟩:=Cv.mp hv
   obtain ⟨_,_,_,_,m⟩:=G.el e (CI.mp he)
   rw[ei] at m
   obtain ⟨t,ht',e'⟩:=Cv.mp m
   exact ⟨t,ht',e'.symm⟩)
  have tk':∀t∈us,STab.TK X.prog X.w h' t.2 t.1:=λt m=>(I.tk (ht t (mu t m))).keep λb o _ e=>k b o e
  have elu:∀t∈us,((STab.jk X.prog X.w).sub (· ∈ items.toList)).El h' (.ref t.1) t.2:=λt m=>⟨⟨t.1,rfl,tk' t m⟩,by
   rw[ei];exact Cv.mpr ⟨t,mu t m,rfl⟩⟩
  have nd:(us.map (·.2)).Nodup:=by
   have d:=G.dis
   have d2:(es.toList.map (·.2)).Pairwise (λv v'=>∀k,((STab.jk X.prog X.w).sub (· ∈ items.toList)).El h' v k->¬ ((STab.jk X.prog X.w).sub (· ∈ items.toList)).El h' v' k):=by
    rw[Dh];exact d
   rw[eu,Dh] at d2
   unfold List.Nodup
   rw[Dh]
   refine d2.imp_of_mem λ{t t'} m m' x e=>x t.2 (elu t m) ?_
   have:=elu t' m'
   rw[<- e] at this
   exact this
  have cov:∀t∈ts,t.2∈us.map (·.2):=λt m=>by
   obtain ⟨e,he,x,_⟩:=G.all t.2 (Cv.mpr ⟨t,m,rfl⟩)
   have:e.2∈us.map λt=>Cd t.1:=by rw[<- eu];exact Cv.mpr ⟨e,CI.mpr he,rfl⟩
   obtain ⟨u,hu',e'⟩:=Cv.mp this
   obtain ⟨b,eb,x⟩:=x
   rw[<- e'] at eb
   injection eb with eb
   subst eb
   exact Cv.mpr ⟨u,hu',(tk' u hu').inj x⟩
  have hlen:us.length<=ts.length:=by
   have:=G.len
   rw[BK] at this
   have e2:=congrArg List.length eu
   rw[BK,BK,BW] at e2
   lia
  refine ⟨.ref s.heap.objs.size,_,I.laid k (BS _) (sW (ys:=us.map λt=>V.ref t.1) S (by rw[eu];exact gv)),rfl,q _ us (I.hok.fresh (BS _)) mu nd cov hlen⟩
 have rm:((STab.jk X.prog X.w).sub (λv=>True)).room X.A.in1.in1.in1:=by show X.A.units+1+1+1<cLine;lia
 have itm:∀(its:List BM),its=(ts.map λt=>Cd t.1)->∀(i:Nat) (v:BM),its.toArray[i]? = some v->∃q,(ts.map (·.2))[i]? = some q/\((STab.jk X.prog X.w).sub (· ∈ its.toArray.toList)).El s.heap v q:=by
  intro its ei i v hv
  rw[Dm,ei,B7] at hv
  cases ht':ts[i]? with
  | none=>rw[ht'] at hv;cases hv
  | some t =>
   rw[ht'] at hv
   cases hv
   have m:=BV ht'
   refine ⟨t.2,by rw[B7,ht'];rfl,⟨t.1,rfl,I.tk (ht t m)⟩,?_⟩
   show Cd t.1∈its
   rw[ei]
   exact Cv.mpr ⟨t,m,rfl⟩
 rcases hs with hs | hs
 ·obtain ⟨its,rv,⟨o,n,e,c,dn,d⟩,z⟩:=I.list hs
  have ei:=eD rv
  have lz:its.length=ts.length:=by rw[ei,BK]
  refine STab.call_set_list (kd:=(STab.jk X.prog X.w).sub (· ∈ its.toArray.toList)) (items:=its.toArray) (ks:=ts.map (·.2)) hh rm ⟨o,e,c,n,d⟩ (by simp[lz]) (λi v hv =>?_) (by simpa [lz] using hl) (goal its.toArray (by simpa using ei))
  exact itm its ei i v hv
 ·obtain ⟨its,rv,⟨o,e,c,n,d⟩,z⟩:=I.tuple hs
  have ei:=eD rv
  have lz:its.length=ts.length:=by rw[ei,BK]
  refine STab.fL (kd:=(STab.jk X.prog X.w).sub (· ∈ its.toArray.toList)) (items:=its.toArray) (ks:=ts.map (·.2)) hh rm ⟨o,e,c,n,d⟩ (by simp[lz]) (λi v hv =>?_) (by simpa [lz] using hl) (goal its.toArray (by simpa using ei))
  exact itm its ei i v hv
theorem uT (hh:X.A.handled=none):bC X (.type "set") (λxs H Q=>∃(p:Addr) (ns:List Int),xs=[.ref p]/\(SqL X.K H p (ns.map V.int)\/SqT X.K H p (ns.map V.int))/\ns.length<300 ∧
  ∀(a:Addr) (us:List Int),H a=none->(∀k,k∈us↔k∈ns)->us.Nodup->us.length<=ns.length->Q (.ref a) (upd H a (cQ X.w a (us.map V.int)))):=by
 intro pins s σ H xs vs Q I r h
 obtain ⟨p,ns,rfl,hs,hl,q⟩:=h
 obtain ⟨u,rfl,ru⟩:=vals1 r
 cases (show u=Cd p from ru)
 have goal:∀(h':Heap) (es:Array (Int×BM)) (tk:Nat),s.toks<=tk->STab.dD X.w h' s.heap.objs.size es->STab.Good (STab.sS X.prog X.w) h' es ns →
   (∀b o,s.heap.get? b=some o->h'.get? b=some o)->EP X pins σ Q (.ref s.heap.objs.size) { s with heap:=h',toks:=tk }:=by
  intro h' es tk _ S G k
  have sh:∀v∈es.toList.map (·.2),∃k t,v=DE k t:=λv hv=>by
   obtain ⟨e,he,rfl⟩:=Cv.mp hv
   obtain ⟨k',_,_,t,e'⟩:=G.el e (CI.mp he)
   exact ⟨k',t,e'⟩
  have ru:=dC (cY sh)
  have mem:∀k,k∈(es.toList.map (·.2)).map Srt.intOf↔k∈ns:=λk=>by
   constructor
   ·intro m
    obtain ⟨v,hv,rfl⟩:=Cv.mp m
    obtain ⟨e,he,rfl⟩:=Cv.mp hv
    obtain ⟨k',mk,_,t,e'⟩:=G.el e (CI.mp he)
    rw[e'];exact mk
   ·intro m
    obtain ⟨e,he,t,e'⟩:=G.all k m
    exact Cv.mpr ⟨e.2,Cv.mpr ⟨e,CI.mpr he,rfl⟩,by rw[e'];rfl⟩
  have nd:((es.toList.map (·.2)).map Srt.intOf).Nodup:=by
   unfold List.Nodup
   rw[Dh,Dh]
   refine G.dis.imp_of_mem λ{e e'} m m' x y =>?_
   obtain ⟨k1,_,_,t1,e1⟩:=G.el e (CI.mp m)
   obtain ⟨k2,_,_,t2,e2⟩:=G.el e' (CI.mp m')
   rw[e1,e2] at y
   have y':k1=k2:=y
   subst y'
   exact x k1 ⟨t1,e1⟩ ⟨t2,e2⟩
  refine ⟨.ref s.heap.objs.size,_,I.laid k (BS _) (sW S ru),rfl,q _ _ (I.hok.fresh (BS _)) mem nd (by rw[BK,BK,BW];exact G.len)⟩
 have itm:∀(its:List BM),Vals (ns.map V.int) its->∀(i:Nat) (v:BM),its.toArray[i]? = some v->∃q,ns[i]? = some q/\(STab.sS X.prog X.w).El s.heap v q:=by
  intro its rv i v hv
  have hI:=cn rv
  obtain ⟨t,e⟩:=IntsAre.int_at hI i v (by rw[Dm] at hv;exact hv)
  have hlt:i<ns.length:=by
   have:=hI.length
   rw[Dm] at hv
   have:=(B1.mp hv).1
   lia
  refine ⟨ns.getD i 0,?_,t,e⟩
  rw[B8,BO hlt]
  rfl
 rcases hs with hs | hs
 ·obtain ⟨its,rv,⟨o,n,e,c,dn,d⟩,z⟩:=I.list hs
  have lz:its.length=ns.length:=by have:=rv.length;rw[BK] at this;exact this.symm
  exact STab.call_set_list (kd:=STab.sS X.prog X.w) (items:=its.toArray) (ks:=ns) hh trivial ⟨o,e,c,n,d⟩ (by simp[lz]) (itm its rv) (by simpa [lz] using hl) goal
 ·obtain ⟨its,rv,⟨o,e,c,n,d⟩,z⟩:=I.tuple hs
  have lz:its.length=ns.length:=by have:=rv.length;rw[BK] at this;exact this.symm
  exact STab.fL (kd:=STab.sS X.prog X.w) (items:=its.toArray) (ks:=ns) hh trivial ⟨o,e,c,n,d⟩ (by simp[lz]) (itm its rv) (by simpa [lz] using hl) goal
theorem Inv.cQ {pins:List (Addr×Obj)}{σ:St}{H:Hp}{s:BQ}(I:Inv X pins σ H s){a:Addr}{ys:List V}(h:H a=some (cQ X.w a ys)):∃es,STab.dD X.w s.heap a es/\Vals ys (es.toList.map (·.2)):=by
 exact (I.hok a _ h).1
theorem lO (hh:X.A.handled=none):bC X (.builtin "sorted") (λxs H Q=>∃(a:Addr) (ns:List Int),xs=[.ref a]/\H a=some (cQ X.w a (ns.map V.int))/\ns.length<300/\∀(l:Addr) (out:List Int),H l=none->out.Perm ns->out.Pairwise (· <= ·)->Q (.ref l) (upd H l (.lst (out.map V.int)))):=by
 intro pins s σ H xs us Q I r h
 obtain ⟨a,ns,rfl,hs,hl,q⟩:=h
 obtain ⟨u,rfl,ru⟩:=vals1 r
 cases (show u=Cd a from ru)
 obtain ⟨es,S,rv⟩:=I.cQ hs
 have hI:=cn rv
 have lz:es.size=ns.length:=by have:=rv.length;simp at this;lia
 have sh:∀v∈es.toList.map (·.2),∃i t,v=DE i t:=λv hv=>Srt.fJ hI v hv
 refine STab.kr (O:=Srt.nO) (key:=Srt.intOf) hh S (by lia) (λvs pv=>Srt.e6 (cY λv hv=>sh v (pv.mem_iff.mp hv))) λh' l out m k hl' el pm ps =>?_
 have hO:=cY λv hv=>sh v (pm.mem_iff.mp hv)
 have pm':(out.map Srt.intOf).Perm ns:=by
  have:=pm.map Srt.intOf
  rw[Srt.ints_map hI] at this
  exact this
 have z:ns.length<=B4:=by have:300<=B4:=(by rw[Er];lia);lia
 refine ⟨.ref l,_,I.newList k hl' el (dC hO) (by rw[BK,pm'.length_eq];exact z),rfl,q l _ (I.hok.fresh hl') pm' ?_⟩
 refine Dh.mpr (ps.imp λ{x y} le =>?_)
 have le':decide (Srt.intOf y<Srt.intOf x)=false:=le
 have:=of_decide_eq_false le'
 lia
theorem lP (hh:X.A.handled=none):bC X (.builtin "sorted") (λxs H Q=>∃(a:Addr) (ts:List (Addr×List Int)),xs=[.ref a]/\H a=some (cQ X.w a (ts.map λt =>.ref t.1))/\(∀t∈ts,SqT X.K H t.1 (t.2.map V.int)/\t.2≠[])/\ts.length<300 ∧
  ∀(l:Addr) (out:List (Addr×List Int)),H l=none->out.Perm ts->out.Pairwise (λa b=>HT.lexLt b.2 a.2=false)->Q (.ref l) (upd H l (.lst (out.map λt =>.ref t.1)))):=by
 intro pins s σ H xs us Q I r h
 obtain ⟨a,ts,rfl,hs,ht,hl,q⟩:=h
 obtain ⟨u,rfl,ru⟩:=vals1 r
 cases (show u=Cd a from ru)
 obtain ⟨es,S,rv⟩:=I.cQ hs
 have ei:=eD rv
 have lz:es.size=ts.length:=by have:=rv.length;simp at this;lia
 have tup:∀t∈ts,Srt.dM s.heap (Cd t.1) t.2:=λt hm=>by
  obtain ⟨jts,jr,⟨jo,je,jc,jn,jd⟩,_⟩:=I.tuple (ht t hm).1
  exact ⟨t.1,jo,_,jn,rfl,je,jc,jd,by simpa using cn jr⟩
 have hv:∀v∈es.toList.map (·.2),∃ns,Srt.dM s.heap v ns/\ns≠[]:=λv hv=>by
  rw[ei] at hv
  obtain ⟨t,hm,rfl⟩:=Cv.mp hv
  exact ⟨t.2,tup t hm,(ht t hm).2⟩
 refine STab.kr (O:=Srt.lexOrd) (key:=Srt.de s.heap) hh S (by lia) (λvs pv=>Srt.ir λv hm=>hv v (pv.mem_iff.mp hm)) λh' l out m k hl' el pm ps =>?_
 rw[ei] at pm
 obtain ⟨out',pm',rfl⟩:=kh pm
 have z:ts.length<=B4:=by have:300<=B4:=(by rw[Er];lia);lia
 refine ⟨.ref l,_,I.newList k hl' el gv (by rw[BK,pm'.length_eq];exact z),rfl,q l _ (I.hok.fresh hl') pm' ?_⟩
 refine (Dh.mp ps).imp_of_mem λ{a b} ha hb le =>?_
 have le':HT.lexLt (Srt.de s.heap (Cd b.1)) (Srt.de s.heap (Cd a.1))=false:=le
 rw[(tup a (pm'.mem_iff.mp ha)).ints,(tup b (pm'.mem_iff.mp hb)).ints] at le'
 exact le'
end
open PySem PySem.Spec PyProof.Rows
section
variable  {X:Cx}{w:CJ}
theorem ku (hw:X.w=w)(hh:X.A.handled=none)(hu:X.A.units+64<cLine):bC X (.type "set") (λxs H Q=>∃(p:Addr) (ts:List (Addr×List Int)),xs=[.ref p]/\(SqL X.K H p (ts.map λt =>.ref t.1)\/SqT X.K H p (ts.map λt =>.ref t.1))/\(∀t∈ts,SqT X.K H t.1 (t.2.map V.int))/\ts.length<300 ∧
  ∀(a:Addr) (us:List (Addr×List Int)),H a=none->(∀t∈us,t∈ts)->(us.map (·.2)).Nodup->(∀t∈ts,t.2∈us.map (·.2))->us.length<=ts.length->Q (.ref a) (upd H a (cQ w a (us.map λt =>.ref t.1)))):=by
 subst hw
 exact uS hh hu
theorem kz (hw:X.w=w)(hh:X.A.handled=none):bC X (.type "set") (λxs H Q=>∃(p:Addr) (ns:List Int),xs=[.ref p]/\(SqL X.K H p (ns.map V.int)\/SqT X.K H p (ns.map V.int))/\ns.length<300 ∧
  ∀(a:Addr) (us:List Int),H a=none->(∀k,k∈us↔k∈ns)->us.Nodup->us.length<=ns.length->Q (.ref a) (upd H a (cQ w a (us.map V.int)))):=by
 subst hw
 exact uT hh
theorem kA (hw:X.w=w)(hh:X.A.handled=none):bC X (.builtin "sorted") (λxs H Q=>∃(a:Addr) (ns:List Int),xs=[.ref a]/\H a=some (cQ w a (ns.map V.int))/\ns.length<300/\∀(l:Addr) (out:List Int),H l=none->out.Perm ns->out.Pairwise (· <= ·)->Q (.ref l) (upd H l (.lst (out.map V.int)))):=by
 subst hw
 exact lO hh
theorem fM (hw:X.w=w)(hh:X.A.handled=none):bC X (.builtin "sorted") (λxs H Q=>∃(a:Addr) (ts:List (Addr×List Int)),xs=[.ref a]/\H a=some (cQ w a (ts.map λt =>.ref t.1))/\(∀t∈ts,SqT X.K H t.1 (t.2.map V.int)/\t.2≠[])/\ts.length<300 ∧
  ∀(l:Addr) (out:List (Addr×List Int)),H l=none->out.Perm ts->out.Pairwise (λa b=>HT.lexLt b.2 a.2=false)->Q (.ref l) (upd H l (.lst (out.map λt =>.ref t.1)))):=by
 subst hw
 exact lP hh
end
open PySem PySem.Spec PyProof.Rows
section
variable  {X:Cx}
def tBMT (r:V->List V->Hp->VK->Prop)(to:TE)(t:TA):TE:=λσ H Q=>to σ H λx H1=>(∃p xs,x = .ref p/\H1 p=some (.tup xs))/\t σ H1 λxs H2=>r x xs H2 Q
theorem rF {o e:Expr}{es:List Expr}{to:TE}{t:TA}{name:Str}{apos cpos:Pos}{id:String}{r:V->List V->Hp->VK->Prop}(slot:Slot "tuple" name id)(hty:typeOf (.builtin id)=pure (.type "method_descriptor"))(hm:MtR X id r)(ho:PE X o to)(ha:PA X (e :: es) t)
  (hbase:attributeBase o name X.env (eval o X.env)=eval o X.env:=by rfl)
  (hfew:((Fo cpos (CN (e :: es) X.env)).all (λx => !x.1) && (backToKw cpos (keywordEach [] X.env)).all (λx=>x.1.isSome)
   && decide ((e :: es).length+([]:List Keyword).length+(if ([]:List Keyword).isEmpty then 0 else 1)<30))=true:=by rfl)
  (hline:(apos.endLine == cpos.line)=true:=by rfl) (hs:CN (e :: es) X.env=(false,eval e X.env) :: CN es X.env:=by rfl) (hplain:(Fo cpos (CN es X.env)).any (·.1)=false:=by rfl) :
  PE X (.Call (.Attribute o name apos) (e :: es) [] cpos) (tBMT r to t):=by
 intro pins s σ H Q I h
 refine Io hbase hfew hline rfl (thn (ho pins s σ H _ I h) λv s1 ⟨x,H1,I1,r1,ty,q1⟩ =>?_)
 obtain ⟨p,xs,rfl,hp⟩:=ty
 cases (show v=Cd p from r1)
 obtain ⟨_,its,_,ob,e1,⟨c1,d1⟩,n,s1'⟩:=(show bB X.prog X.w H1 s1.heap p (.tup xs) from I1.hok p _ hp)
 refine ⟨"tuple",id,PySem.F.plainAttrs_tuple,slot,hty,⟨ob,e1,c1⟩,λa e=>by cases e;exact ⟨ob,e1,d1⟩,?_⟩
 have hA:=ha cpos pins s1 σ H1 _ I1 q1
 rw[hs] at hA ⊢
 refine Gy (by show (false || (Fo cpos (CN es X.env)).any (·.1))=false;rw[hplain] <;> rfl) (G0 ?_)
 exact thn hA λus s2 ⟨vs,H2,I2,r2,q2⟩=>hm pins s2 σ H2 (.ref p) vs _ us Q I2 rfl r2 q2
theorem uU {A:Dd}{s:BQ}{k:Int}{t:Tok}{its:List BM}{ns:List Int}(hi:Ez its ns):∀y,y∈its.toArray->IT A s y (.int k t) (isInt k y):=λy hy =>
 (eq_isInt k t hi y (by simpa using hy)).at _ _
theorem mK:∀{ns:List Int} {xs:List BM} {prog:Ca} {w:CJ},Ez xs ns->ItemsAre (intKind prog w) ns xs
 | _,_,_,_,.nil =>.nil
 | _,_,_,_,.cons n t r =>.cons (HK _ _ _ _) (mK r)
theorem Inv.tkA {pins:List (Addr×Obj)}{σ:St}{H:Hp}{s:BQ}(I:Inv X pins σ H s){b:Addr}{ns:List Int}(h:SqT X.K H b (ns.map V.int))(prog:Ca)(w:CJ):IsTupleKey (intKind prog w) s.heap ns b:=by
 obtain ⟨its,r,⟨o,e,c,n,d⟩,_⟩:=I.tuple h
 exact ⟨o,_,n,e,c,d,mK (by simpa using intsAre_of r)⟩
theorem Inv.eqT {pins:List (Addr×Obj)}{σ:St}{H:Hp}{s:BQ}(I:Inv X pins σ H s){A:Dd}(hu:A.units<cLine){a b:Addr}{ns ms:List Int}(h1:SqT X.K H a (ns.map V.int))(h2:SqT X.K H b (ms.map V.int)):IT A s (.ref a) (.ref b) (decide (ns=ms)) :=
 λprog w E Q q=>JE hu (I.tkA h1 prog w) (I.tkA h2 prog w) q
theorem kB:∀{ps:List (Addr×List Int)} {us:List BM},Vals (ps.map λx=>V.ref x.1) us->us=ps.map λx=>Cd x.1
 | [],_,r=>by cases r;rfl
 | p :: ps,_,r=>by
  cases r with
  | cons h t=>rw[CC, <- kB t,show _=Cd p.1 from h]
noncomputable def nY (ts:List (Addr×List Int))(m:List Int):BM->Bool:=λv=>decide (∃t∈ts,v = .ref t.1/\t.2=m)
theorem mL {pins:List (Addr×Obj)}{σ:St}{H:Hp}{s:BQ}(I:Inv X pins σ H s){ts:List (Addr×List Int)}(ht:∀t∈ts,SqT X.K H t.1 (t.2.map V.int)){m:List Int}{t:Addr×List Int}(hm:t∈ts):nY ts m (.ref t.1)=decide (t.2=m):=by
 unfold nY
 by_cases e:t.2=m
 ·rw[decide_eq_true e,decide_eq_true ⟨t,hm,rfl,e⟩]
 ·rw[decide_eq_false e,decide_eq_false]
  rintro ⟨t',m',e1,e2⟩
  injection e1 with e1
  have:=I.lY (ht t hm) (by rw[e1];exact ht t' m')
  have inj:Function.Injective V.int:=λa b h=>by injection h
  have:t.2=t'.2:=(List.map_inj_right (λx y h=>inj h)).mp this
  exact e (this.trans e2)
theorem kD {pins:List (Addr×Obj)}{σ:St}{H:Hp}{s:BQ}(I:Inv X pins σ H s){ts:List (Addr×List Int)}(ht:∀t∈ts,SqT X.K H t.1 (t.2.map V.int)){m:List Int}:∀us:List (Addr×List Int),(∀t∈us,t∈ts)->(us.map λt=>Cd t.1).countP (nY ts m)=(us.map (·.2)).count m
 | [],_=>rfl
 | u :: us,h=>by
  rw[CC,CC,List.countP_cons,List.count_cons,kD I ht us (λt hm=>h t (Cf _ hm)),mL I ht (h u Ck)]
  by_cases e:u.2=m
  ·rw[decide_eq_true e,e];simp
  ·rw[decide_eq_false e];simp[e]
theorem kE (hu:X.A.units+8<cLine):MtR X "tuple.count" (λx vs H Q=>∃(p b:Addr) (ts:List (Addr×List Int)) (m:List Int),x = .ref p/\vs=[.ref b]/\H p=some (.tup (ts.map λt =>.ref t.1))/\(∀t∈ts,H t.1=some (.tup (t.2.map V.int)))/\H b=some (.tup (m.map V.int))/\Q (.int ((ts.map (·.2)).count m:Nat)) H):=by
 intro pins s σ H x vs v us Q I rx rv h
 obtain ⟨p,b,ts,m,rfl,rfl,hp,ht,hb,q⟩:=h
 cases rx
 obtain ⟨u,rfl,ru⟩:=vals1 rv
 cases (show u=Cd b from ru)
 have ht':∀t∈ts,SqT X.K H t.1 (t.2.map V.int):=λt hm=>SqT.of (ht t hm)
 obtain ⟨z,its,r,ob,e1,⟨c1,d1⟩,n,s1⟩:=(show bB X.prog X.w H s.heap p (.tup _) from I.hok p _ hp)
 have ei:=kB r
 obtain ⟨cls,dd,data,sl⟩:=ob
 simp only at c1 s1
 subst c1 s1
 refine GG F8 ⟨_,e1,rfl⟩ PySem.F.entry_tuple_count (PySem.F.args_tuple_count_2 _ _) (SeqAt.tuple_countAt p its.toArray n dd sl (.ref b) (nY ts m)) ⟨e1,λy hy =>?_,?_⟩
 ·have hy':y∈its:=by simpa using hy
  rw[ei] at hy'
  obtain ⟨t,hm,rfl⟩:=Cv.mp hy'
  rw[mL I ht' hm]
  exact I.eqT (by show X.A.units+1<cLine;lia) (ht' t hm) (SqT.of hb)
 ·rw[show its.toArray.toList=its from rfl,ei,kD I ht' ts (λt h=>h)]
  exact ⟨.int _,H,I.tok _,⟨_,rfl⟩,q⟩
theorem jl:∀{its:List BM} {ns:List Int},Ez its ns->∃xs:List (Int×Tok),its=xs.map (λp=>DE p.1 p.2)/\xs.map (·.1)=ns
 | _,_,.nil=>⟨[],rfl,rfl⟩
 | _,_,.cons n t r=>by
  obtain ⟨xs,e1,e2⟩:=jl r
  exact ⟨(n,t) :: xs,by rw[CC, <- e1],by rw[CC,e2]⟩
end
end L2
namespace HT
open PySem PySem.Spec PyProof.Rows
section
variable  {prog:Ca}{w:CJ}{A:Dd}{E:BM->BQ->Prop}{s:BQ}
theorem gC {t sl:Addr}{items:Array BM}{vl vu:BM}{lo hi:Option Int}{Q:BM->BQ->Prop}(ht:IsTup s.heap t items)(hs:s.heap.IsSliceOf sl vl vu .none)(pl:IsPart vl lo)(pu:IsPart vu hi)
  (hw:sIx items.size 0 lo=0/\sIx items.size items.size hi=items.size) (h:Q (.ref t) s):Ci (Cs prog w) A (getItem (.ref t) (.ref sl)) Q E s:=by
 obtain ⟨os,hos,hcs,hds⟩:=id hs
 have hTs:s.TypeIs (.ref sl) "slice" :=⟨os,hos,hcs⟩
 unfold getItem
 try with_reducible refine Dj ?_
 first | refine BJ (BN ?_) | skip
 refine BJ (JS ht.typeIs (by decide) ?_)
 refine BJ (EG (name:=Str.ofString "__getitem__") ht.typeIs Dg
  (DS Dg ht.typeIs entry_tuple_getitem ?_ (JB _ _)))
 show Ci _ _ (Builtin.Tuple.tupleItemsOf (.ref t) >>= _) _ _ s
 refine BJ (tupleItemsOf_ ht ?_)
 refine BJ (D7 hTs ?_)
 rw[if_pos (by decide)]
 refine BJ (eB hs pl pu ?_)
 show Ci _ _ (if (((sIx items.size 0 lo:Nat):Int) == 0 && (1:Int) == 1 && (sIx items.size items.size hi-sIx items.size 0 lo) == items.size)=true then _ else _) _ _ s
 rw[hw.1,hw.2,if_pos (by simp)]
 unfold Builtin.Tuple.tupleIsExact
 refine BJ (BJ (D7 ht.typeIs (BN ?_)))
 rw[if_pos (by decide)]
 exact BJ (EB (BN ⟨_,rfl,BN h⟩))
end
end HT
namespace L2
open PySem PySem.Spec PyProof.Rows
section
variable  {X:Cx}
theorem yA:SlR X (λx lo hi H Q=>∃a xs,x = .ref a/\SqT X.K H a xs/\((HT.sIx xs.length 0 lo=0/\HT.sIx xs.length xs.length hi=xs.length)->Q (.ref a) H) ∧
  (¬ (HT.sIx xs.length 0 lo=0/\HT.sIx xs.length xs.length hi=xs.length)->∀p,H p=none->Q (.ref p) (upd H p (.tup (fE xs lo hi))))):=by
 intro pins s σ H x v vl vu lo hi sl Q I rx hs pl pu h
 obtain ⟨a,xs,rfl,hx,q1,q2⟩:=h
 by_cases hw:HT.sIx xs.length 0 lo=0/\HT.sIx xs.length xs.length hi=xs.length
 ·cases rx
  obtain ⟨its,r,ht,hz⟩:=I.tuple hx
  have hlen:its.toArray.size=xs.length:=by rw[BX];exact r.length.symm
  refine ⟨"tuple",_,Dg.lookup,ht.typeIs,?_⟩
  exact HT.gC ht hs pl pu (by rw[hlen];exact hw) ⟨.ref a,H,I,rfl,q1 hw⟩
 ·exact zZ pins s σ H _ v vl vu lo hi sl Q I rx hs pl pu ⟨a,xs,rfl,hx,hw,q2 hw⟩
theorem jm:bC X (.type "range") (λxs H Q=>∃n:Int,xs=[.int n]/\∀a,H a=none->Q (.ref a) (upd H a (.rng 0 n))):=by
 intro pins s σ H xs us Q I r h
 obtain ⟨n,rfl,q⟩:=h
 obtain ⟨u,rfl,⟨t,rfl⟩⟩:=vals1 r
 refine call_range_1 ?_
 exact ⟨.ref s.heap.objs.size,_,I.laid (o :=.rng 0 n) (λb ob q=>BL _ q) (BS _) ⟨_,_,_,BZ _ rfl⟩,rfl,q _ (I.hok.fresh (BS _))⟩
end
section
variable  {prog:Ca}{w:CJ}{A:Dd}{E:BM->BQ->Prop}{s:BQ}
theorem lQ {R:List BM->BQ->Prop}{r:Addr}{n:Nat}{t u v:Tok}(hh:A.handled=none)(hr:IsRange s.heap r 0 n 1 t u v)(hn:n<=2 ^ 24)
    (h:∀(h1:Heap) (tk:Nat) (vs:List BM),vs.length=n->(∀(i:Nat) (x:BM),vs[i]? = some x->∃t,x = .int i t)->(∀b o,s.heap.get? b=some o->h1.get? b=some o)->R vs { s with heap:=h1,toks:=tk }) :
    Ci (Cs prog w) A (collect (.ref r)) R E s:=by
  have hlt:r<s.heap.objs.size:=B2 (show s.heap.get? r=some _ from hr)
  unfold collect
  refine BJ (Fp (CQ G5 ?_))
  rw[CD G6 _]
  show Ci _ A.in1 (newList [] >>= λl=>again (.builtin "list.__iadd__" ⟨[l,.ref r],[]⟩)) _ _ s
  refine BJ (CO ?_)
  refine BN ⟨Dk Fj _,CQ HQ ?_⟩
  rw[CD Fj _]
  show Ci _ A.in1 (CA (.ref s.heap.objs.size) (.ref r) (.ref s.heap.objs.size)) _ _ { s with heap:=s.heap.push { cls :=.type "list",data :=.seq ([]:List BM).toArray } }
  have hr1:IsRange (s.heap.push { cls :=.type "list",data :=.seq ([]:List BM).toArray }) r 0 n 1 t u v:=BL _ hr
  have rs:Builtin.Range.rangeSize 0 (n:Int) 1=(n:Int):=by
    rw[Jz]
    split <;> lia
  have hlen24:n<=16777216:=hn
  have hS0:(s.heap.push { cls :=.type "list",data :=.seq ([]:List BM).toArray }).get? s.heap.objs.size=some { cls :=.type "list",data :=.seq #[] 0 }:=BZ _ rfl
  refine wpAny_extend_range (A:=A) (R:=λres s'=>match res with
      | .ok (.ret v)=>Ci (Cs prog w) A (match v with | .ref a=>(do match (← load a).data with | .seq xs _=>pure xs.toList | _=>unsupported "internal:collect") | _=>unsupported "internal:collect") R E s'
      | .ok _=>False
      | .error e=>E e s') (s:={ s with heap:=s.heap.push { cls :=.type "list",data :=.seq ([]:List BM).toArray } }) hh hr1 (small_one (by lia) (by lia) (by lia) (by lia)) rs hn s.heap.objs.size (.ref s.heap.objs.size) 0 hS0 λh' tk acc' c' kk hS' hacc =>?_
  show Ci _ A (load s.heap.objs.size >>= _) _ _ { s with heap:=h',toks:=tk }
  refine BJ (HJ hS' ?_)
  refine BN (h h' tk acc'.toList (by rw[BW];exact hacc.1) (λi x hx =>?_) λb o e=>kk b o (Cb (B2 e)) (BL _ e))
  rw[B3] at hx
  obtain ⟨t',e⟩:=hacc.2 i x hx
  exact ⟨t',by rw[e];simp⟩
theorem fF (r:Addr)(n:Nat)(t u v:Tok)(hn:n<=1000) :
  Meets (Builtin.«tuple.__new__» ⟨[.type "tuple",.ref r],[]⟩)
   (λA R s=>A.handled=none/\IsRange s.heap r 0 n 1 t u v/\∀(h':Heap) (tk:Nat) (vs:List BM),vs.length=n->(∀(i:Nat) (x:BM),vs[i]? = some x->∃t,x = .int i t)->(∀b o',s.heap.get? b=some o'->h'.get? b=some o')->R (.ok (.ret (.ref h'.objs.size))) { s with heap:=h'.push { cls :=.type "tuple",data :=.seq vs.toArray },toks:=tk }) :=
 .of_wp λprog w A R s h=>by
  obtain ⟨hp,g,d,tk,os⟩:=s;obtain ⟨hh,ht,h⟩:=h
  have hsub:=sub_tuple_self
  have hinit:=JV
  have hmh:=madeHere_tuple
  have hT:Shared.TypeIs ⟨hp,g,d,tk,os⟩ (.ref r) "range" :=⟨_,ht,rfl⟩
  wp_walk using D7 hT,lQ (by simpa using hh) ht (by lia)
  intro h' tk' vs lv hv hk
  show Ci _ _ (Builtin.Tuple.tupleExact vs.toArray >>= λv=>ret v) _ _ _
  unfold Builtin.Tuple.tupleExact
  refine BJ (CO ?_ (by show vs.toArray.size<=B4;rw[BX,lv];exact small hn))
  exact BN ⟨_,rfl,h h' tk' vs lv hv hk⟩
end
section
variable  {X:Cx}
theorem kF:∀{vs:List BM},(∀(i:Nat) (x:BM),vs[i]? = some x->∃t,x=DE i t)->Vals ((Dl vs.length).map λi=>V.int (i:Nat)) vs:=by
 suffices h:∀(vs:List BM) (k:Nat),(∀(i:Nat) (x:BM),vs[i]? = some x->∃t,x=DE ((i+k:Nat):Int) t)->Vals ((List.range' k vs.length).map λi=>V.int (i:Nat)) vs by
  intro vs hv
  have:=h vs 0 hv
  rw[List.range_eq_range']
  exact this
 intro vs
 induction vs with
 | nil=>intro k _;exact .nil
 | cons x vs ih =>
  intro k hv
  rw[Ct,Ia,CC]
  refine .cons ?_ (ih (k+1) λi y hy =>?_)
  ·obtain ⟨t,e⟩:=hv 0 x rfl
   exact ⟨t,by rw[e,Fb]⟩
  ·obtain ⟨t,e⟩:=hv (i+1) y (by rw[EF];exact hy)
   exact ⟨t,by rw[e,show i+1+k=i+(k+1) by lia]⟩
theorem pW (hh:X.A.handled=none):bC X (.type "tuple") (λxs H Q=>∃(a:Addr) (n:Nat),xs=[.ref a]/\H a=some (.rng 0 n)/\n<=1000/\∀l,H l=none->Q (.ref l) (upd H l (.tup ((Dl n).map λi=>V.int (i:Nat))))):=by
 intro pins s σ H xs us Q I r h
 obtain ⟨a,n,rfl,ha,hn,q⟩:=h
 obtain ⟨u,rfl,ru⟩:=vals1 r
 cases (show u=Cd a from ru)
 obtain ⟨t,u,v,e⟩:=(show bB X.prog X.w H s.heap a (.rng 0 n) from I.hok a _ ha)
 refine J2 IU (by decide) (HD _) (HR _) (λobj=>FL obj _) HS
  (fF a n t u v hn) ⟨by simpa using hh,e,λh' tk vs lv hv k=>⟨⟨_,BZ _ rfl,rfl⟩,?_⟩⟩
 have I1:Inv X pins σ H { s with heap:=h',toks:=tk }:=I.kept k
 have rv:=kF hv
 rw[lv] at rv
 exact ⟨.ref h'.objs.size,_,I1.laid (o :=.tup ((Dl n).map λi=>V.int (i:Nat))) (λb ob q=>BL _ q) (BS _) ⟨by rw[BK,D6];exact small hn,vs,rv,dG.new _ _⟩,rfl,q _ (I1.hok.fresh (BS _))⟩
end
open PySem PySem.Spec PyProof.Rows
section
variable  {κ:Type}[DecidableEq κ]
def dQ (kvs:List (κ×V))(k:κ):Option V:=(kvs.find? λkv=>decide (kv.1=k)).map (·.2)
def putK (kvs:List (κ×V))(k:κ)(v:V):List (κ×V) :=
 if (kvs.any λkv=>decide (kv.1=k))=true then kvs.map (λkv=>if kv.1=k then (kv.1,v) else kv) else kvs++[(k,v)]
theorem fN {p:κ×V}{r:List (κ×V)}{k:κ}(e:p.1=k):dQ (p :: r) k=some p.2:=by simp[dQ,Fx,e]
theorem fO {p:κ×V}{r:List (κ×V)}{k:κ}(e:¬ p.1=k):dQ (p :: r) k=dQ r k:=by simp[dQ,Fx,e]
theorem kG (k:κ):∀kvs:List (κ×V),(kvs.any λkv=>decide (kv.1=k))=(dQ kvs k).isSome
 | []=>rfl
 | p :: r=>by
  rw[Gj]
  by_cases e:p.1=k
  ·simp only[fN e,decide_eq_true e,Bool.true_or,Option.isSome_some]
  ·rw[fO e,decide_eq_false e,KQ];exact kG k r
theorem fP (kvs:List (κ×V))(k:κ)(v:V):(putK kvs k v).length<=kvs.length+1:=by
 unfold putK
 split
 ·rw[BK];lia
 ·rw[BR,Ct,Eu];lia
theorem pX {kvs:List (κ×V)}{k:κ}(v:V)(h:dQ kvs k=none):putK kvs k v=kvs++[(k,v)]:=by
 unfold putK
 rw[kG,h]
 exact if_neg (by decide)
theorem jL.iS {o:Option V}{u:Option BM}(r:jL o u):o.isSome=u.isSome:=by
 cases o with
 | none=>cases u with
  | none=>rfl
  | some _=>exact (show False from r).elim
 | some _=>cases u with
  | none=>exact (show False from r).elim
  | some _=>rfl
theorem KV.val {kvs:List (κ×V)}{vs:List (κ×BM)}(r:KV kvs vs)(k:κ):jL (dQ kvs k) (valueAt vs k):=by
 unfold KV at r
 induction r with
 | nil=>exact True.intro
 | @cons p q ps qs h t ih =>
  obtain ⟨h1,h2⟩:=h
  by_cases e:p.1=k
  ·have e':q.1=k:=h1.symm.trans e
   have b:valueAt (q :: qs) k=some q.2:=by simp[valueAt,Fx,e']
   rw[fN e,b];exact h2
  ·have e':¬ q.1=k:=λz=>e (h1.trans z)
   have b:valueAt (q :: qs) k=valueAt qs k:=by simp[valueAt,Fx,e']
   rw[fO e,b];exact ih
theorem KV.any {kvs:List (κ×V)}{vs:List (κ×BM)}(r:KV kvs vs)(k:κ):(kvs.any λkv=>decide (kv.1=k))=vs.any λkv=>decide (kv.1=k):=by
 unfold KV at r
 induction r with
 | nil=>rfl
 | cons h t ih=>rw[Gj,Gj,ih,h.1]
theorem KV.Aq {kvs:List (κ×V)}{vs:List (κ×BM)}(r:KV kvs vs)(k:κ){y:V}{u:BM}(ry:RelV y u) :
  KV (kvs.map λkv=>if kv.1=k then (kv.1,y) else kv) (vs.map λkv=>if kv.1=k then (kv.1,u) else kv):=by
 unfold KV at r ⊢
 induction r with
 | nil=>exact .nil
 | @cons p q ps qs h t ih =>
  rw[CC,CC]
  refine .cons ?_ ih
  obtain ⟨h1,h2⟩:=h
  by_cases e:p.1=k
  ·rw[if_pos e,if_pos (h1.symm.trans e)];exact ⟨h1,ry⟩
  ·rw[if_neg e,if_neg (λz=>e (h1.trans z))];exact ⟨h1,h2⟩
theorem KV.put {kvs:List (κ×V)}{vs:List (κ×BM)}(r:KV kvs vs)(k:κ){y:V}{u:BM}(ry:RelV y u):KV (putK kvs k y) (stored vs k u):=by
 unfold putK stored
 rw[r.any k]
 by_cases e:(vs.any λkv=>decide (kv.1=k))=true
 ·rw[if_pos e,if_pos e];exact r.Aq k ry
 ·rw[if_neg e,if_neg e];exact KZ r ⟨rfl,ry⟩
theorem KV.length {kvs:List (κ×V)}{vs:List (κ×BM)}(r:KV kvs vs):kvs.length=vs.length:=G2 r
end
theorem pZ {P:Ca}{w:CJ}{k:Key}{u:BM}(r:RelV (kV k) u):(bX P w).is k u=true:=by
 cases k with
 | inl i=>obtain ⟨t,e⟩:=(show ∃t,u=DE i t from r);subst e;exact oX P w i t
 | inr x=>obtain ⟨t,e⟩:=(show ∃t,u=Value.str x t from r);subst e;exact oY P w x t
theorem mO {P:Ca}{w:CJ}:∀{ks:List Key} {us:List BM},Vals (ks.map kV) us->ItemsAre (bX P w) ks us
 | [],_,r=>by rw[Iq] at r;cases r;exact .nil
 | k :: ks,_,r=>by
  rw[CC] at r
  cases r with
  | cons h t=>exact .cons (pZ h) (mO t)
abbrev KT (H:Hp):List (List Key×V)->List (List Key×Addr×BM)->Prop:=Paired λp q=>p.1=q.1/\H q.2.1=some (.tup (p.1.map kV))/\RelV p.2 q.2.2
theorem KT.val {H:Hp}{kvs:List (List Key×V)}{xs:List (List Key×Addr×BM)}(r:KT H kvs xs)(k:List Key):jL (dQ kvs k) ((atKey xs k).map (·.2)):=by
 induction r with
 | nil=>exact True.intro
 | @cons p q ps qs h t ih =>
  obtain ⟨h1,_,h2⟩:=h
  by_cases e:p.1=k
  ·have e':q.1=k:=h1.symm.trans e
   have b:atKey (q :: qs) k=some q.2:=by simp[atKey,Fx,e']
   rw[fN e,b];exact h2
  ·have e':¬ q.1=k:=λz=>e (h1.trans z)
   have b:atKey (q :: qs) k=atKey qs k:=by simp[atKey,Fx,e']
   rw[fO e,b];exact ih
theorem KT.Aq {H:Hp}{kvs:List (List Key×V)}{xs:List (List Key×Addr×BM)}(r:KT H kvs xs)(k:List Key){y:V}{u:BM}(ry:RelV y u) :
  KT H (kvs.map λkv=>if kv.1=k then (kv.1,y) else kv) (xs.map (putAt k u)):=by
 induction r with
 | nil=>exact .nil
 | @cons p q ps qs h t ih =>
  rw[CC,CC]
  refine .cons ?_ ih
  obtain ⟨h1,h2,h3⟩:=h
  unfold putAt
  by_cases e:p.1=k
  ·rw[if_pos e,if_pos (h1.symm.trans e)];exact ⟨h1,h2,ry⟩
  ·rw[if_neg e,if_neg (λz=>e (h1.trans z))];exact ⟨h1,h2,h3⟩
theorem KT.put {H:Hp}{kvs:List (List Key×V)}{xs:List (List Key×Addr×BM)}(r:KT H kvs xs)(k:List Key){b:Addr}{y:V}{u:BM}(hb:H b=some (.tup (k.map kV)))(ry:RelV y u) :
  KT H (putK kvs k y) (storedH xs k b u):=by
 have e:(kvs.any λkv=>decide (kv.1=k))=(atKey xs k).isSome:=by
  rw[kG,(r.val k).iS,JQ]
 unfold putK storedH
 rw[e]
 by_cases q:(atKey xs k).isSome=true
 ·rw[if_pos q,if_pos q];exact r.Aq k ry
 ·rw[if_neg q,if_neg q];exact KZ r ⟨rfl,hb,ry⟩
theorem KT.keeps {H H':Hp}{kvs:List (List Key×V)}{xs:List (List Key×Addr×BM)}(r:KT H kvs xs)(ht:∀b ys,H b=some (.tup ys)->H' b=some (.tup ys)):KT H' kvs xs :=
 Paired.zJ r λ_ _ z=>⟨z.1,ht _ _ z.2.1,z.2.2⟩
section
variable  {P:Ca}{w:CJ}{H:Hp}{h:Heap}{a:Addr}
theorem zr {u:HO}(ok:HOk P w H h)(e:Rd H a u):bB P w H h a u:=e.ok ok
theorem sZ {kvs:List (Key×V)}(ok:HOk P w H h)(e:Rd H a (.dK kvs)):kvs.length<=B4/\(a == sysModules)=false/\∃vs,KV kvs vs/\h.DictOf (bX P w) a vs :=
 show bB P w H h a (.dK kvs) from zr ok e
theorem wx {kvs:List (Key×V)}(ok:HOk P w H h)(e:H a=some (.dK kvs)):kvs.length<=B4/\(a == sysModules)=false/\∃vs,KV kvs vs/\h.DictOf (bX P w) a vs:=sZ ok (.inl e)
theorem nZ {ks:List Key}(ok:HOk P w H h)(e:H a=some (.tup (ks.map kV))):(tupleKind (bX P w)).is h ks a:=by
 obtain ⟨_,its,r,o,h1,h2,n,h3⟩:=(show bB P w H h a (.tup (ks.map kV)) from ok a _ e)
 exact ⟨o,its.toArray,n,h1,h2.1,h3,by simpa using mO r⟩
theorem tf {kvs:List (List Key×V)}(ok:HOk P w H h)(e:Rd H a (.dT kvs)):kvs.length<=B4/\(a == sysModules)=false ∧
  ∃xs,KT H kvs xs/\h.DictOfH (tupleKind (bX P w)) a xs:=by
 obtain ⟨z,y,xs,r,o,es,ep,h1,h2,h3,h4,h5⟩:=(show bB P w H h a (.dT kvs) from zr ok e)
 refine ⟨z,y,xs,r,o,es,ep,h1,h2,h3,h4,λx hx =>?_,h5⟩
 have all:∀{l:List (List Key×V)} {m:List (List Key×Addr×BM)},KT H l m->∀x∈m,(tupleKind (bX P w)).is h x.1 x.2.1:=by
  intro l m q
  induction q with
  | nil=>intro x hx;exact nomatch hx
  | @cons p q ps qs hq t ih =>
   intro x hx
   rcases Cg.mp hx with e | hx
   ·subst e
    exact nZ ok (by rw[<- hq.1];exact hq.2.1)
   ·exact ih x hx
 exact all r x hx
theorem Bm {kvs:List (List Key×V)}(ok:HOk P w H h)(e:H a=some (.dT kvs)):kvs.length<=B4/\(a == sysModules)=false ∧
  ∃xs,KT H kvs xs/\h.DictOfH (tupleKind (bX P w)) a xs:=tf ok (.inl e)
end
def iT (H:Hp)(a:Addr)(y:V)(r:Option V):Prop :=
 (∃kvs k,Rd H a (.dK kvs)/\y=kV k/\r=dQ kvs k)\/∃kvs k b,Rd H a (.dT kvs)/\y = .ref b/\H b=some (.tup (k.map kV))/\r=dQ kvs k
def p8 (H:Hp)(a:Addr)(y v:V)(H':Hp):Prop :=
 (∃kvs k,H a=some (.dK kvs)/\y=kV k/\kvs.length<B4/\H'=upd H a (.dK (putK kvs k v))) ∨
 ∃kvs k b,H a=some (.dT kvs)/\y = .ref b/\H b=some (.tup (k.map kV))/\kvs.length<B4/\H'=upd H a (.dT (putK kvs k v))
theorem iT.k {H:Hp}{a:Addr}{kvs:List (Key×V)}{k:Key}(e:H a=some (.dK kvs)):iT H a (kV k) (dQ kvs k) :=.inl ⟨kvs,k,.inl e,rfl,rfl⟩
theorem p8.k {H:Hp}{a:Addr}{kvs:List (Key×V)}{k:Key}{v:V}(e:H a=some (.dK kvs))(hl:kvs.length<B4):p8 H a (kV k) v (upd H a (.dK (putK kvs k v))) :=.inl ⟨kvs,k,e,rfl,hl,rfl⟩
section
variable  {X:Cx}{pins:List (Addr×Obj)}{σ:St}{H:Hp}{s:BQ}{a:Addr}{y v:V}{u r:BM}{o:Option V}{A:Dd}{E:BM->BQ->Prop}
theorem Inv.big (I:Inv X pins σ H s):sysModules<s.heap.objs.size:=by
 have h:Cz<s.heap.objs.size:=(I.mod.glob.keeps I.bk).lt
 exact Nat.lt_trans (by decide) h
theorem uV {Q:BM->BQ->Prop}(hu:A.units+1<cLine)(I:Inv X pins σ H s)(g:iT H a y (some v))(ry:RelV y u)(h:∀w' s',Inv X pins σ H s'->RelV v w'->Q w' s') :
  Ci (Cs X.prog X.w) A (getItem (.ref a) u) Q E s:=by
 rcases g with ⟨kvs,k,e,ey,l⟩ | ⟨kvs,k,b,e,ey,eb,l⟩
 ·subst ey
  obtain ⟨z,hd,vs,rel,dd⟩:=sZ I.hok e
  obtain ⟨w',hw,rw'⟩:=jL.some_of (v:=v) (o:=valueAt vs k) (by rw[l];exact rel.val k)
  exact wpAny_getItem_of (pZ ry) dd.mapOf hw (h w' _ (I.tok _) rw')
 ·subst ey
  cases (show u=Cd b from ry)
  obtain ⟨z,hd,xs,rel,dd⟩:=tf I.hok e
  obtain ⟨w',hw,rw'⟩:=jL.some_of (v:=v) (o:=(atKey xs k).map (·.2)) (by rw[l];exact rel.val k)
  obtain ⟨p,hp,hp2⟩:=Option.map_eq_some_iff.mp hw
  refine wpAny_getItem_heap (Hr hu) (nZ I.hok eb) dd hp ?_
  rw[hp2]
  exact h w' _ (I.tok _) rw'
theorem yB {Q:BM->BQ->Prop}(hu:A.units+1<cLine)(I:Inv X pins σ H s)(g:iT H a y o)(ry:RelV y u)(h:∀s',Inv X pins σ H s'->Q (.bool (!o.isSome)) s') :
  Ci (Cs X.prog X.w) A (DW .NotIn u (.ref a)) Q E s:=by
 rcases g with ⟨kvs,k,e,ey,l⟩ | ⟨kvs,k,b,e,ey,eb,l⟩
 ·subst ey
  obtain ⟨z,hd,vs,rel,dd⟩:=sZ I.hok e
  refine wpAny_notIn_of (pZ ry) hd dd.mapOf ?_
  rw[<- (rel.val k).iS, <- l]
  exact h _ (I.tok _)
 ·subst ey
  cases (show u=Cd b from ry)
  obtain ⟨z,hd,xs,rel,dd⟩:=tf I.hok e
  refine wpAny_notIn_heap (Hr hu) (nZ I.hok eb) hd dd ?_
  have q:=(rel.val k).iS
  rw[JQ] at q
  rw[<- q, <- l]
  exact h _ (I.tok _)
theorem oa {h':Heap}{t':Nat}{ob:HO}(I:Inv X pins σ H s)(mu:Mut (H a))(hs:Heap.SameBut a s.heap h')(he:∃q,h'.get? a=some q)(new:bB X.prog X.w (upd H a ob) h' a ob) :
  Inv X pins σ (upd H a ob) { s with heap:=h',toks:=t' } :=
 I.write (x:=a) (e:=a) mu (.inl rfl) (λb q hb z=>(hs.2 b hb).trans z) he new
theorem wz {P:Ca}{w:CJ}{H':Hp}{h':Heap}{kvs:List (Key×V)}{vs:List (Key×BM)}(z:kvs.length<=B4)(hd:(a == sysModules)=false)(rel:KV kvs vs)(dd:h'.DictOf (bX P w) a vs) :
  bB P w H' h' a (.dK kvs):=⟨z,hd,vs,rel,dd⟩
theorem uW {H':Hp}{Q:Unit->BQ->Prop}(hu:A.units+1<cLine)(I:Inv X pins σ H s)(g:p8 H a y v H')(ry:RelV y u)(rv:RelV v r)(h:∀s',Inv X pins σ H' s'->Q () s') :
  Ci (Cs X.prog X.w) A (setItem (.ref a) u r) Q E s:=by
 rcases g with ⟨kvs,k,e,ey,l,eH⟩ | ⟨kvs,k,b,e,ey,eb,l,eH⟩
 ·subst ey eH
  obtain ⟨z,hd,vs,rel,dd⟩:=wx I.hok e
  have hz:vs.length<=B4:=by rw[<- rel.length];exact z
  have hl:(putK kvs k v).length<=B4:=by have:=fP kvs k v;lia
  refine wpAny_setItem_pairs (hsz:=hz) (pZ ry) dd λh' dd' hs=>h _ ?_
  have he:∃q,h'.get? a=some q:=let ⟨q,_,_,hq,_⟩:=dd';⟨q,hq⟩
  exact oa I (by rw[e];exact True.intro) hs he (wz hl hd (rel.put k rv) dd')
 ·subst ey eH
  cases (show u=Cd b from ry)
  obtain ⟨z,hd,xs,rel,dd⟩:=Bm I.hok e
  have hz:xs.length<=B4:=by rw[<- G2 rel];exact z
  have hl:(putK kvs k v).length<=B4:=by have:=fP kvs k v;lia
  refine wpAny_setItem_heap (hsz:=hz) (Hr hu) (nZ I.hok eb) dd λh' dd' hs=>h _ ?_
  obtain ⟨q,es,ep,hq,h2,h3,h4,_,h5⟩:=dd'
  refine oa I (by rw[e];exact True.intro) hs ⟨q,hq⟩ ⟨hl,hd,_,(rel.put k eb rv).keeps λc ys ec =>?_,q,es,ep,hq,h2,h3,h4,h5⟩
  rw[aE (jb ec e (λz=>nomatch z))]
  exact ec
end
section
variable  {X:Cx}{pins:List (Addr×Obj)}{σ:St}{H:Hp}{s:BQ}{a:Addr}{kvs:List (Key×V)}{k:Key}{u:BM}{A:Dd}{E:BM->BQ->Prop}
end
def Bn (i:Expr):Prop:=∀ov iv,subscripted i false ov iv=operate [ov,iv] (getItem ov iv)
theorem yC {prog:Ca}{w:CJ}{A:Dd}{E:BM->BQ->Prop}{s:BQ}{env:Env}{value slice:Expr}{pos:Pos}{T id:String}{Q:BM->BQ->Prop}
  (hl:typeLookup (.type T) "__getitem__" = pure (some (.builtin id))) (hs:Bn slice)
  (h:Ci (Cs prog w) A (eval value env) (λo s₁=>Ci (Cs prog w) A (eval slice env) (λi s₂=>s₂.TypeIs o T/\Ci (Cs prog w) A (getItem o i) Q E s₂) E s₁) E s) :
  Ci (Cs prog w) A (eval (.Subscript value slice pos) env) Q E s:=by
 refine Subscript_ (DT h (λo s₁ h₁=>DT h₁ (λi s₂ h₂ =>?_) λ_ _ x=>x) λ_ _ x=>x)
 obtain ⟨hT,h₂⟩:=h₂
 unfold subscriptTail
 refine BJ ?_
 rw[getitemInPython_of_ne hT.not_modules]
 refine BJ (D3 hT hl ?_)
 have fin:Ci (Cs prog w) A (subscripted slice false o i) (λr s₃=>Ci (Cs prog w) A (letTemporaryGo value o r >>= λ_=>pure r) Q E s₃) E s₂:=by
  rw[hs o i]
  exact wpAny_operating (DT h₂ (λr s₃ h₃=>BJ (wpAny_letTemporaryGo (BN h₃))) λ_ _ x=>x)
 first
  | exact BN (BJ fin)
  | exact BJ (BN (BJ fin))
  | exact BJ fin
theorem p9 {X:Cx}{pins:List (Addr×Obj)}{σ:St}{H:Hp}{s:BQ}{a:Addr}{y:V}{o:Option V}(I:Inv X pins σ H s)(g:iT H a y o):s.TypeIs (.ref a) "dict" := by
 rcases g with ⟨kvs,k,e,_,_⟩ | ⟨kvs,k,b,e,_,_,_⟩
 ·obtain ⟨_,_,vs,_,dd⟩:=sZ I.hok e
  exact dd.typeIs
 ·obtain ⟨_,_,xs,_,dd⟩:=tf I.hok e
  exact dd.typeIs
def Bo (td ty:TE):TE:=λσ H Q=>td σ H λx H1=>ty σ H1 λy H2=>∃a v,x = .ref a/\iT H2 a y (some v)/\Q v H2
def yD (ty td:TE):TE:=λσ H Q=>ty σ H λy H1=>td σ H1 λx H2=>∃a o,x = .ref a/\iT H2 a y o/\Q (.bl (!o.isSome)) H2
def Bp (td ty tv:TE):TS:=λD σ H=>tv σ H λv H1=>td σ H1 λx H2=>ty σ H2 λy H3=>∃a H4,x = .ref a/\p8 H3 a y v H4/\D.nx σ H4
section
variable  {X:Cx}{o i e value:Expr}{pos pos' tpos:Pos}{td ty tv:TE}
theorem yE (hu:X.A.units+1<cLine)(ho:PE X o td)(hi:PE X i ty)(hs:Bn i):PE X (.Subscript o i pos) (Bo td ty):=by
 intro pins s σ H Q I h
 refine yC PySem.F.slot_dict_getitem.lookup hs (thn (ho pins s σ H _ I h) λu s1 ⟨x,H1,I1,rx,q1⟩=>thn (hi pins s1 σ H1 _ I1 q1) λiv s2 ⟨y,H2,I2,ry,a,v,ex,g,q2⟩ =>?_)
 subst ex
 obtain rfl:u=Cd a:=rx
 exact ⟨p9 I2 g,uV hu I2 g ry λw' s3 I3 rw'=>⟨v,H2,I3,rw',q2⟩⟩
theorem eF (hu:X.A.units+1<cLine)(hi:PE X i ty)(ho:PE X o td):PC X .NotIn i o (yD ty td):=by
 intro pins s σ H Q I h
 refine thn (hi pins s σ H _ I h) λiv s1 ⟨y,H1,I1,ry,q1⟩=>thn (ho pins s1 σ H1 _ I1 q1) λu s2 ⟨x,H2,I2,rx,a,ov,ex,g,q2⟩ =>?_
 subst ex
 obtain rfl:u=Cd a:=rx
 exact yB hu I2 g ry λs3 I3=>⟨.bl (!ov.isSome),H2,I3,rfl,q2⟩
theorem og (hu:X.A.units+1<cLine)(ho:PE X o td)(hi:PE X i ty)(hv:PE X value tv)(hs:swapsWith value (some (.Subscript o i pos')) pos.line X.env=pure false) :
  PS X (.Assign [.Subscript o i pos'] value pos) (Bp td ty tv):=by
 intro pins s σ H D I h
 refine wpAny_Assign_Subscript (thn (hv pins s σ H _ I h) λr s1 ⟨v,H1,I1,rv,q1⟩=>thn (ho pins s1 σ H1 _ I1 q1) λu s2 ⟨x,H2,I2,rx,q2⟩=>thn (hi pins s2 σ H2 _ I2 q2) λiv s3 ⟨y,H3,I3,ry,a,H4,ex,g,q3⟩ =>?_) hs
 subst ex
 obtain rfl:u=Cd a:=rx
 exact uW hu I3 g ry rv λs4 I4=>⟨σ,H4,I4,q3⟩
end
theorem qa {P:Ca}{w:CJ}{H:Hp}(h:Heap)(hb:sysModules<h.objs.size):bB P w H (h.push { cls :=.type "dict",data :=.dict #[] }) h.objs.size (.dK []) :=
 ⟨CT _,beq_eq_false_iff_ne.mpr (Dq (Cb hb)),[],.nil,Heap.DictOf.new h⟩
def Ar:TE:=λ_ H Q=>∀p,H p=none->Q (.ref p) (upd H p (.dK []))
section
variable  {X:Cx}{pos:Pos}
theorem wA:PE X (.Dict [] [] pos) Ar:=λpins s σ H Q I h =>
 wpAny_Dict_empty ⟨.ref s.heap.objs.size,_,I.laid (a:=s.heap.objs.size) (o :=.dK []) (t':=s.toks) (λ_ _ q=>BL _ q) (BS _) (qa s.heap I.big),rfl,h _ (I.hok.fresh (BS _))⟩
end
def rG:List (TE×TE)->St->Hp->(List (V×V)->Hp->Prop)->Prop
 | [],_,H,Q=>Q [] H
 | (tk,tv) :: r,σ,H,Q=>tk σ H λx H1=>tv σ H1 λy H2=>rG r σ H2 λps H3=>Q ((x,y) :: ps) H3
abbrev VV:List (V×V)->List (BM×BM)->Prop:=Paired λp q=>RelV p.1 q.1/\RelV p.2 q.2
def PPs (X:Cx)(pos:Pos)(keys:List (Option Expr))(values:List Expr)(trs:List (TE×TE)):Prop :=
 ∀(pins:List (Addr×Obj)) (s:BQ) (σ:St) (H:Hp) (Q:List (V×V)->Hp->Prop),Inv X pins σ H s->rG trs σ H Q →
  Ci (Cs X.prog X.w) X.A (evalPairs (pairTrees keys values X.env pos)) (λvs s'=>∃ps H',Inv X pins σ H' s'/\VV ps vs/\Q ps H') X.xe s
theorem ti {X:Cx}{pos:Pos}:PPs X pos [] [] []:=λpins s σ H Q I h=>pairTrees_nil_walk ⟨[],H,I,.nil,h⟩
theorem qb {X:Cx}{pos:Pos}{k v:Expr}{ks:List (Option Expr)}{vs:List Expr}{tk tv:TE}{trs:List (TE×TE)}(hk:PE X k tk)(hv:PE X v tv)(hr:PPs X pos ks vs trs) :
  PPs X pos (some k :: ks) (v :: vs) ((tk,tv) :: trs):=λpins s σ H Q I h =>
 pairTrees_cons_walk (thn (hk pins s σ H _ I h) λu s1 ⟨x,H1,I1,rx,q1⟩=>thn (hv pins s1 σ H1 _ I1 q1) λw2 s2 ⟨y,H2,I2,ry,q2⟩ =>
  thn (hr pins s2 σ H2 _ I2 q2) λws s3 ⟨ps,H3,I3,rel,q3⟩=>⟨(x,y) :: ps,H3,I3,.cons ⟨rx,ry⟩ rel,q3⟩)
def dt (kvs more:List (Key×V)):List (Key×V):=more.foldl (λacc kv=>putK acc kv.1 kv.2) kvs
theorem KV.merge:∀{more:List (Key×V)} {rs:List (Key×BM)} {kvs:List (Key×V)} {vs:List (Key×BM)},KV more rs->KV kvs vs->KV (dt kvs more) (merged vs rs):=by
 intro more rs kvs vs r
 unfold KV at r
 induction r generalizing kvs vs with
 | nil=>intro q;exact q
 | @cons p q ps qs h t ih =>
  intro r0
  have e:KV (putK kvs p.1 p.2) (stored vs q.1 q.2):=by
   have:=r0.put p.1 h.2
   rw[<- h.1];exact this
  exact ih e
theorem gH:∀(more kvs:List (Key×V)),(dt kvs more).length<=kvs.length+more.length
 | [],kvs=>by show kvs.length<=kvs.length+0;lia
 | p :: r,kvs=>by
  have h1:=gH r (putK kvs p.1 p.2)
  have h2:=fP kvs p.1 p.2
  show (dt (putK kvs p.1 p.2) r).length<=_
  rw[Ct];lia
theorem kI {P:Ca}{w:CJ}:∀{kvs:List (Key×V)} {ws:List (BM×BM)},VV (kvs.map λkv=>(kV kv.1,kv.2)) ws->∃rs,Carries (bX P w) ws rs/\KV kvs rs
 | [],_,r=>by rw[Iq] at r;cases r;exact ⟨[],True.intro,.nil⟩
 | p :: kvs,_,r=>by
  rw[CC] at r
  cases r with
  | @cons a b as bs h t =>
   obtain ⟨rs,c,q⟩:=kI (P:=P) (w:=w) t
   obtain ⟨b1,b2⟩:=b
   exact ⟨(p.1,b2) :: rs,⟨pZ h.1,rfl,c⟩,.cons ⟨rfl,h.2⟩ q⟩
def Bq (trs:List (TE×TE)):TE:=λσ H Q=>∀p,H p=none->rG trs σ (upd H p (.dK [])) λps H2=>H2 p=some (.dK [])/\∃kvs:List (Key×V),ps=kvs.map (λkv=>(kV kv.1,kv.2))/\kvs.length<=15/\Q (.ref p) (upd H2 p (.dK (dt [] kvs)))
theorem tj {X:Cx}{pos:Pos}{keys:List (Option Expr)}{values:List Expr}{trs:List (TE×TE)}(h:PPs X pos keys values trs)(hall:keys.all (·.isSome)=true)(hl:keys.length=values.length)(h0:keys≠[])
  (h15:keys.length<=15):PE X (.Dict keys values pos) (Bq trs):=by
 intro pins s σ H Q I q
 have hn:=I.hok.fresh (BS s.heap.objs.size)
 have I1:=I.laid (a:=s.heap.objs.size) (o :=.dK []) (h':=s.heap.push { cls :=.type "dict",data :=.dict #[] }) (t':=s.toks) (λ_ _ q=>BL _ q) (BS _) (qa s.heap I.big)
 refine wpAny_Dict_walk (knd:=bX X.prog X.w) hall hl h0 h15 (thn (h pins _ σ _ _ I1 (q _ hn)) λws s2 ⟨ps,H2,I2,rel,e,kvs,ep,lk,q2⟩ =>?_)
 subst ep
 obtain ⟨rs,c,rk⟩:=kI (P:=X.prog) (w:=X.w) rel
 obtain ⟨z,hd,vs0,r0,dd⟩:=wx I2.hok e
 cases r0
 refine ⟨rs,c,dd,λh' dd' hs=>⟨.ref s.heap.objs.size,_,?_,rfl,q2⟩⟩
 have hz:(dt [] kvs).length<=B4:=by
  have h1:=gH kvs []
  rw[Eu] at h1
  rw[Er];lia
 have he:∃q,h'.get? s.heap.objs.size=some q:=let ⟨q,_,_,hq,_⟩:=dd';⟨q,hq⟩
 exact oa I2 (by rw[e];exact True.intro) hs he (wz hz hd (rk.merge .nil) dd')
section
variable  {X:Cx}{pins:List (Addr×Obj)}{σ:St}{H:Hp}{s:BQ}{a:Addr}{y d:V}{u r:BM}{o:Option V}{A:Dd}{E:BM->BQ->Prop}
end
section
variable  {X:Cx}{o e f:Expr}{apos cpos:Pos}{td ty tx:TE}
end
section
variable  {X:Cx}{pins:List (Addr×Obj)}{σ:St}{H:Hp}{s:BQ}{a:Addr}{kvs:List (Key×V)}{A:Dd}{E:BM->BQ->Prop}
end
section
variable  {X:Cx}{pins:List (Addr×Obj)}{σ:St}{H:Hp}{s:BQ}{a:Addr}{y:V}{u:BM}{A:Dd}{E:BM->BQ->Prop}
end
open PySem PySem.Spec PyProof.Rows
section
variable  {X:Cx}
end
section
variable  {κ:Type}[DecidableEq κ]
end
end L2
namespace SDct
open PySem PyProof.Rows Srt
section
variable  {prog:Ca}{w:CJ}{K:Type}[DecidableEq K]{knd:KeyKind prog w K}{A:Dd}{E:BM->BQ->Prop}{s:BQ}
theorem oh {d:Addr}{kvs:List (K×BM)}{ep:Nat}{R:List BM->BQ->Prop}(hh:A.handled=none)(hd:(d == sysModules)=false)(hm:s.heap.DictAt knd d kvs ep)(hz:kvs.length<=B4)
  (h:∀h1 tk vs,vs.length=kvs.length->(∀(i:Nat) v,vs[i]? = some v->∃k x,kvs[i]? = some (k,x)/\knd.is k v=true)->(∀b o,s.heap.get? b=some o->h1.get? b=some o)->s.heap.objs.size<=h1.objs.size->R vs { s with heap:=h1,toks:=tk }) :
  Ci (Cs prog w) A (collect (.ref d)) R E s:=by
 have hlt:=hm.lt_size
 unfold collect
 refine BJ (Fp (CQ IA ?_))
 rw[CD IC _]
 show Ci _ A.in1 (newList [] >>= λl=>again (.builtin "list.__iadd__" ⟨[l,.ref d],[]⟩)) _ _ s
 refine BJ (CO ?_)
 refine BN ⟨Dk GF _,CQ JP ?_⟩
 rw[CD GF _]
 show Ci _ A.in1 (CA (.ref s.heap.objs.size) (.ref d) (.ref s.heap.objs.size)) _ _ _
 unfold CA
 have hSa:s.heap.objs.size≠d:=E9 hlt
 have z1:(s.heap.push { cls :=.type "list",data :=.seq ([]:List BM).toArray }).objs.size=s.heap.objs.size+1:=DR _ _
 have hm1:=hm.push { cls :=.type "list",data :=.seq ([]:List BM).toArray }
 have hT1:Shared.TypeIs { s with heap:=s.heap.push { cls :=.type "list",data :=.seq ([]:List BM).toArray } } (.ref d) "dict" := hm1.dictOf.typeIs
 refine BJ (D7 hT1 ?_)
 have h1:DF (.ref s.heap.objs.size) (.ref d)=false:=by simp[DF,hSa]
 have h2:(DM "dict" == DM "list")=false:=by decide
 have h3:(DM "dict" == DM "tuple")=false:=by decide
 simp only[h1,h2,h3,HP,Ce,if_false]
 refine BJ (wpAny_pyIter_dict hd hm1 ?_)
 show Ci _ A.in1 (HY [.ref (s.heap.push { cls :=.type "list",data :=.seq ([]:List BM).toArray }).objs.size] (Ds (.ref d)) >>= _) _ _ { s with heap:=(s.heap.push { cls :=.type "list",data :=.seq ([]:List BM).toArray }).push { cls :=.type "dict_keyiterator",data :=.fields #[.ref d,.int 0 0,.int kvs.length 0,.int ep 0] } }
 rw[z1]
 generalize hH:(s.heap.push { cls :=.type "list",data :=.seq ([]:List BM).toArray }).push { cls :=.type "dict_keyiterator",data :=.fields #[.ref d,.int 0 0,.int kvs.length 0,.int ep 0] }=H
 have kH:∀b o,(s.heap.push { cls :=.type "list",data :=.seq ([]:List BM).toArray }).get? b=some o->H.get? b=some o:=λb o e=>by rw[<- hH];exact BL _ e
 have hit:H.IsKeyIter (s.heap.objs.size+1) d 0 kvs.length ep:=by
  refine ⟨{ cls :=.type "dict_keyiterator",data :=.fields #[.ref d,.int 0 0,.int kvs.length 0,.int ep 0] },?_,rfl,rfl⟩
  rw[<- hH, <- z1]
  exact BZ _ rfl
 have hm2:H.DictAt knd d kvs ep:=hm1.keep kH
 have hT2:Shared.TypeIs { s with heap:=H } (.ref d) "dict" := hm2.dictOf.typeIs
 refine BJ (Dj ?_)
 unfold Ds
 refine BJ (D3 hT2 F.slot_dict_len.lookup ?_)
 dsimp only
 rw[show splitId "dict.__len__" = some ("dict", "__len__") by kernel_rfl]
 dsimp only
 refine BJ (EU hT2 (show isSubtype (.type "dict") (.type "dict")=pure true by rw[D8];kernel_rfl) ?_)
 simp only[DN,Ce,if_false]
 show Ci _ _ (typeOf (.ref d) >>= _) _ _ _
 refine BJ (D7 hT2 ?_)
 refine BN ?_
 show Ci _ A.in1 (rule "list.extend.makes-room" >>= λ_=>Builtin.List.listTouch (.ref s.heap.objs.size) >>= λ_ =>
  again (.builtin "list.extend.loop" ⟨[.ref s.heap.objs.size,.ref (s.heap.objs.size+1),.ref s.heap.objs.size],[]⟩)) _ _ _
 refine BJ (EB ?_)
 have hS₁:H.get? s.heap.objs.size=some { cls :=.type "list",data :=.seq ([]:List BM).toArray }:=kH _ _ (BZ _ rfl)
 refine BJ ?_
 show Ci _ A.in1 (updateSeq s.heap.objs.size (·.push .none) >>= λ_=>updateSeq s.heap.objs.size (·.pop)) _ _ _
 refine BJ (DD (s:={ s with heap:=H }) hS₁ rfl ?_)
 have hS₂:=CY (DU (·.push Es)) hS₁ rfl
 refine DD hS₂ rfl ?_
 have hS₃:=CY (DU (·.pop)) hS₂ rfl
 have oth:∀b o,b≠s.heap.objs.size->H.get? b=some o->((H.update s.heap.objs.size (DU (·.push Es))).update s.heap.objs.size (DU (·.pop))).get? b=some o :=
  λb o hb e=>(Cm _ _ (Dq hb)).trans ((Cm _ _ (Dq hb)).trans e)
 have W:=(Walks.dictKeys (prog:=prog) (w:=w) (knd:=knd) (A:=A.in1) hh (s.heap.objs.size+1) d (Cb (C8 hlt)) kvs ep).toS
 have hSf:s.heap.objs.size∉[s.heap.objs.size+1,d]:=by
  simp only[Cg,ET,or_false,not_or]
  exact ⟨Cb (Dz _),hSa⟩
 refine BN ⟨Dk EN _,FQ W hz _ hSf _ kvs.length 0 _ _ _ rfl (CT _) ⟨hit.at λo e=>oth _ o (E9 (Dz _)) e,hm2.at' λo e=>oth _ o (Dq hSa) e⟩ hS₃ (Jg _) λs' acc' c' hmv hS' ha =>?_⟩
 obtain ⟨h',g',d',tk',os'⟩:=s'
 have eg:g'=s.gens:=hmv.gens
 have ed:d'=s.drawn:=hmv.drawn
 have eo:os'=s.os:=hmv.os
 subst eg;subst ed;subst eo
 show Ci _ A (load s.heap.objs.size >>= _) _ _ _
 refine BJ (HJ hS' ?_)
 refine BN (h h' tk' acc'.toList (by rw[BW];exact ha.1) (λi v hv=>ha.2 i v (by rw[B3] at hv;exact hv)) (λb o e =>?_) (Fv (B2 hS')))
 have lt:=B2 e
 refine hmv.heap b o ?_ (oth b o (Cb lt) (kH b o (BL _ e)))
 simp only[Cg,ET,or_false,not_or]
 exact ⟨Cb lt,Cb (C8 lt)⟩
end
end SDct
namespace L2
open PySem PySem.Spec PyProof.Rows Srt
section
variable  {X:Cx}
theorem tm:∀{kvs:List (Key×V)} {vs:List (Key×BM)},KV kvs vs->vs.map (·.1)=kvs.map (·.1)
 | _,_,.nil=>rfl
 | _,_,.cons h t=>by rw[CC,CC,tm t,h.1]
theorem oj (hh:X.A.handled=none):bC X (.builtin "sorted") (λxs H Q=>∃(a:Addr) (kvs:List (Key×V)) (ks:List Int),xs=[.ref a]/\H a=some (.dK kvs)/\kvs.map (·.1)=ks.map Sum.inl/\∀(l:Addr) (out:List Int),H l=none->out.Perm ks->out.Pairwise (· <= ·)->Q (.ref l) (upd H l (.lst (out.map V.int)))):=by
 intro pins s σ H xs us Q I r h
 obtain ⟨a,kvs,ks,rfl,ha,ek,q⟩:=h
 obtain ⟨u,rfl,ru⟩:=vals1 r
 cases (show u=Cd a from ru)
 obtain ⟨z,hd,vs,rel,dd⟩:=wx I.hok ha
 obtain ⟨ep,dd⟩:=dd.dictAt
 have lv:kvs.length=vs.length:=G2 rel
 have keys:vs.map (·.1)=kvs.map (·.1):=tm rel
 have lk:ks.length=vs.length:=by
  have:=congrArg List.length ek
  rw[BK,BK] at this
  lia
 refine FT Kw JZ J0 (J1 _) ?_
 unfold Builtin.«sorted»
 refine BJ (m:=checkCount "sorted" 1 1 _) (BN ?_)
 refine BJ (SDct.oh (by simpa using hh) hd dd (by lia) λh1 tk ws lw hw k1 z1 =>?_)
 have sh:∀(i:Nat) v,ws[i]? = some v->∃t,ks[i]? = some (intOf v)/\v = .int (intOf v) t:=λi v hv=>by
  obtain ⟨k,x,e1,e2⟩:=hw i v hv
  have e3:(vs.map (·.1))[i]? = some k:=by rw[B7,e1];rfl
  rw[keys,ek,B7] at e3
  cases hk:ks[i]? with
  | none=>rw[hk] at e3;cases e3
  | some n =>
   rw[hk] at e3
   cases e3
   obtain ⟨t,rfl⟩:=GB (show Value.isInt n v=true from e2)
   exact ⟨t,rfl,rfl⟩
 have si:∀v∈ws,∃i t,v=DE i t:=λv hv=>by
  obtain ⟨i,hi,e⟩:=Fh hv
  obtain ⟨t,_,e2⟩:=sh i v (by rw[BO hi,e])
  exact ⟨_,t,e2⟩
 have ew:ws.map intOf=ks:=by
  apply FF
  intro i
  rw[B7]
  cases hv:ws[i]? with
  | some v=>obtain ⟨t,e,_⟩:=sh i v hv;rw[e];rfl
  | none =>
   rw[List.getElem?_eq_none_iff] at hv
   rw[Du (by lia)]
   rfl
 have hI:=cY si
 rw[ew] at hI
 have hz':ws.length<=B4:=by lia
 refine BJ (G4 ?_ hz')
 have hoL:(h1.push (seqObj "list" ws.toArray 0)).get? h1.objs.size=some (seqObj "list" ws.toArray 0):=BZ _ rfl
 have kL:∀b o,s.heap.get? b=some o->(h1.push (seqObj "list" ws.toArray 0)).get? b=some o:=λb o e=>BL _ (k1 b o e)
 have C:ip X.prog X.w { s with heap:=h1,toks:=tk } ws nO intOf:=e6 hI
 refine BJ (Dj (DS slot_list_sort ⟨_,hoL,rfl⟩ entry_list_sort (d8 (key:=intOf) (O:=nO) hoL hz' (λh2 h6 k6 =>?_) λout pm ps=>⟨_,rfl,?_⟩) (IY _)))
 ·exact C.ok h2 _ h6 λb o e=>k6 b o (Cb (B2 e)) (BL _ e)
 ·obtain ⟨n,en⟩:=JD (out:=out.toArray) hoL
  have hm:∀v∈out,∃i t,v=DE i t:=λv hv=>si v (pm.mem_iff.mp hv)
  have hO:=cY hm
  have pm':(out.map intOf).Perm ks:=by
   have:=pm.map intOf
   rw[ew] at this
   exact this
  have kf:∀b o,s.heap.get? b=some o->(sortedHeap (h1.push (seqObj "list" ws.toArray 0)) h1.objs.size ws out.toArray).get? b=some o:=λb o e=>by
   have lt:=Cj (B2 e) z1
   rw[IZ (Cb lt) (by rw[JT];exact C8 lt)]
   exact kL b o e
  have fr:H h1.objs.size=none:=I.hok.fresh z1
  refine BN ⟨_,rfl,.ref h1.objs.size,_,I.laid (t':=tk) (o :=.lst ((out.map intOf).map V.int)) kf z1 ⟨?_,out,n,dC hO,en⟩,rfl,q _ _ fr pm' ?_⟩
  ·rw[BK,pm'.length_eq];lia
  ·refine Dh.mpr (ps.imp λ{x y} le =>?_)
   have le':decide (intOf y<intOf x)=false:=le
   have:=of_decide_eq_false le'
   lia
end
end L2
namespace HT
open PySem PySem.Spec PyProof.Rows
section
variable  {prog:Ca}{w:CJ}{A:Dd}{E:BM->BQ->Prop}{s:BQ}{l:Addr}{xs:Array (Int×Tok)}
theorem mP {items:Array BM}{Q:BM->BQ->Prop}(hl:s.heap.IsTuple l items)
  (h:∀s₂:BQ,s₂={ s with heap:=s.heap.push { cls :=.type "tuple_iterator",data :=.fields #[.ref l,.int 0 0] } } →
   (s₂.heap.IsTupleIter s.heap.objs.size l 0/\s₂.heap.IsTuple l items)->(∀b∈[s.heap.objs.size,l],b<s₂.heap.objs.size)->l≠s.heap.objs.size->Q (.ref s.heap.objs.size) s₂) :
  Ci (Cs prog w) A (pyIter (.ref l)) Q E s:=by
 have hlt:l<s.heap.objs.size:=by obtain ⟨_,e,_⟩:=hl;exact B2 e
 refine EW hl (h _ rfl ⟨⟨_,BZ _ rfl,rfl,rfl⟩,?_⟩ (λb hb =>?_) (Cb hlt))
 ·obtain ⟨o,e,c,d⟩:=hl
  exact ⟨o,BL _ e,c,d⟩
 show b<(s.heap.push _).objs.size
 rw[DR]
 rcases Cg.mp hb with rfl | hb
 ·exact Dz _
 ·rcases Cg.mp hb with rfl | hb
  ·exact C8 hlt
  ·cases hb
theorem mQ {h':Heap}(hk:∀b o,b∉[s.heap.objs.size]->(s.heap.push { cls :=.type "tuple_iterator",data :=.fields #[.ref l,.int 0 0] }).get? b=some o->h'.get? b=some o) :
  ∀b o,s.heap.get? b=some o->h'.get? b=some o:=λb o e=>by
 refine hk b o (λhm =>?_) (BL _ e)
 rcases Cg.mp hm with e1 | hm
 ·exact absurd (e1 ▸ B2 e) (C0 _)
 ·cases hm
theorem yF {Q:BM->BQ->Prop}(hh:A.handled=none)(hl:s.heap.IsTuple l (ER xs))(hne:0<xs.size)
  (h:∀v h' tk,(ER xs)[argBest (λi j=>decide (numAt xs i>numAt xs j)) (xs.size-1)]? = some v->(∀b o,s.heap.get? b=some o->h'.get? b=some o)->Q v { s with heap:=h',toks:=tk }) :
  Ci (Cs prog w) A (call (.builtin "max") [.ref l]) Q E s:=by
 refine call_max_walk (mP hl λs₂ e st hfp hlI =>?_)
 subst e
 refine ⟨_,_,_,_,_,_,_,rfl,HN (A:=A.in1) hh _ l hlI (ER xs),st,hfp,by simpa [ER] using hne,CmpOf.ints_gt (numAt xs) (λ_ _=>Jk),λv h' tk hP hk =>?_⟩
 exact h v h' tk (by simpa [ER] using hP) (mQ hk)
theorem yG {Q:BM->BQ->Prop}(hh:A.handled=none)(hl:s.heap.IsTuple l (ER xs))(hne:0<xs.size)
  (h:∀v h' tk,(ER xs)[argBest (λi j=>decide (numAt xs i<numAt xs j)) (xs.size-1)]? = some v->(∀b o,s.heap.get? b=some o->h'.get? b=some o)->Q v { s with heap:=h',toks:=tk }) :
  Ci (Cs prog w) A (call (.builtin "min") [.ref l]) Q E s:=by
 refine call_min_walk (mP hl λs₂ e st hfp hlI =>?_)
 subst e
 refine ⟨_,_,_,_,_,_,_,rfl,HN (A:=A.in1) hh _ l hlI (ER xs),st,hfp,by simpa [ER] using hne,KR (numAt xs) (λ_ _=>Jk),λv h' tk hP hk =>?_⟩
 exact h v h' tk (by simpa [ER] using hP) (mQ hk)
end
end HT
namespace L2
open PySem PyProof.Rows
section
variable  {X:Cx}{K:BP}
theorem ii2 {i j:Int}{t1 t2:Tok}:ER #[(i,t1),(j,t2)] = #[DE i t1,DE j t2]:=by simp[ER]
theorem mR (hc:X.calm=true)(hk:X.K=K:=by rfl):bC X (.builtin "min") (λxs H Q=>∃(p:Addr) (i j:Int),xs=[.ref p]/\SqT K H p [.int i,.int j]/\Q (.int (if j<i then j else i)) H):=by
 subst hk
 intro pins s σ H xs us Q I r h
 obtain ⟨p,i,j,rfl,hq,q⟩:=h
 obtain ⟨u,rfl,ru⟩:=vals1 r
 cases (show u=Cd p from ru)
 obtain ⟨its,rv,ht,_⟩:=I.tuple hq
 obtain ⟨x,y,rfl,⟨t1,rfl⟩,⟨t2,rfl⟩⟩:=vals2 rv
 refine HT.yG (I.ok.hd hc) (xs := #[(i,t1),(j,t2)]) (by rw[ii2];exact ht) (by simp) λv h' tk hv k =>?_
 have ev:∃t,v = .int (if j<i then j else i) t:=by
  have hb:argBest (λa b=>decide (numAt #[(i,t1),(j,t2)] a<numAt #[(i,t1),(j,t2)] b)) (#[(i,t1),(j,t2)].size-1)=if j<i then 1 else 0:=by
   show (if decide (j<i)=true then 1 else 0)=_
   by_cases h:j<i
   ·rw[decide_eq_true h,if_pos h,if_pos rfl]
   ·rw[decide_eq_false h,if_neg h,if_neg B6]
  rw[hb,ii2] at hv
  by_cases h:j<i
  ·rw[if_pos h] at hv ⊢
   exact ⟨t2,(Cw (show some (DE j t2)=some v from hv)).symm⟩
  ·rw[if_neg h] at hv ⊢
   exact ⟨t1,(Cw (show some (DE i t1)=some v from hv)).symm⟩
 obtain ⟨t,rfl⟩:=ev
 exact ⟨.int _,H,I.kept k,⟨_,rfl⟩,q⟩
theorem mW (hc:X.calm=true)(hk:X.K=K:=by rfl):bC X (.builtin "max") (λxs H Q=>∃(p:Addr) (i j:Int),xs=[.ref p]/\SqT K H p [.int i,.int j]/\Q (.int (if j>i then j else i)) H):=by
 subst hk
 intro pins s σ H xs us Q I r h
 obtain ⟨p,i,j,rfl,hq,q⟩:=h
 obtain ⟨u,rfl,ru⟩:=vals1 r
 cases (show u=Cd p from ru)
 obtain ⟨its,rv,ht,_⟩:=I.tuple hq
 obtain ⟨x,y,rfl,⟨t1,rfl⟩,⟨t2,rfl⟩⟩:=vals2 rv
 refine HT.yF (I.ok.hd hc) (xs := #[(i,t1),(j,t2)]) (by rw[ii2];exact ht) (by simp) λv h' tk hv k =>?_
 have ev:∃t,v = .int (if j>i then j else i) t:=by
  have hb:argBest (λa b=>decide (numAt #[(i,t1),(j,t2)] a>numAt #[(i,t1),(j,t2)] b)) (#[(i,t1),(j,t2)].size-1)=if j>i then 1 else 0:=by
   show (if decide (j>i)=true then 1 else 0)=_
   by_cases h:j>i
   ·rw[decide_eq_true h,if_pos h,if_pos rfl]
   ·rw[decide_eq_false h,if_neg h,if_neg B6]
  rw[hb,ii2] at hv
  by_cases h:j>i
  ·rw[if_pos h] at hv ⊢
   exact ⟨t2,(Cw (show some (DE j t2)=some v from hv)).symm⟩
  ·rw[if_neg h] at hv ⊢
   exact ⟨t1,(Cw (show some (DE i t1)=some v from hv)).symm⟩
 obtain ⟨t,rfl⟩:=ev
 exact ⟨.int _,H,I.kept k,⟨_,rfl⟩,q⟩
end
open PySem PyProof.Rows
section
variable  {X:Cx}
def As (ns ms:List Int)(j:Nat):Bool:=ns.getD j 0 == ms.getD j 0
theorem wB {ns ms:List Int}(h:ns.length=ms.length):((Dl ns.length).all λj=>As ns ms j)=decide (ns=ms):=by
 rw[EK,decide_eq_true_iff,ES]
 constructor
 ·intro hh
  refine Ke h λj h1 h2 =>?_
  have:=hh j (Dr.mpr h1)
  unfold As at this
  rw[B8,B8,BO h1,BO h2] at this
  exact of_decide_eq_true (by simpa using this)
 ·rintro rfl j _
  exact beq_self_eq_true _
theorem intAt {ns:List Int}{us:List BM}(r:Vals (ns.map V.int) us){j:Nat}(h:j<us.toArray.size):∃t,us.toArray[j] = .int (ns.getD j 0) t:=by
 have l:=r.length
 rw[BK] at l
 rw[BX] at h
 have e1:(ns.map V.int)[j]? = some (.int (ns.getD j 0)):=by
  rw[B7,B8,BO (by lia)]
  rfl
 obtain ⟨u,g1,q1⟩:=r.get e1
 have f1:us.toArray[j]=u:=by simp[B1] at g1;obtain ⟨_,g⟩:=g1;simpa using g
 rw[f1]
 exact q1
theorem om {k:Nat}(hr:cW k X.A):OpR X (DW .NotEq) (λx y H Q=>∃(a b:Addr) (ns ms:List Int),x = .ref a/\y = .ref b/\SqL X.K H a (ns.map V.int)/\SqL X.K H b (ms.map V.int)/\Q (.bl (!decide (ns=ms))) H):=by
 intro pins s σ H x y v u Q I rx ry h
 obtain ⟨a,b,ns,ms,rfl,rfl,h1,h2,q⟩:=h
 cases (show v=Cd a from rx)
 cases (show u=Cd b from ry)
 obtain ⟨its,r1,⟨⟨c1,d1,da1,sl1⟩,n1,e1,k1,_,k3⟩,_⟩:=I.list h1
 obtain ⟨its2,r2,⟨⟨c2,d2,da2,sl2⟩,n2,e2,g1,_,g3⟩,_⟩:=I.list h2
 simp only at k1 k3 g1 g3
 subst k1 k3 g1 g3
 have l1:=r1.length
 have l2:=r2.length
 rw[BK] at l1 l2
 have hu:=hr.un
 have hu1:X.A.units<cLine:=by lia
 by_cases hl:ns.length=ms.length
 ·refine GA (op :=.NotEq) ⟨_,e1,rfl⟩ ⟨_,e2,rfl⟩ F.slot_list_ne Ko (Kf _ _) (SeqAt.list_neAt a b its.toArray its2.toArray n1 n2 d1 d2 sl1 sl2 (by rw[BX,BX];lia) (As ns ms)) ⟨e1,e2,?_,?_⟩ hu1
  ·intro j h1 h2
   obtain ⟨t1,g1⟩:=intAt r1 h1
   obtain ⟨t2,g2⟩:=intAt r2 h2
   rw[g1,g2]
   exact Ft _ t1 _ t2
  ·have ez:its.toArray.size=ns.length:=by rw[BX];lia
   rw[ez,wB hl]
   exact ⟨(λz=>nomatch z),⟨.bl _,H,I,rfl,q⟩⟩
 ·have ne:ns≠ms:=λz=>hl (by rw[z])
  rw[decide_eq_false ne] at q
  refine GA (op :=.NotEq) ⟨_,e1,rfl⟩ ⟨_,e2,rfl⟩ F.slot_list_ne Ko (Kf _ _) (SeqAt.list_ne_lengthsAt a b its.toArray its2.toArray n1 n2 d1 d2 sl1 sl2 (by simp;lia)) ⟨e1,e2,?_⟩ hu1
  exact ⟨(λz=>nomatch z),⟨.bl true,H,I,rfl,q⟩⟩
end
end L2
namespace HT
open PySem PySem.Spec PyProof.Rows
section
variable  {prog:Ca}{w:CJ}{A:Dd}{R:Result->BQ->Prop}{I:Addr}{fp wr:List Addr}{n:Nat}{P:Nat->BM->Prop}{St:Nat->Heap->Prop}{kw:List (Str×BM)}
end
section
variable  {prog:Ca}{w:CJ}{A:Dd}{E:BM->BQ->Prop}{s:BQ}{l:Addr}{xs:Array (Int×Tok)}
end
end HT
namespace L2
open PySem PyProof.Rows
section
variable  {X:Cx}{x:Str}{id:String}{e:Expr}{es:List Expr}{kws:List Keyword}{p pos:Pos}{t tk:TA}{ks:List Str}{r:List V->List V->Hp->VK->Prop}
end
open PySem PyProof.Rows
section
variable  {X:Cx}
theorem Au {ns:List Int}{j:Nat}(h:j<ns.length):ns.getD j 0∈ns:=by
 rw[B8,BO h]
 exact Fm h
theorem Av {ns:List Int}{a:Int}(h:a∈ns):∃j,j<ns.length/\ns.getD j 0=a:=by
 obtain ⟨j,hj,e⟩:=Fh h
 exact ⟨j,hj,by rw[B8,BO hj];exact e⟩
end
open PySem PyProof.Rows
section
variable  {X:Cx}
def qc (ns ms:List Int)(j:Nat):Bool:=ns.getD j 0 == ms.getD j 0
theorem uZ {ns ms:List Int}(h:ns.length=ms.length):((Dl ns.length).all λj=>qc ns ms j)=decide (ns=ms):=by
 rw[EK,decide_eq_true_iff,ES]
 constructor
 ·intro hh
  refine Ke h λj h1 h2 =>?_
  have:=hh j (Dr.mpr h1)
  unfold qc at this
  rw[B8,B8,BO h1,BO h2] at this
  exact of_decide_eq_true (by simpa using this)
 ·rintro rfl j _
  exact beq_self_eq_true _
theorem mX {ns ms:List Int}:((Dl (min ns.length ms.length)).all (qc ns ms) && ns.length == ms.length)=decide (ns=ms):=by
 by_cases h:ns.length=ms.length
 ·rw[<- h,Iw,show (ns.length == ns.length)=true from beq_self_eq_true _,Jt]
  exact uZ h
 ·have ne:ns≠ms:=λz=>h (by rw[z])
  rw[decide_eq_false ne,show (ns.length == ms.length)=false from by simpa using h,Ht]
theorem oq {ns:List Int}{us:List BM}(r:Vals (ns.map V.int) us){j:Nat}(h:j<us.toArray.size):∃t,us.toArray[j] = .int (ns.getD j 0) t:=by
 have l:=r.length
 rw[BK] at l
 rw[BX] at h
 have e1:(ns.map V.int)[j]? = some (.int (ns.getD j 0)):=by
  rw[B7,B8,BO (by lia)]
  rfl
 obtain ⟨u,g1,q1⟩:=r.get e1
 have f1:us.toArray[j]=u:=by simp[B1] at g1;obtain ⟨_,g⟩:=g1;simpa using g
 rw[f1]
 exact q1
theorem op_eqTI {k:Nat}(hr:cW k X.A):OpR X (DW .Eq) (λx y H Q=>∃(a b:Addr) (ns ms:List Int),x = .ref a/\y = .ref b/\SqT X.K H a (ns.map V.int)/\SqT X.K H b (ms.map V.int)/\Q (.bl (decide (ns=ms))) H):=by
 intro pins s σ H x y v u Q I rx ry h
 obtain ⟨a,b,ns,ms,rfl,rfl,h1,h2,q⟩:=h
 cases (show v=Cd a from rx)
 cases (show u=Cd b from ry)
 obtain ⟨its,r1,p1,_⟩:=I.tuple h1
 obtain ⟨its2,r2,p2,_⟩:=I.tuple h2
 have l1:=r1.length
 have l2:=r2.length
 rw[BK] at l1 l2
 have hu:=hr.un
 have hu1:X.A.units<cLine:=by lia
 have R:=SeqAt.RcAt.tuples (A:=X.A) (e:=qc ns ms) (show s.heap.IsTuple a its.toArray from p1) (show s.heap.IsTuple b its2.toArray from p2) hu1 (by
  intro j h1 h2
  obtain ⟨t1,g1⟩:=oq r1 h1
  obtain ⟨t2,g2⟩:=oq r2 h2
  rw[g1,g2]
  exact Ft _ t1 _ t2)
 rw[BX,BX, <- l1, <- l2,mX] at R
 exact R _ _ _ _ ⟨.bl _,H,I,rfl,q⟩
theorem yH {k:Nat}(hr:cW k X.A):OpR X (DW .NotEq) (λx y H Q=>∃(a b:Addr) (ns ms:List Int),x = .ref a/\y = .ref b/\SqT X.K H a (ns.map V.int)/\SqT X.K H b (ms.map V.int)/\Q (.bl (!decide (ns=ms))) H):=by
 intro pins s σ H x y v u Q I rx ry h
 obtain ⟨a,b,ns,ms,rfl,rfl,h1,h2,q⟩:=h
 cases (show v=Cd a from rx)
 cases (show u=Cd b from ry)
 obtain ⟨its,r1,p1,_⟩:=I.tuple h1
 obtain ⟨its2,r2,p2,_⟩:=I.tuple h2
 have l1:=r1.length
 have l2:=r2.length
 rw[BK] at l1 l2
 have hu:=hr.un
 have hu1:X.A.units<cLine:=by lia
 have R:=SeqAt.RcNeAt.tuples (A:=X.A) (e:=qc ns ms) (show s.heap.IsTuple a its.toArray from p1) (show s.heap.IsTuple b its2.toArray from p2) hu1 (by
  intro j h1 h2
  obtain ⟨t1,g1⟩:=oq r1 h1
  obtain ⟨t2,g2⟩:=oq r2 h2
  rw[g1,g2]
  exact Ft _ t1 _ t2)
 rw[BX,BX, <- l1, <- l2,mX] at R
 exact R _ _ _ _ ⟨.bl _,H,I,rfl,q⟩
end
section
variable  {P:Ca}{w:CJ}{K:BP}{mg:Str->Option BM}{base:Heap}
end
end L2
namespace L2.Rev
open PySem
open Sem (wp)
section
variable  {prog:Ca}{w:CJ}{A:Dd}{E:BM->BQ->Prop}{s:BQ}
theorem rH:typeLookup (.type "list_reverseiterator") "__len__" = pure none:=by rw[Ey,DI];kernel_rfl
theorem iy:typeLookup (.type "list_reverseiterator") "__length_hint__" = pure (some (.builtin "list_reverseiterator.__length_hint__")):=by rw[Ey,DI];kernel_rfl
theorem wC {I l:Addr}{i:Int}{Q:Bool->BQ->Prop}(hit:s.heap.IsRevIter I l i)(h:Q false s):Ci (Cs prog w) A (Ds (.ref I)) Q E s:=by
 unfold Ds
 refine BJ (D3 hit.typeIs rH ?_)
 wp_delta
 refine BJ (D3 hit.typeIs iy ?_)
 generalize hid:("list_reverseiterator.__length_hint__" : String)=id0
 wp_delta
 rw[show splitId id0=some ("list_reverseiterator", "__length_hint__") from by subst hid;decide +kernel]
 subst hid
 refine BJ (EU (T := "list_reverseiterator") (b:=true) hit.typeIs (by rw[D8];kernel_rfl) ?_)
 refine Dv (λhab=>absurd hab (by decide)) (λ_ =>?_)
 refine Dv (λ_ =>?_) (λhab=>absurd (by decide +kernel) hab)
 refine Dv (λhab=>absurd hab (by decide +kernel)) (λ_ =>?_)
 exact BN h
theorem rJ {R:Result->BQ->Prop}{I l:Addr}{items:Array BM}(hh:A.handled=none)(hit:s.heap.IsRevIter I l ((items.size:Int)-1))(hl:s.heap.IsList l items)(hne:l≠I)(hlen:items.size<=2 ^ 24)
  (S:Addr) (hSI:S≠I) (hSl:S≠l) (res:BM) (c₀:Nat) (hS:s.heap.get? S=some { cls :=.type "list",data :=.seq #[] c₀ })
  (hR:∀h' tk acc' c',(∀b o,b≠S->b≠I->s.heap.get? b=some o->h'.get? b=some o)->h'.get? S=some { cls :=.type "list",dict:=none,data :=.seq acc' c',slots := #[] } →
   ItemsOf (λi v=>items[items.size-1-i]? = some v) acc' items.size->R (.ok (.ret res)) { s with heap:=h',toks:=tk }) :
  Ci (Cs prog w) A.in1 (CA (.ref S) (.ref I) res)
   (λfin s'=>match fin with | .done f=>R (.ok f) s' | .again c'=>c'.quiet=true/\FC (Cs prog w) A c' R s') (λe s'=>R (.error e) s') s:=by
 have hSf:S∉[I,l]:=λhm=>by
  rcases Cg.mp hm with e | hm
  ·exact hSI e
  ·exact hSl (BU.mp hm)
 have W:=(Walks.listRev (prog:=prog) (w:=w) (A:=A.in1) hh I l hne items).toS
 unfold CA
 refine BJ (D7 (T := "list_reverseiterator") hit.typeIs ?_)
 have h1:DF (.ref S) (.ref I)=false:=by simp[DF,hSI]
 have h2:(DM "list_reverseiterator" == DM "list")=false:=by decide +kernel
 have h3:(DM "list_reverseiterator" == DM "tuple")=false:=by decide +kernel
 simp only[h1,h2,h3,HP,Ce,if_false]
 refine BJ (wpAny_pyIter_revIter hit ?_)
 refine BJ (Dj (wC hit ?_))
 refine Dv (λhab=>absurd hab (by decide +kernel)) (λ_=>BN ⟨Dk EN _,?_⟩)
 refine FQ W (by rw[Er];omega) S hSf res items.size 0 _ #[] c₀ rfl (CT _) ⟨CT _,by simpa using hit,hl⟩ hS (Jg _) λs' acc' c' hm hS' hacc =>?_
 rw[Ju hm]
 refine hR s'.heap s'.toks acc' c' (λb o hb hbI e=>hm.heap b o (λhmem =>?_) e) hS' hacc
 rcases Cg.mp hmem with e' | hmem
 ·exact hb e'
 ·exact hbI (BU.mp hmem)
theorem wD {R:Result->BQ->Prop}{I l:Addr}{items:Array BM}(hh:A.handled=none)(hit:s.heap.IsRevIter I l ((items.size:Int)-1))(hl:s.heap.IsList l items)(hne:l≠I)(hlen:items.size<=2 ^ 24)
    (S:Addr) (hSI:S≠I) (hSl:S≠l) (hS:s.heap.get? S=some { cls :=.type "list",data :=.seq #[] })
    (hR:∀h' tk acc' c',(∀b o,b≠S->b≠I->s.heap.get? b=some o->h'.get? b=some o)->h'.get? S=some { cls :=.type "list",dict:=none,data :=.seq acc' c',slots := #[] } →
      ItemsOf (λi v=>items[items.size-1-i]? = some v) acc' items.size->R (.ok (.ret .none)) { s with heap:=h',toks:=tk }) :
    Ci (Cs prog w) A.in1 (Builtin.«list.__init__» ⟨[.ref S,.ref I],[]⟩)
      (λfin s'=>match fin with | .done f=>R (.ok f) s' | .again c'=>c'.quiet=true/\FC (Cs prog w) A c' R s') (λe s'=>R (.error e) s') s:=by
  show Ci _ _ (do let old ← Builtin.List.listItems (.ref S);Builtin.List.listUpdate (.ref S) (λ_ => #[]);letGo old.toList.reverse;CA (.ref S) (.ref I) .none) _ _ s
  refine BJ ?_
  unfold Builtin.List.listItems
  refine BJ (EH hS rfl (BN ?_))
  show Ci _ _ (updateSeq S (λ_ => #[]) >>= λ_=>letGo (#[]:Array BM).toList.reverse >>= λ_=>CA (.ref S) (.ref I) .none) _ _ s
  refine BJ (DD hS rfl ?_)
  have hS₂:=CY (DU (λ_=>(#[]:Array BM))) hS rfl
  have oth:∀b o,b≠S->s.heap.get? b=some o->(s.heap.update S (DU (λ_=>(#[]:Array BM)))).get? b=some o :=
    λb o hb e=>(Cm _ _ (Dq hb)).trans e
  refine BJ (FA ?_)
  refine rJ hh (hit.at λo e=>oth I o (Dq hSI) e) (hl.at λo e=>oth l o (Dq hSl) e) hne hlen S hSI hSl .none _ hS₂ λh' tk acc' c' hk hS' hacc =>?_
  exact hR h' tk acc' c' (λb o hb hbI e=>hk b o hb hbI (oth b o hb e)) hS' hacc
theorem wF {Q:BM->BQ->Prop}{I l:Addr}{items:Array BM}(hh:A.handled=none)(hit:s.heap.IsRevIter I l ((items.size:Int)-1))(hl:s.heap.IsList l items)(hne:l≠I)(hlen:items.size<=2 ^ 24)
  (hQ:∀h' tk acc' c',(∀b o,b≠I->s.heap.get? b=some o->h'.get? b=some o) →
   h'.get? s.heap.objs.size=some { cls :=.type "list",dict:=none,data :=.seq acc' c',slots := #[] }->ItemsOf (λi v=>items[items.size-1-i]? = some v) acc' items.size->Q (.ref s.heap.objs.size) { s with heap:=h',toks:=tk }) :
  Ci (Cs prog w) A (call (.type "list") [.ref I]) Q E s:=by
 refine callType_codes (Q₁:=λobj s₁=>obj = .ref s.heap.objs.size/\s₁={ s with heap:=s.heap.push { cls :=.type "list",data :=.seq #[] } }) F.called_list (F.typeCall_list_1 _) F.entry_list_init
  (code_list_new _ ⟨rfl,rfl⟩) λobj s₁ h₁ =>?_
 obtain ⟨rfl,rfl⟩:=h₁
 have hS:(s.heap.push { cls :=.type "list",data :=.seq #[] }).get? s.heap.objs.size=some { cls :=.type "list",data :=.seq #[] }:=BZ _ rfl
 obtain ⟨oi,hoi,_⟩:=id hit
 obtain ⟨ol,hol,_⟩:=id hl
 refine ⟨⟨_,hS,rfl⟩,F.args_list_init_2 _ _,wD (A:=A.in1) hh (hit.at λo e=>BL _ e) (hl.at λo e=>BL _ e) hne hlen _ (Dq (Cb (B2 hoi))) (Dq (Cb (B2 hol))) hS λh' tk acc' c' hk hS' hacc =>?_⟩
 exact ⟨rfl,hQ h' tk acc' c' (λb o hbI e=>hk b o (Cb (B2 e)) hbI (BL _ e)) hS' hacc⟩
end
end L2.Rev
namespace L2
open PySem PySem.Spec PyProof.Rows
section
variable  {X:Cx}
theorem jq:Dn "reversed" = some (.type "reversed"):=by decide +kernel
theorem wG:Dn "list" = some (.type "list"):=by decide +kernel
theorem kJ:∀{xs:List V} {us:List BM},Vals xs us->Vals xs.reverse us.reverse
 | [],[],_ =>.nil
 | x :: xs,u :: us,.cons h t=>by
  rw[FH,FH]
  exact (kJ t).append (.cons h .nil)
def wH (K:BP)(te:TE):TE:=λσ H Q=>te σ H λx H1=>∃l xs,x = .ref l/\SqL K H1 l xs/\xs.length<=1000/\∀p,H1 p=none->Q (.ref p) (upd H1 p (.lst xs.reverse))
theorem rL {e:Expr}{te:TE}{p1 p2 pos1 pos2:Pos}(hh:X.A.handled=none)(hg1:Gl X "list")(hm1:X.mg "list" = none)(hg2:Gl X "reversed")(hm2:X.mg "reversed" = none)(he:PE X e te)
  (hs1:CN [Expr.Call (.Name "reversed" p2) [e] [] pos2] X.env=(false,eval (.Call (.Name "reversed" p2) [e] [] pos2) X.env) :: CN [] X.env:=by rfl) (hp1:(Fo pos1 (CN [] X.env)).any (·.1)=false:=by rfl)
  (hs2:CN [e] X.env=(false,eval e X.env) :: CN [] X.env:=by rfl) (hp2:(Fo pos2 (CN [] X.env)).any (·.1)=false:=by rfl) :
  PE X (.Call (.Name "list" p1) [.Call (.Name "reversed" p2) [e] [] pos2] [] pos1) (wH X.K te):=by
 intro pins s σ H Q I h
 refine DX (dH I hg1 hm1 wG ?_ (by decide) (by decide))
 refine DA ?_ hs1 hp1
 rw[hs1]
 show Ci _ _ (spliced ((false,eval (.Call (.Name "reversed" p2) [e] [] pos2) X.env) :: Fo pos1 (CN [] X.env))) _ _ s
 refine Hm ?_
 refine DX (dH I hg2 hm2 jq ?_ (by decide) (by decide))
 refine DA (thn ((aa he ag hs2) pos2 pins s σ H (λvs H1=>match vs with | [x]=>∃l xs,x = .ref l/\SqL X.K H1 l xs/\xs.length<=1000/\∀p,H1 p=none->Q (.ref p) (upd H1 p (.lst xs.reverse)) | _=>False) I ?_) λus s1 ⟨vs,H1,I1,r1,q1⟩ =>?_) hs2 hp2
 ·exact h
 ·match vs,q1 with
  | [x],q1 =>
  obtain ⟨l,xs,rfl,hx,h1000,q⟩:=q1
  obtain ⟨u,rfl,ru⟩:=vals1 r1
  cases (show u=Cd l from ru)
  obtain ⟨its,r,hl,hz⟩:=I1.list hx
  have hL:s1.heap.IsList l its.toArray:=hl.isList
  refine call_reversed_list hL ?_
  refine Hy ?_
  have ll:=r.length
  obtain ⟨ol,hol,_⟩:=id hL
  refine Rev.wF hh (I:=s1.heap.objs.size) (l:=l) (items:=its.toArray) ⟨_,BZ _ rfl,rfl,rfl⟩ (hL.at λo e=>BL _ e) (Cb (B2 hol)) (by rw[BX];omega) λh' tk acc' c' k e' it =>?_
  have ea:acc'.toList=its.reverse:=by
   refine FF λj =>?_
   rw[B3]
   have h1:acc'.size=its.length:=by rw[it.1,BX]
   by_cases hj:j<its.length
   ·obtain ⟨v,hv⟩:∃v,acc'[j]? = some v:=⟨acc'[j]'(by omega),Cp _⟩
    have:=it.2 j v hv
    dsimp only at this
    rw[Dm,BX] at this
    rw[hv,ID hj,this]
   ·rw[Eh (by omega),Du (by rw[DJ];omega)]
  have rv:=kJ r
  rw[<- ea] at rv
  have L1:(s1.heap.push (revObj l (((its.toArray).size:Int)-1))).objs.size=s1.heap.objs.size+1:=by
   simp[Heap.push]
  refine ⟨.ref (s1.heap.push (revObj l (((its.toArray).size:Int)-1))).objs.size,_,I1.laid (o :=.lst xs.reverse) (λb u eb=>k b u (Cb (B2 eb)) (BL _ eb)) (by rw[L1];omega) ⟨by rw[DJ];exact hz,acc'.toList,c',rv,by simpa using e'⟩,rfl,q _ (I1.hok.fresh (by rw[L1];omega))⟩
end
open PySem PySem.Spec PyProof.Rows
section
variable  {X:Cx}
theorem qd:bC X (.builtin "len") (λxs H Q=>∃(a:Addr) (ys:List V),xs=[.ref a]/\H a=some (cQ X.w a ys)/\ys.length<1000/\Q (.int ys.length) H):=by
 intro pins s σ H xs us Q I r h
 obtain ⟨a,ys,rfl,ha,hl,q⟩:=h
 obtain ⟨u,rfl,ru⟩:=vals1 r
 cases (show u=Cd a from ru)
 obtain ⟨⟨es,⟨ep,t,ho,T,_⟩,rv⟩,_⟩:=(show bB X.prog X.w H s.heap a (cQ X.w a ys) from I.hok a _ ha)
 have l:=rv.length
 have l2:es.size=ys.length:=by simpa using l.symm
 refine call_len_set ho ⟨rfl,rfl,rfl⟩ rfl (by have:=T.fits;rwa [C9] at this) (by lia) ?_
 rw[l2]
 exact ⟨.int ys.length,H,I.tok _,⟨_,rfl⟩,q⟩
end
open PySem PySem.Spec PyProof.Rows
def yI:Stmt->List Stmt
 | .For _ _ body _ _=>body
 | _=>[]
variable  {X:Cx}
open PySem PySem.Spec PyProof.Rows
section
variable  {X:Cx}
theorem wI {k:Int}:∀{ns:List Int} {m:Nat} (h:m<ns.length),m<ns.idxOf k->ns[m]≠k
 | [],m,h,_=>absurd h (G7 _)
 | n :: ns,0,_,l=>by
  intro z
  have e:(n :: ns)[0]=n:=rfl
  rw[e] at z
  subst z
  simp at l
 | n :: ns,m+1,h,l=>by
  have h':m<ns.length:=Nat.lt_of_succ_lt_succ h
  show ns[m]≠k
  refine wI h' ?_
  by_cases e:n=k
  ·subst e;simp at l
  ·rw[List.idxOf_cons,show (n == k)=false by simpa using e] at l
   simp at l
   exact l
def tq (K:BP):R2:=λx y H Q=>∃a b xs ys,x = .ref a/\y = .ref b/\SqT K H a xs/\SqT K H b ys/\xs.length+ys.length<=B4/\(xs=[]->Q (.ref b) H)/\(ys=[]->Q (.ref a) H)/\(xs≠[]->ys≠[]->∀p,H p=none->Q (.ref p) (upd H p (.tup (xs++ys))))
theorem wJ:OpR X (binaryOp .Add) (tq X.K):=by
 intro pins s σ H x y v u Q I rx ry h
 obtain ⟨a,b,xs,ys,rfl,rfl,ha,hb,hz,q1,q2,q3⟩:=h
 by_cases hx:xs=[]
 ·cases rx
  cases ry
  obtain ⟨its,r1,p1,_⟩:=I.tuple ha
  obtain ⟨its2,r2,p2,_⟩:=I.tuple hb
  obtain ⟨⟨c1,d1,da1,s1⟩,o1,k1,n1,g1⟩:=id p1
  obtain ⟨⟨c2,d2,da2,s2⟩,o2,k2,n2,g2⟩:=id p2
  simp only at k1 g1 k2 g2
  subst k1 g1 k2 g2
  have e0:its=[]:=r1.jB.mpr hx
  exact IJ ⟨_,o1,rfl⟩ ⟨_,o2,rfl⟩ Ig JA Gx Gi (F1 _ _)
   (tuple_addW0 a b its.toArray its2.toArray n1 n2 d1 d2 s1 s2 (by simp[e0])) ⟨o1,o2,⟨.ref b,H,I,rfl,q1 hx⟩⟩
 ·exact xZ pins s σ H _ _ v u Q I rx ry ⟨a,b,xs,ys,rfl,rfl,ha,hb,hx,hz,q2,λhy=>q3 hx hy⟩
theorem tq.one {K:BP}{H:Hp}{Q:VK}{a b:Addr}{xs ys:List V}(ha:H a=some (.tup xs))(hb:H b=some (.tup ys))(hz:xs.length+ys.length<=B4)(q:∀p H',aD H H'->H' p=some (.tup (xs++ys))->Q (.ref p) H'):tq K (.ref a) (.ref b) H Q:=by
 refine ⟨a,b,xs,ys,rfl,rfl,SqT.of ha,SqT.of hb,hz,λz =>?_,λz =>?_,λ_ _ p hp=>q p _ (af hp _) ah⟩
 ·subst z;exact q b H (aD.refl _) hb
 ·subst z;exact q a H (aD.refl _) (by rw[CK];exact ha)
end
end L2
namespace L2.RvT
open PySem PyProof.Rows
open Sem (wp)
theorem iU:Manifest.owners.lookup (String.ofList ['d', 'e', 's', 'r', 'e', 'v', 'e', 'r'].reverse)=some Manifest.sig_reversed:=by kernel_rfl
theorem slot_next:Slot "reversed" "__next__" "reversed.__next__" :=
 .of (owner := "reversed") (n := "__next__") (by rw[Ey,DI];kernel_rfl) (by decide +kernel) (by decide +kernel) (by decide +kernel)
  (by first | exact .inl (by decide +kernel) | exact .inr (by decide +kernel)) (by rw[D8];kernel_rfl)
theorem entry_next:entryFor table "reversed.__next__" = some Builtin.«reversed.__next__» := Ii (by kernel_rfl)
theorem args_next (a:BM):argsOk "reversed.__next__" ⟨[a],[]⟩:=by
 unfold argsOk;rw[JF (id := "reversed.__next__") (n:=['_', '_', 't', 'x', 'e', 'n', '_', '_']) (o:=['d', 'e', 's', 'r', 'e', 'v', 'e', 'r']) (by kernel_rfl) iU];kernel_rfl
theorem mY:Slot "reversed" "__iter__" "reversed.__iter__" :=
 .of (owner := "reversed") (n := "__iter__") (by rw[Ey,DI];kernel_rfl) (by decide +kernel) (by decide +kernel) (by decide +kernel)
  (by first | exact .inl (by decide +kernel) | exact .inr (by decide +kernel)) (by rw[D8];kernel_rfl)
theorem u3 (a:BM):argsOk "reversed.__iter__" ⟨[a],[]⟩:=by
 unfold argsOk;rw[JF (id := "reversed.__iter__") (n:=['_', '_', 'r', 'e', 't', 'i', '_', '_']) (o:=['d', 'e', 's', 'r', 'e', 'v', 'e', 'r']) (by kernel_rfl) iU];kernel_rfl
theorem rM:entryFor table "reversed.__iter__" = some Builtin.«dict_keyiterator.__iter__» :=
 entryFor_alias (id' := "dict_keyiterator.__iter__") (by kernel_rfl) (by first | rfl | decide +kernel | (unfold String.splitOn;simp +decide [String.splitOnAux])) (by decide +kernel) (by kernel_rfl)
theorem Aw:typeLookup (.type "tuple") "__reversed__" = pure none:=by rw[Ey,DI];kernel_rfl
theorem rH:typeLookup (.type "reversed") "__len__" = pure none:=by rw[Ey,DI];kernel_rfl
theorem iy:typeLookup (.type "reversed") "__length_hint__" = pure (some (.builtin "reversed.__length_hint__")):=by rw[Ey,DI];kernel_rfl
theorem sub_self:isSubtype (.type "reversed") (.type "reversed")=pure true:=by rw[D8];kernel_rfl
theorem wK:isSubtype (.type "tuple") (.type "dict")=pure false:=by rw[D8];kernel_rfl
theorem u5:Slot "reversed" "__init__" "object.__init__" :=
 .of (owner := "object") (n := "__init__") (by rw[Ey,DI];kernel_rfl) (by decide +kernel) (by decide +kernel) (by decide +kernel)
  (by first | exact .inl (by decide +kernel) | exact .inr (by decide +kernel)) (by rw[D8];kernel_rfl)
theorem called:TypeCalled "reversed" "reversed.__new__" "object.__init__" :=
 ⟨by decide +kernel,by decide +kernel,⟨_,_,IV⟩,madeBy_type IV PySem.F.lookup_reversed_new (by decide +kernel),by decide +kernel,by rw[D8];kernel_rfl,u5⟩
def rvO (t:Addr)(i:Int):Obj:={ cls :=.type "reversed",data :=.fields #[.ref t,Gw i] }
def gD (h:Heap)(a t:Addr)(i:Int):Prop:=∃o,h.get? a=some o/\o.cls = .type "reversed" /\ o.data = .fields #[.ref t,Gw i]
section
variable  {prog:Ca}{w:CJ}{A:Dd}{E:BM->BQ->Prop}{s:BQ}
theorem gD.typeIs {a t:Addr}{i:Int}(x:gD s.heap a t i):s.TypeIs (.ref a) "reversed" := let ⟨o,ho,hc,_⟩:=x;⟨o,ho,hc⟩
theorem gD.at {h h':Heap}{a t:Addr}{i:Int}(x:gD h a t i)(e:∀o,h.get? a=some o->h'.get? a=some o):gD h' a t i:=let ⟨o,ho,r⟩:=x;⟨o,e _ ho,r⟩
theorem qe {h h':Heap}{a:Addr}{its:Array BM}(x:IsTup h a its)(e:∀o,h.get? a=some o->h'.get? a=some o):IsTup h' a its:=let ⟨o,ho,r⟩:=x;⟨o,e _ ho,r⟩
theorem u6 (t:Addr)(its:Array BM)(hz:(its.size:Int)<2 ^ 63) :
  Meets (Builtin.«reversed.__new__» ⟨[.type "reversed",.ref t],[]⟩) (λ_ R s=>IsTup s.heap t its/\R (.ok (.ret (.ref s.heap.objs.size))) { s with heap:=s.heap.push (rvO t ((its.size:Int)-1)),toks:=s.toks+1+1 }) :=
 .of_wp λprog w A R s h=>by
  obtain ⟨ht,h⟩:=h
  unfold Builtin.«reversed.__new__»
  refine BJ (D4 (newClass_reversed _) ?_)
  try dsimp only
  refine BJ (D4 (a:=()) (by first | rfl | kernel_rfl) ?_)
  refine BJ (D4 (a:=()) (by first | rfl | kernel_rfl) ?_)
  try dsimp only
  refine BJ (D3 ht.typeIs Aw ?_)
  try dsimp only
  refine BJ ?_
  show Ci _ _ (isInstance (.ref t) (.type "dict") >>= _) _ _ s
  refine BJ (EU (T := "tuple") (b:=false) ht.typeIs wK ?_)
  refine Dv (λhab=>absurd hab (by decide)) (λ_ =>?_)
  refine BJ (D3 ht.typeIs Dg.lookup ?_)
  refine Dv (λ_=>BN ?_) (λhab=>absurd (by decide +kernel) hab)
  refine Dv (λhab=>absurd hab (by decide)) (λ_ =>?_)
  refine BJ (Kv ht hz ?_)
  refine BJ (D4 (a:=some (its.size:Int)) rfl ?_)
  refine BJ ?_
  show Ci _ _ (newObj (.type "reversed") (.fields #[.ref t,Gw ((its.size:Int)-1)])) _ _ _
  exact CO (BN ⟨_,rfl,h⟩)
theorem wL {t:Addr}{its:Array BM}{Q:BM->BQ->Prop}(ht:IsTup s.heap t its)(hz:(its.size:Int)<2 ^ 63)
  (h:Q (.ref s.heap.objs.size) { s with heap:=s.heap.push (rvO t ((its.size:Int)-1)),toks:=s.toks+1+1 }):Ci (Cs prog w) A (call (.type "reversed") [.ref t]) Q E s:=by
 refine J2 called (by decide) (PySem.F.typeCall_reversed_1 _) (PySem.F.newCall_reversed_1 _) (λobj=>FL obj _) PySem.F.entry_reversed_new (u6 t its hz) ⟨ht,?_⟩
 exact ⟨⟨_,BZ _ rfl,rfl⟩,h⟩
theorem next_item {I t:Addr}{i:Nat}{its:Array BM}{x:BM}{Q:Option BM->BQ->Prop}(hit:gD s.heap I t (i:Int))(ht:IsTup s.heap t its)(hx:its[i]? = some x)(hi:(i:Int)<2 ^ 63)
  (hQ:∀h' tk,gD h' I t ((i:Int)-1)->Heap.SameBut I s.heap h'->Q (some x) { s with heap:=h',toks:=tk }):Ci (Cs prog w) A (pyNext (.ref I)) Q E s:=by
 obtain ⟨o,ho,hc,hd⟩:=id hit
 unfold pyNext
 refine BJ (FJ (EG (name:=Str.ofString "__next__") hit.typeIs slot_next (DS slot_next hit.typeIs entry_next ?_ (args_next _))))
 unfold Builtin.«reversed.__next__»
 refine BJ (D4 (a:=(Cd I,[])) rfl ?_)
 try dsimp only
 refine BJ (Fl ho hd (x :=.ref t) rfl ?_)
 refine BJ (Fl ho hd (x:=Gw (i:Int)) rfl ?_)
 show Ci _ _ (if (i:Int)<0 then _ else _) _ _ s
 rw[if_neg (by lia)]
 show Ci _ _ (specialOf (.ref t) "__getitem__" >>= _) _ _ s
 refine BJ (D3 ht.typeIs Dg.lookup ?_)
 refine Dv (λhab=>absurd hab (by decide)) (λ_ =>?_)
 refine BJ (Kx ?_)
 refine BJ (FJ ?_)
 refine PyProof.Rows.getItem_tuple (j:=i) ht (by lia) hi (Ku (by lia) (by have:=(DV.mp hx).1;lia)) hx ?_
 refine BJ (Fl ho hd (x:=Gw (i:Int)) rfl ?_)
 show Ci _ _ (setField (.ref I) 1 (Gw ((i:Int)-1)) >>= λ_=>ret x) _ _ _
 refine BJ (Ja ho hd (by simp) ?_)
 refine BN ⟨x,rfl,BN (hQ _ _ ?_ (Je ..))⟩
 exact ⟨_,CY _ ho (IE (Gr hd _)),(Obj.cls_mapFields ..).trans hc,by rw[Gr hd];simp⟩
theorem next_end {I t:Addr}{Q:Option BM->BQ->Prop}(hh:A.handled=none)(hit:gD s.heap I t (-1))
  (hQ:∀h',Heap.ExtBut I s.heap h'->Q none { s with heap:=h' }):Ci (Cs prog w) A (pyNext (.ref I)) Q E s:=by
 obtain ⟨o,ho,hc,hd⟩:=id hit
 unfold pyNext
 refine BJ (FJ (EG (name:=Str.ofString "__next__") hit.typeIs slot_next (DS slot_next hit.typeIs entry_next ?_ (args_next _))))
 unfold Builtin.«reversed.__next__»
 refine BJ (D4 (a:=(Cd I,[])) rfl ?_)
 try dsimp only
 refine BJ (Fl ho hd (x :=.ref t) rfl ?_)
 refine BJ (Fl ho hd (x:=Gw (-1)) rfl ?_)
 show Ci _ _ (if (-1:Int)<0 then _ else _) _ _ s
 rw[if_pos (by decide)]
 refine BJ (EB ?_)
 refine BJ ?_
 show Ci _ _ (setField (.ref I) 1 (Gw (-1)) >>= λ_=>setField (.ref I) 0 .none) _ _ s
 refine BJ (Ja ho hd (by simp) ?_)
 have h1:=CY (Obj.mapFields λfs=>fs.setIfInBounds 1 (Gw (-1))) ho (IE (Gr hd _))
 refine Ja h1 (Gr hd _) (by simp) ?_
 refine BJ ?_
 show Ci _ _ (newExc (.type "StopIteration") [] >>= _) _ _ _
 refine BJ ?_
 simp only[newExc,newTuple]
 refine BJ (CO ?_ (by size_fits))
 refine BJ (m:=firstArgMember _ _) (D4 (a:=Es) (by first | rfl | (simp only[firstArgMember];rfl)) ?_)
 refine CO ?_ (by size_fits)
 simp only[raiseNew]
 refine BJ (wpAny_handled ?_)
 first | rw[show A.in1.handled=none from hh] | rw[hh]
 refine BJ (BN (wpAny_throw ?_))
 refine BJ (EU (T := "StopIteration") (b:=true) ⟨_,BZ _ rfl,rfl⟩ isSubtype_stop ?_)
 refine BN (hQ _ ?_)
 refine Kg (Kg (λb o hb eo =>?_) _) _
 exact (Cm _ _ (Dq hb)).trans ((Cm _ _ (Dq hb)).trans eo)
theorem tD {I t:Addr}{i:Int}{Q:BM->BQ->Prop}(hit:gD s.heap I t i)(h:Q (.ref I) s):Ci (Cs prog w) A (pyIter (.ref I)) Q E s:=by
 refine JU hit.typeIs mY (DS mY hit.typeIs rM ?_ (u3 _))
 show Ci _ _ (ret (.ref I)) _ _ s
 exact BN ⟨_,rfl, "reversed",_,hit.typeIs,slot_next.lookup,h⟩
theorem mZ:Slot "reversed" "__length_hint__" "reversed.__length_hint__" :=
 .of (owner := "reversed") (n := "__length_hint__") iy (by decide +kernel) (by decide +kernel) (by decide +kernel)
  (by first | exact .inl (by decide +kernel) | exact .inr (by decide +kernel)) sub_self
theorem rN:entryFor table "reversed.__length_hint__" = some Builtin.«reversed.__length_hint__» := Ii (by kernel_rfl)
theorem u7 (a:BM):argsOk "reversed.__length_hint__" ⟨[a],[]⟩:=by
 unfold argsOk;rw[JF (id := "reversed.__length_hint__") (n:=['_', '_', 't', 'n', 'i', 'h', '_', 'h', 't', 'g', 'n', 'e', 'l', '_', '_']) (o:=['d', 'e', 's', 'r', 'e', 'v', 'e', 'r']) (by kernel_rfl) iU];kernel_rfl
theorem u9 {I t:Addr}{its:Array BM}{Q:BM->BQ->Prop}(hit:gD s.heap I t ((its.size:Int)-1))(ht:IsTup s.heap t its)(hz:(its.size:Int)<2 ^ 63)
  (h:∀u tk,Q (.int its.size u) { s with toks:=tk }):Ci (Cs prog w) A (call (.builtin "reversed.__length_hint__") [.ref I]) Q E s:=by
 obtain ⟨o,ho,hc,hd⟩:=id hit
 refine DS mZ hit.typeIs rN ?_ (u7 _)
 unfold Builtin.«reversed.__length_hint__»
 refine BJ (D4 (a:=Cd I) rfl ?_)
 refine BJ (Fl ho hd (x :=.ref t) rfl ?_)
 refine Dv (λhab=>absurd hab (show ¬ (false=true) from B6)) (λ_ =>?_)
 refine BJ (Kv ht hz ?_)
 refine BJ (D4 (a:=some (its.size:Int)) rfl ?_)
 refine BJ (Fl ho hd (x:=Gw ((its.size:Int)-1)) rfl ?_)
 show Ci _ _ (if (its.size:Int)<((its.size:Int)-1)+1 then _ else retInt (((its.size:Int)-1)+1)) _ _ _
 rw[if_neg (by lia),show ((its.size:Int)-1)+1=its.size by lia]
 exact BJ (Kx (BN ⟨_,rfl,h _ _⟩))
theorem yJ {I t:Addr}{its:Array BM}{Q:Bool->BQ->Prop}(hit:gD s.heap I t ((its.size:Int)-1))(ht:IsTup s.heap t its)(hz:its.size<=2 ^ 24)(h:∀b tk,Q b { s with toks:=tk }):Ci (Cs prog w) A (Ds (.ref I)) Q E s:=by
 unfold Ds
 refine BJ (D3 hit.typeIs rH ?_)
 wp_delta
 refine BJ (D3 hit.typeIs iy ?_)
 generalize hid:("reversed.__length_hint__" : String)=id0
 wp_delta
 rw[show splitId id0=some ("reversed", "__length_hint__") from by subst hid;decide +kernel]
 subst hid
 refine BJ (EU (T := "reversed") (b:=true) hit.typeIs sub_self ?_)
 refine Dv (λhab=>absurd hab (by decide)) (λ_ =>?_)
 refine Dv (λhab=>absurd hab (by decide +kernel)) (λ_ =>?_)
 refine BJ (EB ?_)
 refine BJ (D4 (mZ.bind _) ?_)
 refine BJ (FJ (u9 hit ht (by lia) λu tk =>?_))
 show Ci _ A (asInt? (.int (its.size:Int) u) >>= _) Q E _
 have ea:asInt? (DE (its.size:Int) u)=pure (some (its.size:Int)):=rfl
 rw[ea,pure_bind]
 generalize hn:(its.size:Int)=n
 dsimp only
 refine Dv (λhab=>absurd hab ?_) (λ_ =>?_)
 ·unfold Builtin.List.listFitsIndex;simp;lia
 refine Dv (λhab=>absurd hab (by lia)) (λ_ =>?_)
 refine Dv (λhab=>absurd hab ?_) (λ_ =>?_)
 ·rw[L2.jX (by rw[Er];lia)];exact B6
 exact BN (h _ _)
end
theorem walk {prog:Ca}{w:CJ}{A:Dd}(hh:A.handled=none)(I t:Addr)(hne:t≠I)(its:Array BM)(hz:(its.size:Int)<2 ^ 63) :
  Walks prog w A I [I,t] [I] its.size (λi v=>its[its.size-1-i]? = some v) (λi h=>i<=its.size/\gD h I t ((its.size:Int)-1-(i:Int))/\IsTup h t its) where
 sub:=λb hb=>by simp at hb;simp[hb]
 frame:=λ_ _ _ x hk=>⟨x.1,x.2.1.at λo e=>hk I (by simp) o e,qe x.2.2 λo e=>hk t (by simp) o e⟩
 item:=λi s Q E hi x hQ=>by
  have e:(its.size:Int)-1-(i:Int)=((its.size-1-i:Nat):Int):=by omega
  have hit:=x.2.1
  rw[e] at hit
  have hx:its[its.size-1-i]? = some (its[its.size-1-i]'(by omega)):=Cp (by omega)
  refine next_item hit x.2.2 hx (by omega) λh' tk hit' hs' =>?_
  have e2:((its.size-1-i:Nat):Int)-1=(its.size:Int)-1-((i+1:Nat):Int):=by omega
  rw[e2] at hit'
  exact hQ _ h' tk hx ⟨hi,hit',qe x.2.2 λo eo=>(hs'.2 t hne).trans eo⟩ λb o hb eo=>hs'.extBut b o (λh=>hb (by simp[h])) eo
 done:=λs Q E x hQ=>by
  have e:(its.size:Int)-1-(its.size:Int) = -1:=by omega
  have hit:=x.2.1
  rw[e] at hit
  exact next_end hh hit λh' he'=>hQ h' s.toks λb o hb eo=>he' b o (λh=>hb (by simp[h])) eo
 self:=λ_ _ _ _ x hQ=>tD x.2.1 hQ
section
variable  {prog:Ca}{w:CJ}{A:Dd}{E:BM->BQ->Prop}{s:BQ}
theorem va {R:Result->BQ->Prop}{I t:Addr}{items:Array BM}(hh:A.handled=none)(hit:gD s.heap I t ((items.size:Int)-1))(hl:IsTup s.heap t items)(hne:t≠I)(hlen:items.size<=2 ^ 24)
  (S:Addr) (hSI:S≠I) (hSl:S≠t) (res:BM) (c₀:Nat) (hS:s.heap.get? S=some { cls :=.type "list",data :=.seq #[] c₀ })
  (hR:∀h' tk acc' c',(∀b o,b≠S->b≠I->s.heap.get? b=some o->h'.get? b=some o)->h'.get? S=some { cls :=.type "list",dict:=none,data :=.seq acc' c',slots := #[] } →
   ItemsOf (λi v=>items[items.size-1-i]? = some v) acc' items.size->R (.ok (.ret res)) { s with heap:=h',toks:=tk }) :
  Ci (Cs prog w) A.in1 (CA (.ref S) (.ref I) res)
   (λfin s'=>match fin with | .done f=>R (.ok f) s' | .again c'=>c'.quiet=true/\FC (Cs prog w) A c' R s') (λe s'=>R (.error e) s') s:=by
 have hSf:S∉[I,t]:=λhm=>by
  rcases Cg.mp hm with e | hm
  ·exact hSI e
  ·exact hSl (BU.mp hm)
 have W:=(walk (prog:=prog) (w:=w) (A:=A.in1) hh I t hne items (by omega)).toS
 unfold CA
 refine BJ (D7 (T := "reversed") hit.typeIs ?_)
 have h1:DF (.ref S) (.ref I)=false:=by simp[DF,hSI]
 have h2:(DM "reversed" == DM "list")=false:=by decide +kernel
 have h3:(DM "reversed" == DM "tuple")=false:=by decide +kernel
 simp only[h1,h2,h3,HP,Ce,if_false]
 refine BJ (tD hit ?_)
 refine BJ (Dj (yJ hit hl hlen λb tk =>?_))
 refine Dv (λ_ =>?_) (λ_=>BN ⟨Dk Hw _,?_⟩)
 ·refine BJ (EB ?_)
  refine BJ ?_
  show Ci _ A.in1 (updateSeq S (·.push .none) >>= λ_=>updateSeq S (·.pop)) _ _ _
  refine BJ (DD hS rfl ?_)
  have hS₂:=CY (DU (·.push Es)) hS rfl
  refine DD (hz:=by seq_fits) hS₂ rfl ?_
  have hS₃:=CY (DU (·.pop)) hS₂ rfl
  have oth:∀b o,b≠S->s.heap.get? b=some o->((s.heap.update S (DU (·.push Es))).update S (DU (·.pop))).get? b=some o :=
   λb o hb e=>(Cm _ _ (Dq hb)).trans ((Cm _ _ (Dq hb)).trans e)
  refine BN ⟨Dk Hw _,FQ W (by rw[Er];omega) S hSf res items.size 0 _ _ _ rfl (CT _) ⟨CT _,by simpa using hit.at λo e=>oth I o (Dq hSI) e,qe hl λo e=>oth t o (Dq hSl) e⟩ hS₃ (Jg _) λs' acc' c' hm hS' hacc =>?_⟩
  rw[Ju hm]
  refine hR s'.heap s'.toks acc' c' (λb o hb hbI e=>hm.heap b o (λhmem =>?_) (oth b o hb e)) hS' hacc
  rcases Cg.mp hmem with e' | hmem
  ·exact hb e'
  ·exact hbI (BU.mp hmem)
 refine FQ W (by rw[Er];omega) S hSf res items.size 0 _ #[] c₀ rfl (CT _) ⟨CT _,by simpa using hit,hl⟩ hS (Jg _) λs' acc' c' hm hS' hacc =>?_
 rw[Ju hm]
 refine hR s'.heap s'.toks acc' c' (λb o hb hbI e=>hm.heap b o (λhmem =>?_) e) hS' hacc
 rcases Cg.mp hmem with e' | hmem
 ·exact hb e'
 ·exact hbI (BU.mp hmem)
theorem rO {R:List BM->BQ->Prop}{I t:Addr}{items:Array BM}(hh:A.handled=none)(hit:gD s.heap I t ((items.size:Int)-1))(hl:IsTup s.heap t items)(hne:t≠I)(hlen:items.size<=2 ^ 24)
    (h:∀(h1:Heap) (tk:Nat) (vs:List BM),vs=items.toList.reverse->(∀b o,b≠I->s.heap.get? b=some o->h1.get? b=some o)->R vs { s with heap:=h1,toks:=tk }) :
    Ci (Cs prog w) A (collect (.ref I)) R E s:=by
  obtain ⟨oi,hoi,_⟩:=id hit
  obtain ⟨ol,hol,_⟩:=id hl
  unfold collect
  refine BJ (Fp (CQ G5 ?_))
  rw[CD G6 _]
  show Ci _ A.in1 (newList [] >>= λl=>again (.builtin "list.__iadd__" ⟨[l,.ref I],[]⟩)) _ _ s
  refine BJ (CO ?_)
  refine BN ⟨Dk Fj _,CQ HQ ?_⟩
  rw[CD Fj _]
  show Ci _ A.in1 (CA (.ref s.heap.objs.size) (.ref I) (.ref s.heap.objs.size)) _ _ { s with heap:=s.heap.push { cls :=.type "list",data :=.seq ([]:List BM).toArray } }
  have hS0:(s.heap.push { cls :=.type "list",data :=.seq ([]:List BM).toArray }).get? s.heap.objs.size=some { cls :=.type "list",data :=.seq #[] 0 }:=BZ _ rfl
  refine va (A:=A) (R:=λres s'=>match res with
      | .ok (.ret v)=>Ci (Cs prog w) A (match v with | .ref a=>(do match (← load a).data with | .seq xs _=>pure xs.toList | _=>unsupported "internal:collect") | _=>unsupported "internal:collect") R E s'
      | .ok _=>False
      | .error e=>E e s') (s:={ s with heap:=s.heap.push { cls :=.type "list",data :=.seq ([]:List BM).toArray } }) hh (hit.at λo e=>BL _ e) (qe hl λo e=>BL _ e) hne hlen s.heap.objs.size (Dq (Cb (B2 hoi))) (Dq (Cb (B2 hol))) (.ref s.heap.objs.size) 0 hS0 λh' tk acc' c' kk hS' it =>?_
  show Ci _ A (load s.heap.objs.size >>= _) _ _ { s with heap:=h',toks:=tk }
  refine BJ (HJ hS' ?_)
  refine BN (h h' tk acc'.toList ?_ λb o hb e=>kk b o (Cb (B2 e)) hb (BL _ e))
  refine FF λj =>?_
  rw[B3]
  have h1:acc'.size=items.toList.length:=it.1
  by_cases hj:j<items.toList.length
  · obtain ⟨v,hv⟩:∃v,acc'[j]? = some v:=⟨acc'[j]'(by lia),Cp _⟩
    have:=it.2 j v hv
    dsimp only at this
    rw[<- B3] at this
    rw[hv,ID hj, <- this]
    rfl
  · rw[Eh (by lia),Du (by rw[DJ];lia)]
theorem jz (I t:Addr)(items:Array BM)(hne:t≠I)(hn:items.size<=1000) :
  Meets (Builtin.«tuple.__new__» ⟨[.type "tuple",.ref I],[]⟩)
   (λA R s=>A.handled=none/\gD s.heap I t ((items.size:Int)-1)/\IsTup s.heap t items/\∀(h':Heap) (tk:Nat),(∀b o',b≠I->s.heap.get? b=some o'->h'.get? b=some o')->R (.ok (.ret (.ref h'.objs.size))) { s with heap:=h'.push { cls :=.type "tuple",data :=.seq items.toList.reverse.toArray },toks:=tk }) :=
 .of_wp λprog w A R s h=>by
  obtain ⟨hp,g,d,tk,os⟩:=s;obtain ⟨hh,hr,ht,h⟩:=h
  have hsub:=sub_tuple_self
  have hinit:=JV
  have hmh:=madeHere_tuple
  have hT:Shared.TypeIs ⟨hp,g,d,tk,os⟩ (.ref I) "reversed" := gD.typeIs (s:=⟨hp,g,d,tk,os⟩) hr
  wp_walk using D7 hT,rO (by simpa using hh) hr ht hne (by lia)
  rintro h' tk' vs rfl hk
  show Ci _ _ (Builtin.Tuple.tupleExact items.toList.reverse.toArray >>= λv=>ret v) _ _ _
  unfold Builtin.Tuple.tupleExact
  refine BJ (CO ?_ (by show items.toList.reverse.toArray.size<=B4;rw[BX,DJ,BW];exact small hn))
  exact BN ⟨_,rfl,h h' tk' hk⟩
end
end L2.RvT
namespace L2
open PySem PySem.Spec PyProof.Rows
section
variable  {X:Cx}
theorem vb:Dn "tuple" = some (.type "tuple"):=by decide +kernel
def yK (K:BP)(te:TE):TE:=λσ H Q=>te σ H λx H1=>∃l xs,x = .ref l/\SqT K H1 l xs/\xs.length<=1000/\∀p,H1 p=none->Q (.ref p) (upd H1 p (.tup xs.reverse))
theorem vc {e:Expr}{te:TE}{p1 p2 pos1 pos2:Pos}(hh:X.A.handled=none)(hg1:Gl X "tuple")(hm1:X.mg "tuple" = none)(hg2:Gl X "reversed")(hm2:X.mg "reversed" = none)(he:PE X e te)
  (hs1:CN [Expr.Call (.Name "reversed" p2) [e] [] pos2] X.env=(false,eval (.Call (.Name "reversed" p2) [e] [] pos2) X.env) :: CN [] X.env:=by rfl) (hp1:(Fo pos1 (CN [] X.env)).any (·.1)=false:=by rfl)
  (hs2:CN [e] X.env=(false,eval e X.env) :: CN [] X.env:=by rfl) (hp2:(Fo pos2 (CN [] X.env)).any (·.1)=false:=by rfl) :
  PE X (.Call (.Name "tuple" p1) [.Call (.Name "reversed" p2) [e] [] pos2] [] pos1) (yK X.K te):=by
 intro pins s σ H Q I h
 refine DX (dH I hg1 hm1 vb ?_ (by decide) (by decide))
 refine DA ?_ hs1 hp1
 rw[hs1]
 show Ci _ _ (spliced ((false,eval (.Call (.Name "reversed" p2) [e] [] pos2) X.env) :: Fo pos1 (CN [] X.env))) _ _ s
 refine Hm ?_
 refine DX (dH I hg2 hm2 jq ?_ (by decide) (by decide))
 refine DA (thn ((aa he ag hs2) pos2 pins s σ H (λvs H1=>match vs with | [x]=>∃l xs,x = .ref l/\SqT X.K H1 l xs/\xs.length<=1000/\∀p,H1 p=none->Q (.ref p) (upd H1 p (.tup xs.reverse)) | _=>False) I ?_) λus s1 ⟨vs,H1,I1,r1,q1⟩ =>?_) hs2 hp2
 ·exact h
 ·match vs,q1 with
  | [x],q1 =>
  obtain ⟨t,xs,rfl,hx,h1000,q⟩:=q1
  obtain ⟨u,rfl,ru⟩:=vals1 r1
  cases (show u=Cd t from ru)
  obtain ⟨its,r,ht,hz⟩:=I1.tuple hx
  have ll:=r.length
  have lz:its.toArray.size=xs.length:=by rw[BX];exact ll.symm
  refine RvT.wL ht (by rw[lz];omega) ?_
  refine Hy ?_
  obtain ⟨ot,hot,_⟩:=id ht
  refine J2 IU (by decide) (HD _) (HR _) (λobj=>FL obj _) HS
   (RvT.jz s1.heap.objs.size t its.toArray (Cb (B2 hot)) (by rw[lz];exact h1000)) ⟨by simpa using hh,⟨_,BZ _ rfl,rfl,rfl⟩,RvT.qe ht (λo e=>BL _ e),λh' tk k=>⟨⟨_,BZ _ rfl,rfl⟩,?_⟩⟩
  have I2:Inv X pins σ H1 { s1 with heap:=h',toks:=tk }:=I1.kept λb o e=>k b o (Cb (B2 e)) (BL _ e)
  exact ⟨.ref h'.objs.size,_,I2.laid (o :=.tup xs.reverse) (λb ob q=>BL _ q) (BS _) ⟨by rw[DJ];exact small h1000,its.reverse,kJ r,dG.new _ _⟩,rfl,q _ (I2.hok.fresh (BS _))⟩
theorem gw:SlR X (λx lo hi H Q=>∃a xs,x = .ref a/\H a=some (.tup xs)/\∀p2 H2,aD H H2->H2 p2=some (.tup (fE xs lo hi))->Q (.ref p2) H2):=by
 intro pins s σ H x v vl vu lo hi sl Q I rx hs pl pu h
 obtain ⟨a,xs,rfl,ep,key⟩:=h
 refine yA pins s σ H _ v vl vu lo hi sl Q I rx hs pl pu ⟨a,xs,rfl,SqT.of ep,λz=>key a H (aD.refl _) ?_,λ_ p2 hp2=>key p2 _ (af hp2 _) ah⟩
 unfold fE
 rw[z.1,z.2,GH,JW,List.take_length]
 exact ep
theorem qf:OpR X (binaryOp .Add) (λx y H Q=>∃a b xs ys,x = .ref a/\y = .ref b/\H a=some (.tup xs)/\H b=some (.tup ys)/\xs.length+ys.length<=B4/\∀p H',aD H H'->H' p=some (.tup (xs++ys))->Q (.ref p) H'):=by
 intro pins s σ H x y v u Q I rx ry h
 obtain ⟨a,b,xs,ys,rfl,rfl,ha,hb,hz,q⟩:=h
 exact wJ pins s σ H _ _ v u Q I rx ry (tq.one ha hb hz q)
end
end L2
namespace L2.MnT
open PySem PyProof.Rows
section
variable  {prog:Ca}{w:CJ}{A:Dd}{E:BM->BQ->Prop}{I:Addr}{fp wr:List Addr}{n:Nat}{P:Nat->BM->Prop}{St:Nat->Heap->Prop}
def Cmp (prog:Ca)(w:CJ)(A:Dd)(P:Nat->BM->Prop)(St:Nat->Heap->Prop)(bt:Nat->Nat->Bool):Prop :=
 ∀k i j x y (s:BQ) (Q E:BM->BQ->Prop),St k s.heap->P i x->P j y->Q (.bool (bt i j)) s->Ci (Cs prog w) A (richCompare .Lt x y) Q E s
abbrev Bag (S:Addr)(xs:Array BM)(c:Nat)(h:Heap):Prop:=h.get? S=some { cls :=.type "list",dict:=none,data :=.seq xs c,slots := #[] }
abbrev Kept (wr:List Addr)(S:Addr)(h h':Heap):Prop:=∀b o,b∉wr->b≠S->h.get? b=some o->h'.get? b=some o
theorem loop {R:Result->BQ->Prop}(W:Walks prog w A.in1 I fp wr n P St){bt:Nat->Nat->Bool}(C:Cmp prog w A.in1 P St bt){S:Addr}(nS:S∉fp):∀(d j:Nat) (s:BQ) (best:BM) (c:Nat),n=j+1+d->St (j+1) s.heap->P (argBest bt j) best->Bag S #[best,best] c s.heap →
  (∀v h' tk,P (argBest bt (n-1)) v->Kept wr S s.heap h'->R (.ok (.ret v)) { s with heap:=h',toks:=tk })->FC (Cs prog w) A (.builtin "min.loop" ⟨[.ref I,.none,.ref S],[]⟩) R s:=by
 have nw:S∉wr:=λh=>nS (W.sub _ h)
 have nm:(toString "min" ++ toString ".loop" : String) = "min.loop" := by decide
 intro d
 induction d with
 | zero =>
  intro j s best c hn st pb bg hR
  have e:j+1=n:=by lia
  rw[e] at st
  refine CQ Ei ?_
  rw[CD CS _]
  show Ci _ _ (seqItems? (.ref S) >>= _) _ _ s
  refine BJ (EH bg rfl ?_)
  show Ci _ _ (tryCatch (pyNext (.ref I)) _ >>= _) _ _ s
  refine BJ (D9 (W.done s _ _ st λh1 tk kp =>?_))
  show Ci _ _ (updateSeq S (λ_ => #[]) >>= _) _ _ _
  refine BJ ?_
  refine DD (kp S _ nw bg) rfl (BJ (FA (BN (hR best _ tk (by rw[<- e];exact pb) ?_))))
  exact λb o nb ns eb=>(Cm _ _ (Dq ns)).trans (kp b o nb eb)
 | succ d ih =>
  intro j s best c hn st pb bg hR
  refine CQ Ei ?_
  rw[CD CS _]
  show Ci _ _ (seqItems? (.ref S) >>= _) _ _ s
  refine BJ (EH bg rfl ?_)
  show Ci _ _ (tryCatch (pyNext (.ref I)) _ >>= _) _ _ s
  refine BJ (D9 (W.item (j+1) s _ _ (by lia) st λv h1 tk pv st1 kp =>?_))
  have bg1:=kp S _ nw bg
  show Ci _ _ (tryCatch (HY [v,v] (richCompare .Lt v best >>= _)) _ >>= _) _ _ _
  refine BJ (D9 (Dj (BJ (C (j+1+1) (j+1) (argBest bt j) v best _ _ _ st1 pv pb ?_))))
  refine BJ (Dj (DL ?_))
  refine BJ (FA (BN ?_))
  by_cases hb:bt (j+1) (argBest bt j)=true
  ·have ea:argBest bt (j+1)=j+1:=by simp only[argBest,hb,if_true]
   rw[hb]
   simp only[if_true]
   refine BJ ?_
   refine DD bg1 rfl (BJ (FA ?_))
   rw[nm]
   refine BN ⟨Dk CS _,ih (j+1) _ v _ (by lia) (W.frame _ _ _ st1 λb fb o eb =>?_) (by rw[ea];exact pv) (CY _ bg1 rfl) λv2 h2 tk2 p2 k2=>hR v2 h2 tk2 p2 λb o nb ns eb=>k2 b o nb ns ?_⟩
   ·exact (Cm _ _ (λz:S=b=>nS (z ▸ fb))).trans eb
   ·exact (Cm _ _ (Dq ns)).trans (kp b o nb eb)
  ·have ea:argBest bt (j+1)=argBest bt j:=by simp only[argBest,hb];rfl
   rw[E4.mpr hb]
   simp only[Ce,if_false]
   refine BJ (FA ?_)
   rw[nm]
   exact BN ⟨Dk CS _,ih (j+1) _ best c (by lia) st1 (by rw[ea];exact pb) bg1 λv2 h2 tk2 p2 k2=>hR v2 h2 tk2 p2 λb o nb ns eb=>k2 b o nb ns (kp b o nb eb)⟩
theorem first {R:Result->BQ->Prop}(W:Walks prog w A.in1 I fp wr n P St){bt:Nat->Nat->Bool}(C:Cmp prog w A.in1 P St bt){S:Addr}(nS:S∉fp)(hn:0<n){s:BQ}{c:Nat}(st:St 0 s.heap)(bg:Bag S #[] c s.heap)
  (hR:∀v h' tk,P (argBest bt (n-1)) v->Kept wr S s.heap h'->R (.ok (.ret v)) { s with heap:=h',toks:=tk }):FC (Cs prog w) A (.builtin "min.loop" ⟨[.ref I,.none,.ref S],[]⟩) R s:=by
 have nw:S∉wr:=λh=>nS (W.sub _ h)
 have nm:(toString "min" ++ toString ".loop" : String) = "min.loop" := by decide
 refine CQ Ei ?_
 rw[CD CS _]
 show Ci _ _ (seqItems? (.ref S) >>= _) _ _ s
 refine BJ (EH bg rfl ?_)
 show Ci _ _ (tryCatch (pyNext (.ref I)) _ >>= _) _ _ s
 refine BJ (D9 (W.item 0 s _ _ hn st λv h1 tk pv st1 kp =>?_))
 have bg1:=kp S _ nw bg
 show Ci _ _ (updateSeq S (λ_ => #[v,v]) >>= _) _ _ _
 refine BJ ?_
 refine DD bg1 rfl ?_
 rw[nm]
 refine BN ⟨Dk CS _,loop W C nS (n-1) 0 _ v _ (by lia) (W.frame _ _ _ st1 λb fb o eb =>?_) pv (CY _ bg1 rfl) λv2 h2 tk2 p2 k2=>hR v2 h2 tk2 p2 λb o nb ns eb=>k2 b o nb ns ?_⟩
 ·exact (Cm _ _ (λz:S=b=>nS (z ▸ fb))).trans eb
 ·exact (Cm _ _ (Dq ns)).trans (kp b o nb eb)
def Goes (prog:Ca)(w:CJ)(A:Dd)(Q:BM->BQ->Prop)(it:BM)(s:BQ):Prop:=∃I fp wr n P St bt,it = .ref I/\Walks prog w A.in1 I fp wr n P St/\St 0 s.heap/\(∀b∈fp,b<s.heap.objs.size)/\0<n/\Cmp prog w A.in1 P St bt ∧
 ∀v h' tk,P (argBest bt (n-1)) v->(∀b o,b∉wr->s.heap.get? b=some o->h'.get? b=some o)->Q v { s with heap:=h',toks:=tk }
theorem Br {s:BQ}{x:BM}{Q:BM->BQ->Prop}(h:Ci (Cs prog w) A.in1 (pyIter x) (Goes prog w A Q) E s):Ci (Cs prog w) A (call (.builtin "min") [x]) Q E s:=by
 have nm:(toString "min" ++ toString ".loop" : String) = "min.loop" := by decide
 refine JG Ib HE HF (PySem.F.args_min1 _) ?_
 show Ci _ _ (Builtin.Builtins.bindParams "min" ["key", "default"] 0 ⟨[],[]⟩ >>= _) _ _ s
 refine BJ (D4 (a:=[none,none]) rfl ?_)
 refine BJ (BN ?_)
 refine BJ (DT h (λit s2 g =>?_) λ_ _ e=>e)
 obtain ⟨I,fp,wr,n,P,St,bt,rfl,W,st,hf,hn,C,hq⟩:=g
 refine BJ (CO ?_)
 rw[nm]
 refine BN ⟨Dk CS _,first W C (S:=s2.heap.objs.size) (λhm=>C0 _ (hf _ hm)) hn (W.frame _ _ _ st λb _ o e=>BL _ e) (BZ _ rfl) λv h' tk pv kp =>?_⟩
 exact hq v h' tk pv λb o nb e=>kp b o nb (Cb (B2 e)) (BL _ e)
theorem call2 {s:BQ}{a b:BM}{Q:BM->BQ->Prop}(h:Ci (Cs prog w) A.in1 (pyIter (.ref s.heap.objs.size)) (Goes prog w A Q) E { s with heap:=s.heap.push { cls :=.type "tuple",data :=.seq #[a,b] } }):Ci (Cs prog w) A (call (.builtin "min") [a,b]) Q E s:=by
 have nm:(toString "min" ++ toString ".loop" : String) = "min.loop" := by decide
 refine JG Ib HE HF (PySem.F.args_min2 _ _) ?_
 show Ci _ _ (Builtin.Builtins.bindParams "min" ["key", "default"] 0 ⟨[],[]⟩ >>= _) _ _ s
 refine BJ (D4 (a:=[none,none]) rfl ?_)
 show Ci _ _ (newTuple [a,b] >>= _) _ _ s
 refine BJ (CO ?_)
 refine BJ (DT h (λit s2 g =>?_) λ_ _ e=>e)
 obtain ⟨I,fp,wr,n,P,St,bt,rfl,W,st,hf,hn,C,hq⟩:=g
 refine BJ (CO ?_)
 rw[nm]
 refine BN ⟨Dk CS _,first W C (S:=s2.heap.objs.size) (λhm=>C0 _ (hf _ hm)) hn (W.frame _ _ _ st λb _ o e=>BL _ e) (BZ _ rfl) λv h' tk pv kp =>?_⟩
 exact hq v h' tk pv λb o nb e=>kp b o nb (Cb (B2 e)) (BL _ e)
def TI (h:Heap)(t:Addr×List Int):Prop:=∃its:Array BM,IsTup h t.1 its/\Ez its.toList t.2
theorem TI.at {h h':Heap}{t:Addr×List Int}(x:TI h t)(e:∀o,h.get? t.1=some o->h'.get? t.1=some o):TI h' t:=let ⟨its,⟨o,ho,r⟩,y⟩:=x;⟨its,⟨o,e o ho,r⟩,y⟩
theorem more (W:Walks prog w A I fp wr n P St)(ts:List (Addr×List Int))(nw:∀t∈ts,t.1∉wr):Walks prog w A I (fp++ts.map (·.1)) wr n P (λi h=>St i h/\∀t∈ts,TI h t) where
 sub:=λb hb=>B0.mpr (.inl (W.sub b hb))
 frame:=λi h h' x hk=>⟨W.frame i h h' x.1 λb hb o e=>hk b (B0.mpr (.inl hb)) o e,λt ht=>(x.2 t ht).at (hk t.1 (B0.mpr (.inr (Dw (f:=(·.1)) ht))))⟩
 item:=λi s Q E hi x hQ=>W.item i s Q E hi x.1 λv h' tk pv st' kp=>hQ v h' tk pv ⟨st',λt ht=>(x.2 t ht).at λo=>kp t.1 o (nw t ht)⟩ kp
 done:=λs Q E x hQ=>W.done s Q E x.1 hQ
 self:=λi s Q E x hQ=>W.self i s Q E x.1 hQ
theorem cmp (ts:List (Addr×List Int))(hu:A.units<cLine)(hP:∀i v,P i v->∃t,ts[i]? = some t/\v = .ref t.1):Cmp prog w A P (λi h=>St i h/\∀t∈ts,TI h t) (λi j=>HT.lexLt (ts.getD i (0,[])).2 (ts.getD j (0,[])).2):=by
 intro k i j x y s Q E st hx hy h
 obtain ⟨t,et,rfl⟩:=hP i x hx
 obtain ⟨u,eu,rfl⟩:=hP j y hy
 obtain ⟨i1,p1,a1⟩:=st.2 t (BV et)
 obtain ⟨i2,p2,a2⟩:=st.2 u (BV eu)
 dsimp only at h
 rw[B8,B8,et,eu] at h
 exact HT.qU p1 p2 a1 a2 hu h
theorem best (g:Nat->List Int):∀k,(argBest (λi j=>HT.lexLt (g i) (g j)) k<=k)/\∀j,j<=k->HT.lexLt (g j) (g (argBest (λi j=>HT.lexLt (g i) (g j)) k))=false
 | 0=>⟨BS _,λj hj=>by rw[Kp.mp hj];exact Srt.lex_irrefl _⟩
 | k+1=>by
  obtain ⟨l,ih⟩:=best g k
  by_cases hb:HT.lexLt (g (k+1)) (g (argBest (λi j=>HT.lexLt (g i) (g j)) k))=true
  ·have ea:argBest (λi j=>HT.lexLt (g i) (g j)) (k+1)=k+1:=by simp only[argBest,hb,if_true]
   rw[ea]
   refine ⟨BS _,λj hj =>?_⟩
   by_cases e:j=k+1
   ·rw[e];exact Srt.lex_irrefl _
   ·refine E4.mpr λz =>?_
    have:=ih j (by lia)
    rw[Srt.lex_trans _ _ _ z hb] at this
    cases this
  ·have ea:argBest (λi j=>HT.lexLt (g i) (g j)) (k+1)=argBest (λi j=>HT.lexLt (g i) (g j)) k:=by simp only[argBest,hb];rfl
   rw[ea]
   refine ⟨by lia,λj hj =>?_⟩
   by_cases e:j=k+1
   ·rw[e];exact E4.mpr hb
   ·exact ih j (by lia)
end
end L2.MnT
namespace L2
open PySem PySem.Spec PyProof.Rows
section
variable  {X:Cx}
theorem rP (hc:X.calm=true)(hu:X.A.units+8<cLine):bC X (.builtin "min") (λxs H Q=>∃(p:Addr) (ts:List (Addr×List Int)),xs=[.ref p]/\SqL X.K H p (ts.map λt =>.ref t.1)/\(∀t∈ts,SqT X.K H t.1 (t.2.map V.int))/\ts≠[]/\∀t∈ts,(∀u∈ts,HT.lexLt u.2 t.2=false)->Q (.ref t.1) H):=by
 intro pins s σ H xs us Q I r h
 obtain ⟨p,ts,rfl,hS,hT,hne,q⟩:=h
 obtain ⟨u,rfl,ru⟩:=vals1 r
 cases (show u=Cd p from ru)
 obtain ⟨its,r1,p1,_⟩:=I.list hS
 have hl:s.heap.IsList p its.toArray:=p1.isList
 have ll:=r1.length
 rw[BK] at ll
 have hp:0<ts.length:=Eo.mpr hne
 have TIs:∀t∈ts,MnT.TI s.heap t:=λt ht=>by
  obtain ⟨i2,r2,p2,_⟩:=I.tuple (hT t ht)
  exact ⟨_,p2,intsAre_of r2⟩
 have hlt:∀t∈ts,t.1<s.heap.objs.size:=λt ht=>by
  obtain ⟨_,⟨o,ho,_⟩,_⟩:=TIs t ht
  exact B2 ho
 have hpl:p<s.heap.objs.size:=by obtain ⟨_,e,_⟩:=hl;exact B2 e
 have at_:∀(i:Nat) (v:BM),its.toArray[i]? = some v->∃t:Addr×List Int,ts[i]? = some t/\v=Cd t.1:=λi v hv=>by
  rw[Dm] at hv
  have hi:i<ts.length:=by rw[ll];exact (B1.mp hv).1
  have e1:(ts.map λt=>V.ref t.1)[i]? = some (.ref ts[i].1):=by rw[B7,BO hi];rfl
  obtain ⟨w',ew,rw'⟩:=r1.get e1
  rw[ew] at hv
  exact ⟨ts[i],BO hi,(Cw hv).symm.trans rw'⟩
 refine MnT.Br (E8 hl ?_)
 refine ⟨s.heap.objs.size,_,_,its.toArray.size,_,_,_,rfl,MnT.more (JK (A:=X.A.in1) (I.ok.hd hc) s.heap.objs.size p (Cb hpl) its.toArray) ts (λt ht hm =>?_),⟨⟨⟨_,BZ _ rfl,rfl,rfl⟩,hl.push _⟩,λt ht=>(TIs t ht).at λo e=>BL _ e⟩,λb hb =>?_,by rw[BX];lia,MnT.cmp ts ?_ at_,λv h' tk pv kp =>?_⟩
 ·have:=hlt t ht
  rw[BU.mp hm] at this
  exact C0 _ this
 ·show b<(s.heap.push _).objs.size
  rw[DR]
  rcases B0.mp hb with hb | hb
  ·rcases Cg.mp hb with rfl | hb
   ·exact Dz _
   ·rw[BU.mp hb];exact C8 hpl
  ·obtain ⟨t,ht,rfl⟩:=Cv.mp hb
   exact C8 (hlt t ht)
 ·show X.A.units+_<cLine
  lia
 ·obtain ⟨t,et,rfl⟩:=at_ _ v pv
  obtain ⟨b1,b2⟩:=MnT.best (λi=>(ts.getD i (0,[])).2) (its.toArray.size-1)
  have kept:∀b o,s.heap.get? b=some o->h'.get? b=some o:=λb o e=>kp b o (λhm=>by
   have:=B2 e
   rw[BU.mp hm] at this
   exact C0 _ this) (BL _ e)
  refine ⟨.ref t.1,H,I.kept kept,rfl,q t (BV et) λu hu' =>?_⟩
  obtain ⟨j,hj,eu⟩:=Fh hu'
  have:=b2 j (by rw[BX];lia)
  rw[B8,B8,et,BO hj,eu] at this
  exact this
theorem rQ (hc:X.calm=true)(hu:X.A.units+8<cLine):bC X (.builtin "min") (λxs H Q=>∃(a b:Addr) (ns ms:List Int),xs=[.ref a,.ref b]/\SqT X.K H a (ns.map V.int)/\SqT X.K H b (ms.map V.int)/\(HT.lexLt ms ns=true->Q (.ref b) H)/\(HT.lexLt ms ns=false->Q (.ref a) H)):=by
 intro pins s σ H xs us Q I r h
 obtain ⟨a,b,ns,ms,rfl,ha,hb,q1,q2⟩:=h
 obtain ⟨u,v,rfl,ru,rv⟩:=vals2 r
 cases (show u=Cd a from ru)
 cases (show v=Cd b from rv)
 have TIs:∀t∈[(a,ns),(b,ms)],MnT.TI s.heap t:=λt ht=>by
  rcases Cg.mp ht with rfl | ht
  ·obtain ⟨i2,r2,p2,_⟩:=I.tuple ha
   exact ⟨_,p2,intsAre_of r2⟩
  ·rw[BU.mp ht]
   obtain ⟨i2,r2,p2,_⟩:=I.tuple hb
   exact ⟨_,p2,intsAre_of r2⟩
 have hlt:∀t∈[(a,ns),(b,ms)],t.1<s.heap.objs.size:=λt ht=>by
  obtain ⟨_,⟨o,ho,_⟩,_⟩:=TIs t ht
  exact B2 ho
 have hT:(s.heap.push { cls :=.type "tuple",data :=.seq #[.ref a,.ref b] }).IsTuple s.heap.objs.size #[.ref a,.ref b]:=⟨_,BZ _ rfl,rfl,0,rfl⟩
 have hz:(s.heap.push { cls :=.type "tuple",data :=.seq #[.ref a,.ref b] }).objs.size=s.heap.objs.size+1:=DR ..
 have at_:∀(i:Nat) (v:BM),(#[.ref a,.ref b]:Array BM)[i]? = some v->∃t:Addr×List Int,[(a,ns),(b,ms)][i]? = some t/\v=Cd t.1:=λi v hv=>by
  match i,hv with
  | 0,hv=>exact ⟨_,rfl,(Cw hv).symm⟩
  | 1,hv=>exact ⟨_,rfl,(Cw hv).symm⟩
  | i+2,hv=>simp at hv
 refine MnT.call2 (EW hT ?_)
 refine ⟨_,_,_,_,_,_,_,rfl,MnT.more (HN (A:=X.A.in1) (I.ok.hd hc) _ s.heap.objs.size (by rw[hz];exact Cb (Dz _)) #[.ref a,.ref b]) [(a,ns),(b,ms)] (λt ht hm =>?_),⟨⟨⟨_,BZ _ rfl,rfl,rfl⟩,hT.push _⟩,λt ht=>(TIs t ht).at λo e=>BL _ (BL _ e)⟩,λc hc' =>?_,Nat.zero_lt_two,MnT.cmp [(a,ns),(b,ms)] ?_ at_,λv h' tk pv kp =>?_⟩
 ·have:=hlt t ht
  rw[BU.mp hm,hz] at this
  exact C0 _ (En this)
 ·show c<((s.heap.push _).push _).objs.size
  rw[DR,hz]
  rcases B0.mp hc' with hc' | hc'
  ·rcases Cg.mp hc' with rfl | hc'
   ·rw[hz];exact Dz _
   ·rw[BU.mp hc'];exact C8 (Dz _)
  ·obtain ⟨t,ht,rfl⟩:=Cv.mp hc'
   exact C8 (C8 (hlt t ht))
 ·show X.A.units+_<cLine
  lia
 ·have kept:∀b o,s.heap.get? b=some o->h'.get? b=some o:=λb o e=>kp b o (λhm=>by
   have:=B2 e
   rw[BU.mp hm,hz] at this
   exact C0 _ (En this)) (BL _ (BL _ e))
  by_cases z:HT.lexLt ms ns=true
  ·have e:argBest (λi j=>HT.lexLt ([(a,ns),(b,ms)].getD i (0,[])).2 ([(a,ns),(b,ms)].getD j (0,[])).2) 1=1:=by
    show (if HT.lexLt ms ns=true then 1 else 0)=1
    rw[if_pos z]
   rw[show (#[Cd a,Cd b]:Array BM).size-1=1 from rfl,e] at pv
   have pv:=(Cw pv).symm
   exact ⟨.ref b,H,I.kept kept,pv,q1 z⟩
  ·have e:argBest (λi j=>HT.lexLt ([(a,ns),(b,ms)].getD i (0,[])).2 ([(a,ns),(b,ms)].getD j (0,[])).2) 1=0:=by
    show (if HT.lexLt ms ns=true then 1 else 0)=0
    rw[if_neg z]
   rw[show (#[Cd a,Cd b]:Array BM).size-1=1 from rfl,e] at pv
   have pv:=(Cw pv).symm
   exact ⟨.ref a,H,I.kept kept,pv,q2 (E4.mpr z)⟩
end
open PySem PySem.Spec PyProof.Rows
section
variable  {X:Cx}
theorem rT (hc:X.calm=true):bC X (.builtin "min") (λxs H Q=>∃(a:Addr) (ns:List Int),xs=[.ref a]/\SqT X.K H a (ns.map V.int)/\ns≠[]/\∀M:Int,M∈ns->(∀b∈ns,M<=b)->Q (.int M) H):=by
 intro pins s σ H xs us Q I r h
 obtain ⟨a,ns,rfl,hS,hne,q⟩:=h
 obtain ⟨u,rfl,ru⟩:=vals1 r
 cases (show u=Cd a from ru)
 obtain ⟨its,r1,p1,_⟩:=I.tuple hS
 obtain ⟨ps,e2,e3⟩:=jl (intsAre_of r1)
 have ei:its.toArray=ER ps.toArray:=by rw[e2];simp[ER]
 have hT:s.heap.IsTuple a (ER ps.toArray):=by
  obtain ⟨o,ho,hc',n,hd⟩:=p1
  exact ⟨o,ho,hc',n,by rw[<- ei];exact hd⟩
 have hz:ps.toArray.size=ns.length:=by rw[BX, <- e3,BK]
 have hp:0<ns.length:=Eo.mpr hne
 have ht:ps.toArray.toList.map (·.1)=ns:=e3
 have hal:a<s.heap.objs.size:=by obtain ⟨o,ho,_⟩:=p1;exact B2 ho
 refine call_min_walk (EW hT ?_)
 refine ⟨_,[_,a],[_],_,_,_,_,rfl,HN (A:=X.A.in1) (I.ok.hd hc) _ a (Cb hal) (ER ps.toArray),⟨⟨_,BZ _ rfl,rfl,rfl⟩,hT.push _⟩,λc hc' =>?_,by simp only[ER,C9];lia,KR (numAt ps.toArray) (λ_ _=>Jk),λv h' tk hv hk =>?_⟩
 ·show c<(s.heap.push _).objs.size
  rw[DR]
  rcases Cg.mp hc' with rfl | hc'
  ·exact Dz _
  ·rw[BU.mp hc'];exact C8 hal
 ·have k:∀b o,s.heap.get? b=some o->h'.get? b=some o:=λb o e=>hk b o (λhm=>by
   have:=B2 e
   rw[BU.mp hm] at this
   exact C0 _ this) (BL _ e)
  have hsz:(ER ps.toArray).size=ns.length:=by simp only[ER,C9];exact hz
  rw[hsz] at hv
  obtain ⟨t,rfl⟩:=Jk hv
  obtain ⟨h1,h2⟩:=argBest_lt (numAt ps.toArray) (ns.length-1)
  refine ⟨.int _,H,I.kept k,⟨_,rfl⟩,q _ ?_ λb hb =>?_⟩
  ·rw[KS,ht];exact Au (by lia)
  ·obtain ⟨j,hj,rfl⟩:=Av hb
   have:=h2 j (by lia)
   rw[KS,KS,ht] at this
   rw[KS,ht]
   exact this
end
open PySem PySem.Spec PyProof.Rows SeqAt
theorem lS (l:Addr)(items:Array BM)(n:Nat)(dd:Option Addr)(sl:Array (Option BM))(x:BM)(e:BM->Bool)(j:Nat)(hj:j<items.size)(hit:e items[j]=true)(hno:∀m (hm:m<items.size),m<j->e items[m]=false) :
  Meets (Builtin.«tuple.index» ⟨[.ref l,x],[]⟩)
   (λA R s=>s.heap.get? l=some { cls :=.type "tuple",dict:=dd,data :=.seq items n,slots:=sl }/\(∀y,y∈items->EqAt A.in1 s y x (e y))/\R (.ok (.ret (.int j s.toks))) { s with toks:=s.toks+1 }) :=
 .of_wp λprog w A R s h=>by
  obtain ⟨hl,he,h⟩:=h
  unfold Builtin.«tuple.index»
  refine BJ (D4 (a:=(Cd l,[x])) rfl ?_)
  refine BJ (PyProof.Rows.tupleItemsOf_ (⟨_,hl,rfl,_,rfl⟩:IsTup s.heap l items) ?_)
  dsimp only
  refine BJ (BN (BJ (BN ?_)))
  rw[Iw,IP]
  refine BJ (FY _ (λrest b s'=>s'=s/\b=(none,())/\∃i,rest=List.range' i (items.size-i)/\i<=j) _ ?_ ?_ _ _ ⟨rfl,rfl,0,?_,CT _⟩)
  ·rintro k rest b s' ⟨rfl,rfl,i,er,hi⟩
   rw[show items.size-i=(items.size-(i+1))+1 by lia,Ia] at er
   injection er with e1 e2
   subst e1
   have hk:k<items.size:=by lia
   rw[Cp hk]
   refine BJ (he _ (JN hk) prog w _ _ ?_)
   by_cases z:k=j
   ·subst z
    rw[hit]
    refine BJ (BJ (Kx (BN (BN ?_))))
    exact BN ⟨_,rfl,h⟩
   ·rw[hno k hk (by lia)]
    exact BN ⟨rfl,rfl,k+1,e2,by lia⟩
  ·rintro b s' ⟨rfl,rfl,i,er,hi⟩
   rw[show items.size-i=(items.size-(i+1))+1 by lia,Ia] at er
   cases er
  ·simp[Std.Legacy.Range.size]
section
variable  {X:Cx}
theorem vd:MtR X "tuple.index" (λx vs H Q=>∃(p:Addr) (ns:List Int) (k:Int),x = .ref p/\vs=[.int k]/\H p=some (.tup (ns.map V.int))/\k∈ns/\Q (.int (ns.idxOf k:Nat)) H):=by
 intro pins s σ H x vs v us Q I rx rv h
 obtain ⟨p,ns,k,rfl,rfl,hp,hk,q⟩:=h
 cases rx
 obtain ⟨u,rfl,⟨t,rfl⟩⟩:=vals1 rv
 obtain ⟨z,its,r,ob,e1,⟨c1,d1⟩,n,s1⟩:=(show bB X.prog X.w H s.heap p (.tup _) from I.hok p _ hp)
 have hi:Ez its ns:=intsAre_of r
 have hlen:=hi.length
 have hj:ns.idxOf k<ns.length:=Ga.mpr hk
 obtain ⟨cls,dd,data,sl⟩:=ob
 simp only at c1 s1
 subst c1 s1
 refine GG HG ⟨_,e1,rfl⟩ PySem.F.entry_tuple_index (PySem.F.args_tuple_index_2 _ _) (lS p its.toArray n dd sl (.int k t) (isInt k) (ns.idxOf k) (by simpa [hlen] using hj) ?_ ?_) ⟨e1,λy hy=>uU hi y hy,⟨.int _,H,I.tok _,⟨_,rfl⟩,q⟩⟩
 ·show isInt k its[ns.idxOf k]=true
  rw[isInt_at k hi _ (by omega) hj];simpa using Jv hj
 ·intro j hjs hlt
  show isInt k its[j]=false
  rw[isInt_at k hi j (by simpa using hjs) (by omega)]
  simpa using wI (by omega) hlt
end
end L2
namespace L2.MnT
open PySem PyProof.Rows
section
variable  {prog:Ca}{w:CJ}{A:Dd}{E:BM->BQ->Prop}{I:Addr}{fp wr:List Addr}{n:Nat}{P:Nat->BM->Prop}{St:Nat->Heap->Prop}
abbrev eG (ts:List (Addr×List Int)):Nat->Nat->Bool:=λi j=>decide ((ts.getD i (0,[])).2.length<(ts.getD j (0,[])).2.length)
theorem wM {s:BQ}{t:Addr×List Int}{Q:BM->BQ->Prop}(x:TI s.heap t)(hz:t.2.length<2 ^ 63)(h:∀u tk,Q (.int t.2.length u) { s with toks:=tk }):Ci (Cs prog w) A (call (.builtin "len") [.ref t.1]) Q E s:=by
 obtain ⟨its,ht,hi⟩:=x
 have e:its.size=t.2.length:=by rw[<- hi.length,BW]
 refine Kv ht (by rw[e];lia) ?_
 rw[e]
 exact h _ _
theorem Bs {R:Result->BQ->Prop}{ts:List (Addr×List Int)}{kw:List (Str×BM)}(W:Walks prog w A.in1 I fp wr n P St)(hI:∀k h,St k h->∀t∈ts,TI h t)(hP:∀i v,P i v->∃t,ts[i]? = some t/\v = .ref t.1)(hz:∀t∈ts,t.2.length<2 ^ 63){S:Addr}(nS:S∉fp):∀(d j:Nat) (s:BQ) (t:Addr×List Int) (tk c:Nat),n=j+1+d->St (j+1) s.heap->ts[argBest (eG ts) j]? = some t->Bag S #[.ref t.1,.int t.2.length tk] c s.heap →
  (∀t h' tk,ts[argBest (eG ts) (n-1)]? = some t->Kept wr S s.heap h'->R (.ok (.ret (.ref t.1))) { s with heap:=h',toks:=tk })->FC (Cs prog w) A (.builtin "min.loop" ⟨[.ref I,.builtin "len",.ref S],kw⟩) R s:=by
 have nw:S∉wr:=λh=>nS (W.sub _ h)
 have nm:(toString "min" ++ toString ".loop" : String) = "min.loop" := by decide
 intro d
 induction d with
 | zero =>
  intro j s t tk c hn st et bg hR
  have e:j+1=n:=by lia
  rw[e] at st
  refine CQ Ei ?_
  rw[CD CS _]
  show Ci _ _ (seqItems? (.ref S) >>= _) _ _ s
  refine BJ (EH bg rfl ?_)
  show Ci _ _ (tryCatch (pyNext (.ref I)) _ >>= _) _ _ s
  refine BJ (D9 (W.done s _ _ st λh1 tk kp =>?_))
  show Ci _ _ (updateSeq S (λ_ => #[]) >>= _) _ _ _
  refine BJ ?_
  refine DD (kp S _ nw bg) rfl (BJ (FA (BN (hR t _ tk (by rw[<- e];exact et) ?_))))
  exact λb o nb ns eb=>(Cm _ _ (Dq ns)).trans (kp b o nb eb)
 | succ d ih =>
  intro j s t tk c hn st et bg hR
  refine CQ Ei ?_
  rw[CD CS _]
  show Ci _ _ (seqItems? (.ref S) >>= _) _ _ s
  refine BJ (EH bg rfl ?_)
  show Ci _ _ (tryCatch (pyNext (.ref I)) _ >>= _) _ _ s
  refine BJ (D9 (W.item (j+1) s _ _ (by lia) st λv h1 tk1 pv st1 kp =>?_))
  obtain ⟨u,eu,rfl⟩:=hP _ _ pv
  have bg1:=kp S _ nw bg
  show Ci _ _ (tryCatch (HY [Cd u.1] (call (.builtin "len") [.ref u.1])) _ >>= _) _ _ _
  refine BJ (D9 (Dj (wM (hI _ _ st1 u (BV eu)) (hz u (BV eu)) λtu tk2 =>?_)))
  show Ci _ _ (tryCatch (HY [Cd u.1,.int u.2.length tu] (richCompare .Lt (.int u.2.length tu) (.int t.2.length tk) >>= _)) _ >>= _) _ _ _
  refine BJ (D9 (Dj (BJ (richCompare_gives (op :=.Lt) (IS _ _ tu) (IS _ _ tk) PySem.F.slot_int_lt PySem.F.entry_int_lt (PySem.F.args_int_lt_2 _ _) (gives_int_lt _ _ tu tk) (λx=>nomatch x) ?_))))
  refine BJ (Dj (DL ?_))
  refine BJ (FA (BN ?_))
  have eb':eG ts (j+1) (argBest (eG ts) j)=decide (u.2.length<t.2.length):=by
   show decide _=_
   rw[B8,B8,eu,et];rfl
  by_cases hb:u.2.length<t.2.length
  ·have ea:argBest (eG ts) (j+1)=j+1:=by
    show (if eG ts (j+1) (argBest (eG ts) j)=true then _ else _)=_
    rw[eb',if_pos (decide_eq_true hb)]
   rw[show decide ((u.2.length:Int)<(t.2.length:Int))=true from decide_eq_true (by lia)]
   simp only[if_true]
   refine BJ ?_
   refine DD bg1 rfl (BJ (FA ?_))
   rw[nm]
   refine BN ⟨Dk CS _,ih (j+1) _ u tu _ (by lia) (W.frame _ _ _ st1 λb fb o eb =>?_) (by rw[ea];exact eu) (CY _ bg1 rfl) λv2 h2 tk2 p2 k2=>hR v2 h2 tk2 p2 λb o nb ns eb=>k2 b o nb ns ?_⟩
   ·exact (Cm _ _ (λz:S=b=>nS (z ▸ fb))).trans eb
   ·exact (Cm _ _ (Dq ns)).trans (kp b o nb eb)
  ·have ea:argBest (eG ts) (j+1)=argBest (eG ts) j:=by
    show (if eG ts (j+1) (argBest (eG ts) j)=true then _ else _)=_
    rw[eb',if_neg (by simpa using hb)]
   rw[show decide ((u.2.length:Int)<(t.2.length:Int))=false from decide_eq_false (by lia)]
   simp only[Ce,if_false]
   refine BJ (FA ?_)
   rw[nm]
   exact BN ⟨Dk CS _,ih (j+1) _ t tk c (by lia) st1 (by rw[ea];exact et) bg1 λv2 h2 tk2 p2 k2=>hR v2 h2 tk2 p2 λb o nb ns eb=>k2 b o nb ns (kp b o nb eb)⟩
theorem Ax {R:Result->BQ->Prop}{ts:List (Addr×List Int)}{kn:Str}{d:BM}(W:Walks prog w A.in1 I fp wr n P St)(hI:∀k h,St k h->∀t∈ts,TI h t)(hP:∀i v,P i v->∃t,ts[i]? = some t/\v = .ref t.1)(hz:∀t∈ts,t.2.length<2 ^ 63){S:Addr}(nS:S∉fp){s:BQ}{c:Nat}(st:St 0 s.heap)(bg:Bag S #[] c s.heap)
  (hR:∀v h' tk,((0<n/\∃t,ts[argBest (eG ts) (n-1)]? = some t/\v = .ref t.1)\/(n=0/\v=d))->Kept wr S s.heap h'->R (.ok (.ret v)) { s with heap:=h',toks:=tk }):FC (Cs prog w) A (.builtin "min.loop" ⟨[.ref I,.builtin "len",.ref S],[(kn,d)]⟩) R s:=by
 have nw:S∉wr:=λh=>nS (W.sub _ h)
 have nm:(toString "min" ++ toString ".loop" : String) = "min.loop" := by decide
 refine CQ Ei ?_
 rw[CD CS _]
 show Ci _ _ (seqItems? (.ref S) >>= _) _ _ s
 refine BJ (EH bg rfl ?_)
 show Ci _ _ (tryCatch (pyNext (.ref I)) _ >>= _) _ _ s
 by_cases hn:n=0
 ·subst hn
  refine BJ (D9 (W.done s _ _ st λh1 tk kp =>?_))
  exact BJ (EB (BN (hR d h1 tk (.inr ⟨rfl,rfl⟩) λb o nb _ eb=>kp b o nb eb)))
 refine BJ (D9 (W.item 0 s _ _ (by lia) st λv h1 tk pv st1 kp =>?_))
 obtain ⟨u,eu,rfl⟩:=hP _ _ pv
 have bg1:=kp S _ nw bg
 show Ci _ _ (tryCatch (HY [Cd u.1] (call (.builtin "len") [.ref u.1])) _ >>= _) _ _ _
 refine BJ (D9 (Dj (wM (hI _ _ st1 u (BV eu)) (hz u (BV eu)) λtu tk2 =>?_)))
 show Ci _ _ (updateSeq S (λ_ => #[.ref u.1,.int u.2.length tu]) >>= _) _ _ _
 refine BJ ?_
 refine DD bg1 rfl ?_
 rw[nm]
 refine BN ⟨Dk CS _,Bs W hI hP hz nS (n-1) 0 _ u tu _ (by lia) (W.frame _ _ _ st1 λb fb o eb =>?_) eu (CY _ bg1 rfl) λt2 h2 tk2 p2 k2=>hR _ h2 tk2 (.inl ⟨by lia,t2,p2,rfl⟩) λb o nb ns eb=>k2 b o nb ns ?_⟩
 ·exact (Cm _ _ (λz:S=b=>nS (z ▸ fb))).trans eb
 ·exact (Cm _ _ (Dq ns)).trans (kp b o nb eb)
theorem ve (a f d:BM):argsOk "min" ⟨[a],[("key",f),("default",d)]⟩:=by unfold argsOk;kernel_rfl
theorem Bt {s:BQ}{l:Addr}{its:Array BM}{ts:List (Addr×List Int)}{d:BM}{Q:BM->BQ->Prop}(hh:A.handled=none)(hl:s.heap.IsList l its)(hT:∀t∈ts,TI s.heap t)(hP:∀(i:Nat) (v:BM),its[i]? = some v->∃t,ts[i]? = some t/\v = .ref t.1)(hz:∀t∈ts,t.2.length<2 ^ 63)
  (h:∀v h' tk,((0<its.size/\∃t,ts[argBest (eG ts) (its.size-1)]? = some t/\v = .ref t.1)\/(its.size=0/\v=d))->(∀b o,s.heap.get? b=some o->h'.get? b=some o)->Q v { s with heap:=h',toks:=tk }) :
  Ci (Cs prog w) A (call (.builtin "min") [.ref l] [("key",.builtin "len"),("default",d)]) Q E s:=by
 have nm:(toString "min" ++ toString ".loop" : String) = "min.loop" := by decide
 have hlt:∀t∈ts,t.1<s.heap.objs.size:=λt ht=>by
  obtain ⟨_,⟨o,ho,_⟩,_⟩:=hT t ht
  exact B2 ho
 have hpl:l<s.heap.objs.size:=by obtain ⟨_,e,_⟩:=hl;exact B2 e
 refine IQ (E2 HE HF ?_)
 have hg:Ci (Cs prog w) A.in1 (Builtin.«min» ⟨[.ref l],[("key",.builtin "len"),("default",d)]⟩) (λfin s'=>match fin with
   | .done f=>(match (Except.ok f:Result) with | .ok (.ret v)=>Q v s' | .ok _=>False | .error e=>E e s')
   | .again c'=>c'.quiet=true/\FC (Cs prog w) A c' (λr s'=>match r with | .ok (.ret v)=>Q v s' | .ok _=>False | .error e=>E e s') s') E s:=by
  show Ci _ A.in1 (Builtin.Builtins.bindParams "min" ["key", "default"] 0 ⟨[],[("key",.builtin "len"),("default",d)]⟩ >>= _) _ _ s
  refine BJ (D4 (a:=[some (.builtin "len"),some d]) rfl ?_)
  refine BJ (BN ?_)
  refine BJ (E8 hl ?_)
  refine BJ (CO ?_)
  have W:=more (JK (prog:=prog) (w:=w) (A:=A.in1) hh s.heap.objs.size l (Cb hpl) its) ts (λt ht hm=>by
   have:=hlt t ht
   rw[BU.mp hm] at this
   exact C0 _ this)
  rw[nm]
  refine BN ⟨Dk CS _,Ax W (λk h x=>x.2) hP hz ?_ ⟨⟨⟨_,BL _ (BZ _ rfl),rfl,rfl⟩,(hl.push _).push _⟩,λt ht=>(hT t ht).at λo e=>BL _ (BL _ e)⟩ (BZ _ rfl) λv h' tk hv kp =>?_⟩
  ·intro hm
   rw[DR] at hm
   rcases B0.mp hm with hm | hm
   ·rcases Cg.mp hm with e | hm
    ·exact Nat.succ_ne_self _ e
    ·have:=BU.mp hm
     rw[<- this] at hpl
     exact C0 _ (En hpl)
   ·obtain ⟨t,ht,e⟩:=Cv.mp hm
    have:=hlt t ht
    rw[e] at this
    exact C0 _ (En this)
  ·refine h v h' tk hv λb o e=>kp b o (λhm =>?_) (λz =>?_) (BL _ (BL _ e))
   ·have:=B2 e
    rw[BU.mp hm] at this
    exact C0 _ this
   ·have:=B2 e
    rw[z,DR] at this
    exact C0 _ (En this)
 simp only[checkBuiltinCall,Ib]
 cases hsig:Manifest.signature? "min" with
 | none=>exact BN hg
 | some sig =>
  have ha':Bind.checkArgs "min" sig ⟨[.ref l],[("key",.builtin "len"),("default",d)]⟩=pure ():=by simpa only[argsOk,hsig] using ve (.ref l) (.builtin "len") d
  simp only[ha']
  exact BN hg
end
end L2.MnT
namespace L2
open PySem PySem.Spec PyProof.Rows
theorem MnT.zt (g:Nat->Nat):∀k,∀j,j<=k->g (argBest (λi j=>decide (g i<g j)) k)<=g j
 | 0,j,hj=>by rw[Kp.mp hj];exact BS _
 | k+1,j,hj=>by
  have ih:=MnT.zt g k
  by_cases hb:g (k+1)<g (argBest (λi j=>decide (g i<g j)) k)
  ·have ea:argBest (λi j=>decide (g i<g j)) (k+1)=k+1:=by simp only[argBest,decide_eq_true hb,if_true]
   rw[ea]
   by_cases e:j=k+1
   ·rw[e];exact BS _
   ·have:=ih j (by lia);lia
  ·have ea:argBest (λi j=>decide (g i<g j)) (k+1)=argBest (λi j=>decide (g i<g j)) k:=by simp only[argBest,decide_eq_false hb];rfl
   rw[ea]
   by_cases e:j=k+1
   ·rw[e];lia
   ·exact ih j (by lia)
section
variable  {X:Cx}
def yL (K:BP)(te:TE):TE:=λσ H Q=>te σ H λx H1=>∃(p:Addr) (ts:List (Addr×List Int)),[x]=[.ref p]/\SqL K H1 p (ts.map λt =>.ref t.1)/\(∀t∈ts,SqT K H1 t.1 (t.2.map V.int))/\(ts=[]->Q .non H1)/\∀t∈ts,(∀u∈ts,t.2.length<=u.2.length)->Q (.ref t.1) H1
theorem vf {e:Expr}{te:TE}{j:Nat}{p p2 p3 pos kpos kpos2:Pos}(hc:X.calm=true)(hg:Gl X "min")(hm:X.mg "min" = none)(hg2:Gl X "len")(hm2:X.mg "len" = none)(hv:Dn "min" = some (.builtin "min"))(he:PE X e te)
    (hs:CN (e :: []) X.env=(false,eval e X.env) :: CN [] X.env:=by rfl)
    (ha:Fo pos (CN (e :: []) X.env)=(false,eval e X.env) :: Fo pos (CN [] X.env):=by rfl)
    (hplain:(Fo pos (CN (e :: []) X.env)).any (·.1)=false:=by rfl) :
    PE X (.Call (.Name "min" p) [e] [⟨some "key",.Name "len" p2,kpos⟩,⟨some "default",.Constant .none j p3,kpos2⟩] pos) (yL X.K te):=by
  intro pins s σ H Q I h
  refine DX (dH I hg hm hv ?_)
  refine PyProof.Rows.callWith_kw (thn ((aa he ag hs) pos pins s σ H (λvs H1=>∃(p:Addr) (ts:List (Addr×List Int)),vs=[.ref p]/\SqL X.K H1 p (ts.map λt:Addr×List Int=>V.ref t.1)/\(∀t∈ts,SqT X.K H1 t.1 (t.2.map V.int))/\(ts=[]->Q .non H1)/\∀t∈ts,(∀u∈ts,t.2.length<=u.2.length)->Q (.ref t.1) H1) I h) λus s1 ⟨vs,H1,I1,r1,q1⟩ =>?_) ha hplain rfl rfl
  show Ci _ _ (evalAll ((do let v ← eval (.Name "len" p2) X.env;standAt pos;pure v) :: (do let v ← eval (.Constant .none j p3) X.env;standAt pos;pure v) :: [])) _ _ s1
  refine JH (BJ (dH I1 hg2 hm2 FU (BJ (HV (BN ?_)))))
  refine JH (BJ (Constant_none (BJ (HV (BN (wpAny_evalAll_nil ?_))))))
  show Ci _ _ (call (.builtin "min") us [("key",.builtin "len"),("default",.none)]) _ _ s1
  obtain ⟨a,ts,rfl,hq,ht,q0,q⟩:=q1
  obtain ⟨u,rfl,ru⟩:=vals1 r1
  cases (show u=Cd a from ru)
  obtain ⟨its,rv,p1,_⟩:=I1.list hq
  have ll:=rv.length
  rw[BK] at ll
  refine MnT.Bt (ts:=ts) (I1.ok.hd hc) p1.isList (λt h' =>?_) (λi v hv =>?_) (λt h' =>?_) λv h' tk hv k =>?_
  · obtain ⟨i2,r2,p2,_⟩:=I1.tuple (ht t h')
    exact ⟨_,p2,intsAre_of r2⟩
  · rw[Dm] at hv
    have hi:i<ts.length:=by rw[ll];exact (B1.mp hv).1
    have e1:(ts.map λt=>V.ref t.1)[i]? = some (.ref ts[i].1):=by rw[B7,BO hi];rfl
    obtain ⟨w',ew,rw'⟩:=rv.get e1
    rw[ew] at hv
    exact ⟨ts[i],BO hi,(Cw hv).symm.trans rw'⟩
  · obtain ⟨i2,r2,p2,z2⟩:=I1.tuple (ht t h')
    rw[BK,Er] at z2
    lia
  · rw[BX, <- ll] at hv
    rcases hv with ⟨hn,t,et,rfl⟩ | ⟨hn,rfl⟩
    · refine ⟨.ref t.1,H1,I1.kept k,rfl,q t (BV et) λu hu =>?_⟩
      obtain ⟨i,hi,eu⟩:=Fh hu
      have:=MnT.zt (λi=>(ts.getD i (0,[])).2.length) (ts.length-1) i (by lia)
      rw[B8,B8,et,BO hi,eu] at this
      exact this
    · exact ⟨.non,H1,I1.kept k,rfl,q0 (Fg.mp hn)⟩
end
open PySem PySem.Spec PyProof.Rows
section
variable  {X:Cx}
theorem fj {K:BP}(h:X.K=K:=by rfl):bC X (.builtin "isinstance") (λxs H Q=>∃x T t b,xs=[x,.ty T]/\ib K H x t/\PySem.W.kitOne K t (.type T)=some b/\Q (.bl b) H):=by subst h;exact fI
end
open PySem PySem.Spec PyProof.Rows
section
variable  {X:Cx}
theorem rV (hh:X.A.handled=none):bC X (.type "list") (λxs H Q=>∃(a:Addr) (n:Nat),xs=[.ref a]/\H a=some (.rng 0 n)/\n<=1000/\∀l,H l=none->Q (.ref l) (upd H l (.lst ((Dl n).map λi=>V.int (i:Nat))))):=by
 intro pins s σ H xs us Q I r h
 obtain ⟨a,n,rfl,ha,hn,q⟩:=h
 obtain ⟨u,rfl,ru⟩:=vals1 r
 cases (show u=Cd a from ru)
 obtain ⟨t,u,v,e⟩:=(show bB X.prog X.w H s.heap a (.rng 0 n) from I.hok a _ ha)
 have rs:Builtin.Range.rangeSize 0 (n:Int) 1=(n:Int):=by
  rw[Jz]
  split <;> lia
 have n24:n<=2 ^ 24:=by lia
 refine call_list_range hh e (small_one (by lia) (by lia) (by lia) (by lia)) rs n24 λh' tk acc' c' k e' it =>?_
 have hv:∀(i:Nat) (x:BM),acc'.toList[i]? = some x->∃t,x=DE i t:=λi x hx=>by
  rw[B3] at hx
  obtain ⟨t',e⟩:=it.2 i x hx
  exact ⟨t',by rw[e];simp⟩
 have rv:=kF hv
 rw[BW,it.1] at rv
 exact ⟨.ref s.heap.objs.size,_,I.laid (o :=.lst ((Dl n).map λi=>V.int (i:Nat))) k (BS _) ⟨by rw[BK,D6];exact small hn,acc'.toList,c',rv,by simpa using e'⟩,rfl,q _ (I.hok.fresh (BS _))⟩
end
open PySem PySem.Spec PySem.W PyProof.Rows
theorem bB.ex {P:Ca}{w:CJ}{H:Hp}{h:Heap}{a:Addr}{o:HO}(x:bB P w H h a o):∃u,h.get? a=some u:=by
 cases o with
 | lst xs=>obtain ⟨_,_,_,_,e⟩:=x;exact ⟨_,e⟩
 | tup xs=>obtain ⟨_,_,_,_,e,_⟩:=x;exact ⟨_,e⟩
 | dK kvs=>obtain ⟨_,_,_,_,o,_,_,e,_⟩:=x;exact ⟨_,e⟩
 | dT kvs=>obtain ⟨_,_,_,_,o,_,_,e,_⟩:=x;exact ⟨_,e⟩
 | set S n=>obtain ⟨o,_,_,_,e,_⟩:=x;exact ⟨_,e⟩
 | ins C dx fs=>obtain ⟨_,_,_,e,_⟩:=x;exact ⟨_,e⟩
 | own y=>obtain ⟨_,e⟩:=x;exact ⟨_,e⟩
 | xd fs=>obtain ⟨_,⟨_,_,_,e,_⟩,_⟩:=x;exact ⟨_,e⟩
 | rng lo hi=>obtain ⟨_,_,_,e⟩:=x;exact ⟨_,e⟩
 | frz ob u=>obtain ⟨e,_⟩:=x;exact ⟨_,e⟩
 | tbl ps=>exact ⟨_,show h.get? a=some _ from x⟩
 | met f y=>exact ⟨_,show h.get? a=some _ from x⟩
 | ext φ=>obtain ⟨_,⟨_,e⟩,_⟩:=x;exact ⟨_,e⟩
theorem HOk.noth {P:Ca}{w:CJ}{H:Hp}{h:Heap}{a:Addr}(x:HOk P w H h)(e:h.get? a=none):H a=none:=by
 cases q:H a with
 | none=>rfl
 | some o =>
  obtain ⟨u,z⟩:=(x a o q).ex
  rw[e] at z;cases z
theorem HOk.hide {P:Ca}{w:CJ}{H:Hp}{h:Heap}{l:List Addr}(x:HOk P w H h)(n:∀b∈l,H b=none):HOk P w H (hideAll h l):=λa o e =>
 (x a o e).stay (λb u hb q=>HX _ q λm=>by
  have z:=n b m
  rcases hb with rfl | hb
  ·rw[e] at z;cases z
  ·rw[hb] at z;cases z) (λ_ q=>q) λ_ _ q=>q
structure Fly (P:Ca)(w:CJ)(outer:List Env)(H H':Hp)(h:Heap)(B:Heap)(ea:Addr)(cls a0:BM)(h':Heap):Prop where
 fl:Heap.FlyingW B outer ea cls a0 h'
 un:Un (frs outer) [] H H' h h'
 ok:HOk P w H' B
 cov:∀b o,h.get? b=some o->H b=none->b∉frs outer->B.get? b=some o
 all:∀b o,h.get? b=some o->b∉frs outer->∃u,B.get? b=some u
section
variable  {P:Ca}{w:CJ}{outer:List Env}{H H':Hp}{h B h' h2:Heap}{ea:Addr}{cls a0:BM}
theorem Fly.no (F:Fly P w outer H H' h B ea cls a0 h'):H' ea=none:=F.ok.noth F.fl.2.1
theorem Fly.hok (F:Fly P w outer H H' h B ea cls a0 h'):HOk P w H' h':=F.ok.kept F.fl.1
theorem Fly.new (F:Fly P w outer H H' h B ea cls a0 h'):h.get? ea=none:=by
 cases q:h.get? ea with
 | none=>rfl
 | some o =>
  by_cases m:ea∈frs outer
  ·obtain ⟨_,o',ho',hd⟩:=F.fl.2.2.1.mem m
   obtain ⟨oe,vs,he,_,hde,_⟩:=F.fl.first
   rw[he] at ho';cases ho'
   exact absurd hde (hd vs)
  ·obtain ⟨u,z⟩:=F.all ea o q m
   rw[F.fl.2.1] at z;cases z
theorem Fly.step {l:List Env}(F:Fly P w outer H H' h B ea cls a0 h')(f2:Heap.FlyingW B l ea cls a0 h2)(hs:∀b∈frs outer,∀o,h'.get? b=some o->∃sl,h2.get? b=some { o with slots:=sl }):Un (frs outer) [] H H' h h2 where
 keep:=λb o q n m _=>f2.1 _ _ (F.cov b o q n m)
 slot:=λb o q n m x=>by
  obtain ⟨sl,e⟩:=F.un.slot b o q n m x
  obtain ⟨sl',e'⟩:=hs b m _ e
  exact ⟨sl',e'⟩
 free:=F.un.free
 there:=λb o q x=>by
  by_cases m:b∈frs outer
  ·obtain ⟨o',e⟩:=F.un.there b o q x
   obtain ⟨sl',e'⟩:=hs b m _ e
   exact ⟨_,e'⟩
  ·obtain ⟨u,e⟩:=F.all b o q m
   exact ⟨u,f2.1 _ _ e⟩
 tups:=F.un.tups
 frzs:=F.un.frzs
 tbls:=F.un.tbls
theorem Fly.slots (F:Fly P w outer H H' h B ea cls a0 h')(k:h'.UpToSlots h2):∀b∈frs outer,∀o,h'.get? b=some o->∃sl,h2.get? b=some { o with slots:=sl }:=λb m o e=>by
 obtain ⟨_,o',ho',hd⟩:=F.fl.2.2.1.mem m
 rw[e] at ho';cases ho'
 exact k b o e hd
theorem Fly.on (F:Fly P w outer H H' h B ea cls a0 h')(f2:Heap.FlyingW B outer ea cls a0 h2)(k:h'.UpToSlots h2):Fly P w outer H H' h B ea cls a0 h2 :=
 ⟨f2,F.step f2 (F.slots k),F.ok,F.cov,F.all⟩
end
def CX1 (P:Ca)(w:CJ):CXT:=λouter H s E e s'=>∃ea cls a0 B H',e = .ref ea/\s'.os=s.os/\AllBare s'.gens/\Fly P w outer H H' s.heap B ea cls a0 s'.heap/\E cls none H'
section
variable  {X:Cx}{pins:List (Addr×Obj)}{σ:St}{H H':Hp}{s:BQ}{B h':Heap}{ea:Addr}{cls a0:BM}
theorem Inv.land {s':BQ}(I:Inv X pins σ H s)(os:s'.os=s.os)(g:AllBare s'.gens)(F:Fly X.prog X.w X.stack H H' s.heap B ea cls a0 s'.heap):Inv X pins σ H' s' :=
 I.zh os F.un F.hok g (λb z=>absurd z (by simp))
theorem Fly.made {M:Model}{E:BM->BQ->Prop}{Q:Unit->BQ->Prop}{s':BQ}{vs:List BM}(I:Inv X pins σ H s)(hst:X.stack=X.env :: X.outer)(hfr:X.env.frame=some X.env.locals)(hex:X.ex=[])
  (hx:Heap.MadeExcOf s.heap s'.heap ea cls vs) (hQ:∀h2 B a0,Fly X.prog X.w X.outer X.H₀ H X.s₀.heap B ea cls a0 h2->Q () { s' with heap:=h2 }):Ci M X.A (leaving X.env (.ref ea)) Q E s':=by
 have ff:=I.stack
 have hin:∀env∈X.stack,∀b,env.frame=some b->b∈frs X.stack:=λenv he b hb=>Fs.mpr ⟨env,he,hb⟩
 have ff':=funFrames_hide ff hin
 have fh:∀b∈frs X.stack,H b=none:=I.nG
 have F0:∀h2 t,Heap.FlyingW (hideAll s.heap (frs X.stack)) X.outer ea cls (.ref t) h2->s'.heap.UpToSlots h2->Fly X.prog X.w X.outer X.H₀ H X.s₀.heap (hideAll s.heap (frs X.stack)) ea cls (.ref t) h2:=λh2 t f2 k=>by
  have nL:∀b o,X.s₀.heap.get? b=some o->b≠X.env.locals:=λb o q z=>absurd (Cj (B2 q) (z ▸ I.ok.above)) (C0 _)
  have nst:∀b,b∉X.fs->b≠X.env.locals->b∉frs X.stack:=λb n1 n2 m=>by
   rw[hst] at m
   unfold frs at m
   rw[Fd,hfr] at m
   rcases Cg.mp m with z | z
   ·exact n2 z
   ·exact n1 z
  have sub:∀b∈X.fs,b∈frs X.stack:=λb m=>by
   rw[hst];unfold frs;rw[Fd,hfr];exact Cf _ m
  have nx:∀b,b∉X.ex:=λb m=>by rw[hex] at m;cases m
  have sl:∀b∈frs X.stack,∀o,s.heap.get? b=some o->∃sl,h2.get? b=some { o with slots:=sl }:=λb m o e=>by
   obtain ⟨_,o',ho',hd⟩:=ff.mem m
   rw[e] at ho';cases ho'
   exact k b o (hx.keeps _ _ e) hd
  refine ⟨f2,⟨λb o q n m _ =>?_,λb o q n m _ =>?_,λb o q n _=>I.base.free b o q n (nx b),λb o q _ =>?_,I.base.tups,I.base.frzs,I.base.tbls⟩,I.hok.hide fh,λb o q n m =>?_,λb o q m =>?_⟩
  ·exact f2.1 _ _ (HX _ (I.base.keep b o q n m (nx b)) (nst b m (nL b o q)))
  ·obtain ⟨s1,e⟩:=I.base.slot b o q n m (nx b)
   obtain ⟨s2,e'⟩:=sl b (sub b m) _ e
   exact ⟨s2,e'⟩
  ·obtain ⟨o',e⟩:=I.base.there b o q (nx b)
   by_cases m:b∈frs X.stack
   ·obtain ⟨s2,e'⟩:=sl b m _ e
    exact ⟨_,e'⟩
   ·exact ⟨o',f2.1 _ _ (HX _ e m)⟩
  ·exact HX _ (I.base.keep b o q n m (nx b)) (nst b m (nL b o q))
  ·obtain ⟨o',e⟩:=I.base.there b o q (nx b)
   exact ⟨o',HX _ e (nst b m (nL b o q))⟩
 rw[hst] at ff'
 refine wpAny_leaves_madeW (base:=hideAll s.heap (frs (X.env :: X.outer))) (by rw[I.ok.frames,hst]) hfr (λb o q=>of_hideAll _ q) ff' hx λh2 t f2 _ _ k =>?_
 rw[<- hst] at f2
 exact hQ h2 _ _ (F0 h2 t f2 k)
end
open PySem PySem.Spec PySem.W PyProof.Rows
theorem Fun.okX {P:Ca}{w:CJ}{K:BP}{mg:Str->Option BM}{base:Heap}{x qual:Str}{st:Stmt}{f:Addr}{fd:De}{N ps:List Str}{k:Nat}{sp:Sp}(F:Fun K x qual st f fd)(S:aK N ps (aA st))(len:∀vs H Q E,sp vs H Q E->vs.length=ps.length)
  (hb:∀(cdv:BM) (A:Dd) (outer:List Env) (s:BQ) (H:Hp) (vs:List V) (Q:VK) (E:XK),cW k (A.deeper (envOfC qual (aA st) s.heap.objs.size f cdv))->sp vs H Q E →
   ∃t,PSs (lH (CX1 P w) P w K mg base N qual (aA st) f cdv A outer s H E) (bS st) t/\t { nx:=λ_ H'=>Q .non H',rt:=Q } (start N vs) H):bM P w K mg base (CX1 P w) (k+1) f fd ps sp:=by
 obtain ⟨oc,od,kV,doc,pm,an,cdv,ct,osl,rfl,lk,hcd⟩:=F.ex
 exact zk lk hcd S len λA outer s H vs Q E hr hsp=>hb cdv A outer s H vs Q E hr hsp
structure vg (P:Ca)(w:CJ)(K:BP)(mg:Str->Option BM)(base:Heap)(k:Nat)(x:Str)(ps:List Str)(sp:Sp):Prop where
 ex:∃f fd,bM P w K mg base (CX1 P w) k f fd ps sp/\mg x=some (.ref f)/\PySem.W.keepIn K (.ref f)=true/\Binds K fd ps []
theorem vg.calm {P:Ca}{w:CJ}{K:BP}{mg:Str->Option BM}{base:Heap}{k:Nat}{x:Str}{ps:List Str}{sp sp':Sp}(c:vg P w K mg base k x ps sp)(h:∀vs H Q E,sp' vs H Q E->sp vs H Q E0):Cal P w K mg base k x ps sp':=by
 obtain ⟨f,fd,F,m,kp,b⟩:=c.ex
 refine ⟨f,fd,⟨λvs H Q E q=>F.len vs H Q E0 (h _ _ _ _ q),λA outer s H args us vs Q E hr he hb hv hs=>Fc (F.run A outer s H args us vs Q E0 hr he hb hv (h _ _ _ _ hs)) λr s' z =>?_⟩,m,kp,b⟩
 cases r with
 | error e =>
  obtain ⟨_,_,_,_,_,_,_,_,_,z⟩:=z
  exact z.elim
 | ok fl=>cases fl <;> exact z
section
variable  {P:Ca}{w:CJ}{K:BP}{mg:Str->Option BM}{base:Heap}{N:List Str}{qual:Str}{sc:Scope}{f:Addr}{cdv:BM}{A:Dd}{outer:List Env}{s₀:BQ}{H₀:Hp}{E:XK}
def Bu (X:Cx)(E:XK):Prop:=∀(pins:List (Addr×Obj)) (σ:St) (H:Hp) (s:BQ) (h':Heap) (ea:Addr) (cls:BM) (vs:List BM),Inv X pins σ H s->Heap.MadeExcOf s.heap h' ea cls vs->E cls none H->X.xe (.ref ea) { s with heap:=h' }
theorem Bv:Bu (lH (CX1 P w) P w K mg base N qual sc f cdv A outer s₀ H₀ E) E:=λpins σ H s h' ea cls vs I hx q=>by
 exact Fly.made (s':={ s with heap:=h' }) I rfl rfl rfl hx λh2 B a0 F2=>⟨ea,cls,a0,B,H,rfl,I.os,I.bare,F2,q⟩
end
abbrev wN:List BM:=[.type "ValueError",.type "Exception",.type "BaseException",.type "object"]
structure ExC (K:BP)(mg:Str->Option BM)(x:Str)(C:Addr):Prop where
 ex:excIn K C wN "ValueError.__new__" = true
 mg:mg x=some (.ref C)
theorem Ay {K:BP}{h:Heap}{C:Addr}{bs:List BM}{nid:String}(X:K.In h)(q:excIn K C bs nid=true) :
  ∃bm N nm q bs' hd sn sub ab col dd k0 k1 k2 k3 k5 mN,h.get? C=some (excClassObj nm q C N bs' bm hd sn sub ab col dd k0 k1 k2 k3 k5 nid)/\h.Ns N mN/\mN "__init__" = none/\OwnTail h bs bm:=by
 unfold excIn at q
 split at q
 ·rename_i d1 c1 sl1 l1
  split at q
  ·rename_i C1 b1 j0 j1 j2 j3 n1 j5 m1 s1
   simp only[Dy,beq_iff_eq,Bool.not_eq_true'] at q
   obtain ⟨⟨⟨⟨⟨rfl,rfl⟩,q1⟩,q2⟩,q3⟩,q4⟩:=q
   obtain ⟨a1,a2,a3,a4,a5,a6,a7,a8,a9,a10,a11⟩:=c1
   dsimp only at m1 q1 q3 q4
   subst m1 q1
   obtain ⟨ll⟩:=sl1
   simp only at s1
   subst s1
   exact ⟨b1,a4,a1,a5,a2,a6,a7,a8,a9,a10,d1,j0,j1,j2,j3,j5,_,X _ _ l1,.of_isNs (isNs_of_in X q3),nsMap_none_of_in X q3 q4,tail_of_in X q2⟩
  ·cases q
 ·cases q
def Az (E:XK)(cls:BM)(t:TA):TS:=λ_ σ H=>t σ H λvs H1=>vs.length<=B4/\E cls none H1
theorem wO {X:Cx}{E:XK}{C:Addr}{x:Str}{e:Expr}{es:List Expr}{t:TA}{np cpos pos:Pos}(O:Bu X E)(hc:ExC X.K X.mg x C)(hh:X.A.handled=none)(hg:Gl X x)(ha:PA X (e :: es) t)
  (hdb:(x == ("__debug__" : Str))=false:=by decide) (he:CN (e :: es) X.env=(false,eval e X.env) :: CN es X.env:=by rfl) (hpl:(Fo cpos (CN es X.env)).any (·.1)=false:=by rfl) :
  PS X (.Raise (some (.Call (.Name x np) (e :: es) [] cpos)) none pos) (Az E (.ref C) t):=by
 intro pins s σ H D I h
 obtain ⟨bm,N,nm,q,bs',hd,sn,sub,ab,col,dd,k0,k1,k2,k3,k5,mN,hC,hN,hni,T⟩:=Ay I.mod.kin hc.ex
 have hpl':(Fo cpos (CN (e :: es) X.env)).any (·.1)=false:=by
  rw[he]
  show (false || (Fo cpos (CN es X.env)).any (·.1))=false
  rw[hpl];rfl
 refine wpAny_Raise_call_subT (nm:=nm) (q:=q) (N:=N) (bs:=bs') (bm:=bm) (hdct:=hd) (sn:=sn) (sub:=sub) (ab:=ab) (col:=col) (dd:=dd) (k0:=k0) (k1:=k1) (k2:=k2) (k3:=k3) (k5:=k5) (mN:=mN)
  IW (T.hasType IW.hasBase) hh hpl' hni (hZ I hg hc.mg ⟨rfl,?_⟩ hdb)
 have hs:=ha cpos pins s σ H _ I h
 rw[he] at hs ⊢
 refine G0 (DT hs (λus s2 ⟨vs,H1,I1,r,z,qE⟩=>⟨rfl,by rw[<- r.length];exact z,I1.bk _ _ hC,hN.keeps I1.bk,T.keeps I1.bk,λh' ea hx=>O pins σ H1 s2 h' ea _ _ I1 hx qE⟩) λ_ _ y=>y)
open PySem PySem.Spec PySem.W PyProof.Rows
abbrev Cx.mark (X:Cx)(ea:Addr):Cx:={ X with A:=X.A.mark (some (.ref ea)),calm:=false,xe:=λ_ _=>False }
section
variable  {X:Cx}{pins:List (Addr×Obj)}{σ:St}{H H':Hp}{s s':BQ}{B h':Heap}{ea:Addr}{cls a0:BM}
theorem Inv.mark (I:Inv X pins σ H s)(ea:Addr):Inv (X.mark ea) pins σ H s :=
 ⟨⟨I.ok.mod,I.ok.kind,I.ok.glob,I.ok.blt,I.ok.above,I.ok.inj,I.ok.has,I.ok.cab,(λz=>Bool.noConfusion z),I.ok.frames,I.ok.stk,I.ok.exf,I.ok.bs,I.ok.bsz,I.ok.noex,I.ok.exfs,I.ok.funs,I.ok.frf⟩,I.os,I.bare,I.base,I.loc,I.cell,I.free,I.freeC,I.pin,I.hok,I.len⟩
theorem Inv.unmark (ok:X.Ok)(I:Inv (X.mark ea) pins σ H s):Inv X pins σ H s:=⟨ok,I.os,I.bare,I.base,I.loc,I.cell,I.free,I.freeC,I.pin,I.hok,I.len⟩
def ou (ea:Addr)(cls:BM):HO :=.ext λh=>∃o,h.get? ea=some o/\o.cls=cls
theorem HOk.exc {P:Ca}{w:CJ}{h:Heap}(x:HOk P w H h)(hn:H ea=none)(hc:∃o,h.get? ea=some o/\o.cls=cls):HOk P w (upd H ea (ou ea cls)) h:=λb u e=>by
 by_cases z:b=ea
 ·subst z
  rw[ah] at e
  cases e
  refine ⟨hc,?_,λh1 h2 p k =>?_⟩
  ·obtain ⟨o,q,_⟩:=hc;exact ⟨o,q⟩
  ·obtain ⟨o,q,c⟩:=p;exact ⟨o,k o q,c⟩
 ·rw[aE z] at e
  exact (x b u e).stay (λ_ _ _ q=>q) (λc q=>by rw[aE (aB q hn)];exact q) λc xs q=>by rw[aE (aB q hn)];exact q
theorem Inv.exc (I0:Inv X pins σ H s)(I:Inv X pins σ H' s')(F:Fly X.prog X.w X.stack H H' s.heap B ea cls a0 s'.heap):Inv X pins σ (upd H' ea (ou ea cls)) s':=by
 have nn:=F.new
 have hn:=F.no
 have ne:∀b o,s.heap.get? b=some o->b≠ea:=λb o q z=>by rw[z,nn] at q;cases q
 have nh:∀b u,H' b=some u->b≠ea:=λb u q=>aB q hn
 refine ⟨I.ok,I.os,I.bare,⟨I.base.keep,I.base.slot,λb o q n m =>?_,I.base.there,λb xs q =>?_,λb o u q =>?_,λb ps q =>?_⟩,I.loc,I.cell,?_,λx c e =>?_,λp hp =>?_,I.hok.exc hn F.fl.there,I.len⟩
 ·obtain ⟨o',e⟩:=I0.base.there b o q m
  rw[aE (ne b o' e)];exact I.base.free b o q n m
 ·have:=I.base.tups b xs q
  rw[aE (nh b _ this)];exact this
 ·have:=I.base.frzs b o u q
  rw[aE (nh b _ this)];exact this
 ·obtain ⟨mo,this⟩:=I.base.tbls b ps q
  exact ⟨mo,by rw[aE (nh b _ this)];exact this⟩
 ·obtain ⟨m,⟨o,_,_,ho,_⟩,_⟩:=I0.loc
  rw[aE (ne _ o ho)];exact I.free
 ·obtain ⟨v,o,ho,_⟩:=I0.cell x c e
  rw[aE (ne _ o ho)];exact I.freeC x c e
 ·obtain ⟨e,n,n1,n2,d⟩:=I.pin p hp
  obtain ⟨e0,_⟩:=I0.pin p hp
  exact ⟨e,by rw[aE (ne _ _ e0)];exact n,n1,n2,d⟩
theorem Inv.gone {i:Nat}{x:Str}{m:Str->Option BM}{v:Option BM}{tk:Nat}(I:Inv X pins σ H s)(hN:X.N.Nodup)(hi:X.N[i]? = some x)(hn:s.heap.Ns X.env.locals m)(hl:∀(j:Nat) (y:Str) (v:V),X.N[j]? = some y->σ[j]? = some (some v)->Vis X.env.scope y->∃u,RelV v u/\Look X.env s.heap m y u)
  (hn':h'.Ns X.env.locals (λy=>if y=x then v else m y)) (hs:Heap.SameBut X.env.locals s.heap h'):Inv X pins (σ.set i none) H { s with heap:=h',toks:=tk }:=by
 obtain ⟨oL,_,_,hoL,_⟩:=id hn
 have cne:=I.cne
 have lt:∀b o,X.s₀.heap.get? b=some o->b≠X.env.locals:=λb o e=>Cb (Cj (B2 e) I.ok.above)
 refine ⟨I.ok,I.os,I.bare,⟨λb o e n hb hx =>?_,λb o e n hb hx =>?_,I.base.free,λb o e hx =>?_,I.base.tups,I.base.frzs,I.base.tbls⟩,⟨_,hn',λj y v' e1 e2 e3 =>?_⟩,λy c e =>?_,I.free,I.freeC,λp hp =>?_,λb ob e =>?_,by simpa using I.len⟩
 ·exact (hs.2 b (lt b o e)).trans (I.base.keep b o e n hb hx)
 ·obtain ⟨sl,e1⟩:=I.base.slot b o e n hb hx
  exact ⟨sl,(hs.2 b (lt b o e)).trans e1⟩
 ·obtain ⟨o',e1⟩:=I.base.there b o e hx
  exact ⟨o',(hs.2 b (lt b o e)).trans e1⟩
 ·by_cases hj:j=i
  ·subst hj
   have:j<σ.length:=by rw[I.len];exact (B1.mp hi).1
   rw[DY this] at e2
   cases e2
  ·rw[Ee (Dq hj)] at e2
   obtain ⟨u',r',q⟩:=hl j y v' e1 e2 e3
   refine ⟨u',r',?_⟩
   rcases q with ⟨k,e⟩ | ⟨k,c,e,z⟩
   ·have:y≠x:=λe=>hj (jM hN e1 (e ▸ hi))
    exact .inl ⟨k,by simp[this,e]⟩
   ·exact .inr ⟨k,c,e,z.sameBut hs (cne y c e)⟩
 ·obtain ⟨w',z⟩:=I.cell y c e
  exact ⟨w',z.sameBut hs (cne y c e)⟩
 ·obtain ⟨e,n,ne,nf,d⟩:=I.pin p hp
  exact ⟨(hs.2 p.1 ne).trans e,n,ne,nf,d⟩
 ·have fr:=I.free
  refine (I.hok b ob e).stay (λc w' hc q=>(hs.2 c ?_).trans q) (λ_ q=>q) λ_ _ q=>q
  rintro rfl
  rcases hc with rfl | hc
  ·rw[fr] at e;cases e
  ·rw[fr] at hc;cases hc
end
abbrev EXt:=BM->St->Hp->Prop
def XP (X:Cx)(pins:List (Addr×Obj))(EX:EXt)(e:BM)(s':BQ):Prop :=
 ∃σ H s ea cls a0 B H',Inv X pins σ H s/\e = .ref ea/\s'.os=s.os/\AllBare s'.gens/\Fly X.prog X.w X.stack H H' s.heap B ea cls a0 s'.heap/\EX cls σ H'
def PSx (X:Cx)(sts:List Stmt)(t:EXt->TS):Prop :=
 ∀(pins:List (Addr×Obj)) (s:BQ) (σ:St) (H:Hp) (D:Ends) (EX:EXt),Inv X pins σ H s->t EX D σ H->Ci (Cs X.prog X.w) X.A (execs sts X.env) (SP X pins D) (XP X pins EX) s
def Bw (X:Cx)(st:Stmt)(t:EXt->TS):Prop :=
 ∀(pins:List (Addr×Obj)) (s:BQ) (σ:St) (H:Hp) (D:Ends) (EX:EXt),Inv X pins σ H s->t EX D σ H->Ci (Cs X.prog X.w) X.A (exec st X.env) (SP X pins D) (XP X pins EX) s
section
variable  {X:Cx}{pos:Pos}
theorem yM {st:Stmt}{t:EXt->TS}(h1:Bw X st t):PSx X [st] t:=by
 intro pins s σ H D EX I h
 refine Ie (thn (h1 pins s σ H D EX I h) λf s1 q =>?_)
 cases f with
 | next=>exact Fz q
 | ret v=>exact q
 | brk=>exact q
 | cont=>exact q
theorem Bx {k:Nat}{f:Addr}{fd:De}{ps:List Str}{sp:Sp}{pins:List (Addr×Obj)}{σ:St}{H:Hp}{s:BQ}{Q:VK}{EX:EXt}{us:List BM}{vs:List V}(F:bM X.prog X.w X.K X.mg X.base (CX1 X.prog X.w) k f fd ps sp)(hr:cW k X.A)(hb:Binds X.K fd ps [])
  (I:Inv X pins σ H s) (r:Vals vs us) (h:sp vs H Q λcls _ H'=>EX cls σ H'):Ci (Cs X.prog X.w) X.A (call (.ref f) us) (EP X pins σ Q) (XP X pins EX) s:=by
 have hl:us.length=ps.length:=by rw[<- r.length];exact F.len _ _ _ _ h
 have hb':=hb s us I.kIn (by rw[CK];exact hl)
 rw[CK] at hb'
 refine IQ (Fc (F.run X.A X.stack s H ⟨us,[]⟩ us vs Q _ hr I.Bc hb' r h) λr s' hq =>?_)
 cases r with
 | error e =>
  obtain ⟨ea,cls,a0,B,H2,rfl,os,g,F2,q⟩:=hq
  exact ⟨σ,H,s,ea,cls,a0,B,H2,I,rfl,os,g,F2,q⟩
 | ok fl =>
  cases fl with
  | ret u=>exact I.after hq
  | next=>exact False.elim hq
  | brk=>exact False.elim hq
  | cont=>exact False.elim hq
theorem ev_x {j k:Nat}{x:Str}{ps:List Str}{sp:Sp}{e:Expr}{es:List Expr}{t:TA}{p:Pos}{pins:List (Addr×Obj)}{σ:St}{H:Hp}{s:BQ}{Q:VK}{EX:EXt}(C:vg X.prog X.w X.K X.mg X.base k x ps sp)(hr:cW j X.A)(hj:k<=j)(hg:Gl X x)(ha:PA X.nox (e :: es) t)
  (hdb:(x == ("__debug__" : Str))=false) (he:CN (e :: es) X.env=(false,eval e X.env) :: CN es X.env) (hpl:(Fo pos (CN es X.env)).any (·.1)=false)
  (I:Inv X pins σ H s) (h:t σ H λvs H1=>sp vs H1 Q λcls _ H2=>EX cls σ H2):Ci (Cs X.prog X.w) X.A (eval (.Call (.Name x p) (e :: es) [] pos) X.env) (EP X pins σ Q) (XP X pins EX) s:=by
 obtain ⟨f,fd,F,m,kp,b⟩:=C.ex
 refine DX (hZ I hg m ?_ hdb)
 refine Jn (h₀:=X.base) I.ok.mod.kin kp (DT (ha pos pins s σ H _ (I.jP _) h) (λus s1 ⟨vs,H1,I1,r,q⟩=>⟨I1.dZ.kIn,?_⟩) λ_ _ z=>False.elim z) he hpl
 exact Bx F (hr.mono hj) b I1.dZ r q
theorem wQ {j k:Nat}{x:Str}{ps:List Str}{sp:Sp}{e:Expr}{es:List Expr}{t:TA}{p pos':Pos}(C:vg X.prog X.w X.K X.mg X.base k x ps sp)(hr:cW j X.A)(hj:k<=j)(hg:Gl X x)(ha:PA X.nox (e :: es) t)
  (hdb:(x == ("__debug__" : Str))=false:=by decide) (he:CN (e :: es) X.env=(false,eval e X.env) :: CN es X.env:=by rfl) (hpl:(Fo pos (CN es X.env)).any (·.1)=false:=by rfl) (hs:swapsWith (.Call (.Name x p) (e :: es) [] pos) none pos'.line X.env=pure false:=by rfl) :
  Bw X (.Expr (.Call (.Name x p) (e :: es) [] pos) pos') (λEX D σ H=>t σ H λvs H1=>sp vs H1 (λ_ H2=>D.nx σ H2) λcls _ H2=>EX cls σ H2):=by
 intro pins s σ H D EX I h
 exact wpAny_Expr_any (thn (ev_x C hr hj hg ha hdb he hpl I h) λv s1 ⟨x,H1,I1,r1,q1⟩=>⟨σ,H1,I1,q1⟩) I.quiet hs
def tTry (K:BP)(i:Nat)(C:BM)(tb:EXt->TS)(th:TS):TS:=λD σ H =>
 tb (λcls σ1 H1=>exmOne K cls C=some true/\∀ea,H1 ea=none->th { nx:=λσ2 H2=>D.nx (σ2.set i none) H2,rt:=D.rt,bk:=λσ2 H2=>D.bk (σ2.set i none) H2,ct:=λσ2 H2=>D.ct (σ2.set i none) H2 } (σ1.set i (some (.ref ea))) (upd H1 ea (ou ea cls))) D σ H
theorem AA {i:Nat}{n x:Str}{C:BM}{body:List Stmt}{b₀:Stmt}{suite:List Stmt}{tb:EXt->TS}{th:TS}{np hp:Pos}(hst:X.stack=X.env :: X.outer)(hfr:X.env.frame=some X.env.locals)
    (hN:X.N.Nodup) (hi:X.N[i]? = some n) (hx:X.env.scope.names.lookup n=some .local) (hg:Gl X x) (hm:X.mg x=some C) (hb:PSx X body tb) (hs:∀ea,PSs (X.mark ea) (b₀ :: suite) th) (hdb:(x == ("__debug__" : Str))=false:=by decide) :
    PS X (.Try body [.ExceptHandler (some (.Name x np)) (some n) (b₀ :: suite) hp] [] [] pos) (tTry X.K i C tb th):=by
  intro pins s σ H D I h
  refine wpAny_Try_except (DT (hb pins s σ H D _ I h) (λf s1 q =>?_) λe s1 hx1 =>?_)
  · cases f with
    | next=>exact Fz q
    | ret v=>exact q
    | brk=>exact q
    | cont=>exact q
  obtain ⟨σ1,H1,s0,ea,cls,a0,B,H2,I1,rfl,os,g,F,hm2,q⟩:=hx1
  have fl:=F.fl
  have hfr':X.A.frames=some (X.env :: X.outer):=by rw[I1.ok.frames,hst]
  rw[hst] at fl
  refine wpAny_looks_onW hfr' hfr fl λh4 held4 k4 =>?_
  refine wpAny_landsW held4 λh5 f5 k5 =>?_
  rw[<- hst] at f5
  have F5:=F.on f5 (k4.trans k5)
  have I5:Inv X pins σ1 H2 { s1 with heap:=h5 }:=I1.land os g F5
  refine wpAny_handleBy_cons (codeAny_handlers_test ?_) (by intro z;cases z)
  refine hZ (X:=X.mark ea) (I5.mark ea) hg hm ?_ hdb
  have LT:Looks (Cs X.prog X.w) h5 (typeOf (.ref ea)) cls:=by
    obtain ⟨ob,hob,hc⟩:=f5.there
    subst hc
    exact (Looks.ld hob).andThen .now
  refine (exm_one (M:=Cs X.prog X.w) I5.kIn LT hm2).here ?_
  refine codeAny_handlers_suite_as ?_
  refine lands_againW f5 λh6 f6 k6 =>?_
  have F6:=F5.on f6 k6
  have I6:Inv X pins σ1 H2 { s1 with heap:=h6 }:=I1.land os g F6
  have I7:=I1.exc I6 F6
  refine jN (v :=.ref ea) I7 hN hi (.inl hx) rfl (λs7 I8 =>?_) (.inr hx)
  have cls0:(X.env.scope.kind == .class || (X.env.scope.kind == .module && X.env.locals != X.env.globals))=false:=by rw[I.ok.kind];rfl
  have go:∀{σ2:St} {H3:Hp} {s8:BQ} {Q:Unit->BQ->Prop} {E:BM->BQ->Prop},Inv (X.mark ea) pins σ2 H3 s8->(∀s9,Inv X pins (σ2.set i none) H3 s9->Q () s9)->Ci (Cs X.prog X.w) X.A (do bindName X.env n .none;unbindBehindTheSuite X.env n hp) Q E s8:=λ{σ2 H3 s8 Q E} J hQ=>by
    have J':Inv X pins σ2 H3 s8:=J.unmark I.ok
    obtain ⟨m,hn,hl⟩:=J'.loc
    exact wpAny_nameGoes_keeps hx hn cls0 λh9 v hn9 hs9=>hQ _ (J'.gone hN hi hn hl hn9 hs9)
  refine DT (hs ea pins s7 _ _ _ (I8.mark ea) (q ea F.no)) (λf s8 r =>?_) λ_ _ z=>False.elim z
  cases f with
  | next =>
    obtain ⟨σ2,H3,J,r⟩:=r
    exact go J λs9 J9=>⟨_,H3,J9,r⟩
  | brk =>
    obtain ⟨σ2,H3,J,r⟩:=r
    exact go J λs9 J9=>⟨_,H3,J9,r⟩
  | cont =>
    obtain ⟨σ2,H3,J,r⟩:=r
    exact go J λs9 J9=>⟨_,H3,J9,r⟩
  | ret u =>
    obtain ⟨v,σ2,H3,J,rv,r⟩:=r
    exact go J λs9 J9=>⟨v,_,H3,J9,rv,r⟩
end
open PySem PySem.Spec PySem.W PyProof.Rows
structure ExI (K:BP)(C:Addr):Prop where
 ga:findIn K (.ref C) "__getattribute__" = some (some (.builtin "BaseException.__getattribute__"))
 gt:findIn K (.ref C) "__getattr__" = some none
 cl:findIn K (.ref C) "__class__" = some (some (.builtin "object.__class__"))
 mo:subIn K (.ref C) (.type "object")=some true
 sb:subIn K (.ref C) (.type "BaseException")=some true
 it:(clsIn K C).isSome=true
section
variable  {K:BP}{prog:Ca}{w:CJ}{A:Dd}{E:BM->BQ->Prop}{h:Heap}{g:Array GenState}{d:Drawn}{t:Nat}{os:OsState}{a C:Addr}{o:Obj}
theorem AB {R:Result->BQ->Prop}(X:K.In h)(Z:ExI K C)(hx:h.get? a=some o)(hc:o.cls = .ref C)(hq:R (.ok (.ret (.ref C))) ⟨h,g,d,t,os⟩) :
  FC (Cs prog w) A (.call (.builtin "getset_descriptor.__get__") ⟨[.builtin "object.__class__",.ref a,.ref C],[]⟩) R ⟨h,g,d,t,os⟩:=by
 have hT5:(⟨h,g,d,t,os⟩:BQ).TypeIs (.builtin "object.__class__") "getset_descriptor" := GJ
 have L1:Looks (Cs prog w) h (isSubtype (.ref C) (.type (".".intercalate ("object.__class__".cutAt '.').dropLast))) true:=by rw[F.owner_object_class];exact looks_subIn X Z.mo
 refine E2 Jw.plain F.entry_gs_get (Jw.check _ _ _ _ _ _ _ _ hT5 (F.args_gs_get _ _ _) ?_)
 repeat (any_goals (first | assumption | (with_reducible refine FK hx ?_;rw[hc]) | with_reducible refine L1.at ?_ | wp_step))
 refine ⟨Gq _ (by decide +kernel),CQ F.entry_object_class ?_⟩
 unfold Builtin.«object.__class__»
 repeat (any_goals (first | assumption | (with_reducible refine FK hx ?_;rw[hc]) | wp_step))
theorem wR {tk:Tok}{Q:Fin->BQ->Prop}(X:K.In h)(Z:ExI K C)(hx:h.get? a=some o)(hc:o.cls = .ref C)(hq:Q (.done (.ret (.ref C))) ⟨h,g,d,t,os⟩) :
  Ci (Cs prog w) A (Builtin.«object.__getattribute__» ⟨[.ref a,.str "__class__" tk],[]⟩) Q E ⟨h,g,d,t,os⟩:=by
 have hT5:(⟨h,g,d,t,os⟩:BQ).TypeIs (.builtin "object.__class__") "getset_descriptor" := GJ
 have f5:=GJ
 have f6:=Jw.lookup
 have f7:=F.slot_gs_set.lookup
 have L1:=J3 (M:=Cs prog w) X Z.cl
 repeat (any_goals (first | assumption | (with_reducible refine FK hx ?_;rw[hc]) | with_reducible refine L1.at ?_ | wp_step))
 refine AB X Z hx hc ?_
 repeat (any_goals (first | assumption | wp_step))
theorem wU {M:Model}{nv:BM}{Q:Unit->BQ->Prop}(X:K.In h)(Z:ExI K C)(hx:h.get? a=some o)(hc:o.cls = .ref C)(hq:Q () ⟨h,g,d,t,os⟩):Ci M A (checkBuiltinCall "BaseException.__getattribute__" ⟨[.ref a,nv],[]⟩) Q E ⟨h,g,d,t,os⟩:=by
 have k1:builtinKind "BaseException.__getattribute__" = some .slot:=by decide +kernel
 have k2:splitId "BaseException.__getattribute__" = some ("BaseException", "__getattribute__"):=by decide +kernel
 have L1:=looks_subIn (M:=M) X Z.sb
 have k3:=F.args_bexc_ga (.ref a) nv
 simp only[checkBuiltinCall,k1,k2]
 refine BJ ?_
 unfold isInstance
 repeat (first | (with_reducible refine FK hx ?_;rw[hc]) | with_reducible refine L1.at ?_ | wp_step)
 exact hq
theorem yN {Q:Option BM->BQ->Prop}(X:K.In h)(Z:ExI K C)(hx:h.get? a=some o)(hc:o.cls = .ref C)(hq:Q (some (.ref C)) ⟨h,g,d,t+1,os⟩) :
  Ci (Cs prog w) A (getAttr? (.ref a) "__class__") Q E ⟨h,g,d,t,os⟩:=by
 have f3:=(IG).ga.bind (.ref a)
 have y2:(Value.builtin "BaseException.__getattribute__" == Value.builtin "object.__getattribute__")=false:=by decide +kernel
 have y1:(onTheHeap (Cd C) && Value.builtin "BaseException.__getattribute__" == Value.builtin "object.__getattribute__")=false:=by rw[y2];rfl
 have L1:=J3 (M:=Cs prog w) X Z.ga
 have L2:=J3 (M:=Cs prog w) X Z.gt
 unfold getAttr? getAttrBy?
 repeat (any_goals (first | assumption | (with_reducible refine FK hx ?_;rw[hc]) | with_reducible refine L1.at ?_ | with_reducible refine L2.at ?_ | wp_step))
 refine E2 (IG).ga.plain F.entry_bexc_ga (wU X Z hx hc (wR X Z hx hc ?_))
 repeat (any_goals (first | assumption | wp_step))
end
open PySem PySem.Spec PySem.W PyProof.Rows
theorem qg {K:BP}{a C:Addr}(Z:ExI K C):KitX K (.ref a) (.ref C) (λh=>∃o,h.get? a=some o/\o.cls = .ref C) where
 ty:=λM h _ p=>by
  obtain ⟨o,h1,h2⟩:=p
  exact h2 ▸ (Looks.ld h1).andThen .now
 it:=λ_ _ X _=>by
  have z:=Z.it
  unfold clsIn at z
  split at z
  ·rename_i c' d' cd' sl' ho
   intro A' Q' E' s' k q
   unfold isType loadHead
   exact BJ (wpAny_loadPart (k _ _ (X _ _ ho)) (BN q))
  ·cases z
 ne:=λh tp dd its n sl X htp=>by
  have z:=Z.it
  refine E4.mpr λq =>?_
  have e:C=tp:=Value.ref.inj (beq_iff_eq.mp q)
  subst e
  unfold clsIn at z
  split at z
  ·rename_i c' d' cd' sl' ho
   have y:=(X _ _ ho).symm.trans htp
   cases y
  ·cases z
 ca:=λ{_ _ _ _ _ s} X p k=>by
  obtain ⟨h,g,d,t,os⟩:=s
  obtain ⟨o,h1,h2⟩:=p
  exact yN X Z h1 h2 k
def yO:V->BM
 | .ref a =>.ref a
 | .ty n =>.type n
 | _ =>.none
def qh:V->Bool
 | .ref _=>true
 | .ty _=>true
 | _=>false
theorem tE {x:V}{u:BM}(h:qh x=true)(r:RelV x u):u=yO x:=by
 cases x <;> first | exact r | cases h
section
variable  {X:Cx}
theorem qi {K:BP}(hK:X.K=K:=by rfl):bC X (.builtin "isinstance") (λxs H Q=>∃(ea C:Addr) (c:V) (b:Bool),xs=[.ref ea,c]/\H ea=some (ou ea (.ref C))/\ExI K C/\qh c=true/\kitOne K (.ref C) (yO c)=some b/\Q (.bl b) H):=by
 subst hK
 intro pins s σ H xs us Q I r h
 obtain ⟨ea,C,c,b,rfl,he,Z,hc,hk,q⟩:=h
 cases r with | cons r1 r2 =>
 cases r2 with | cons r2 r3 =>
 cases r3
 obtain rfl:=tE hc r2
 have r1:_=Cd ea:=r1
 subst r1
 obtain ⟨p,_⟩:=I.hok ea _ he
 exact kia_one (qg Z) I.kIn p hk (by intro z;cases z) λtk=>⟨.bl b,H,I.tok tk,rfl,q⟩
theorem qj:∀{cs:List V} {us:List BM},(∀c∈cs,qh c=true)->Vals cs us->us=cs.map yO
 | _,_,_,.nil=>rfl
 | _,_,h,.cons r t=>by rw[CC, <- tE (h _ Ck) r, <- qj (λc hc=>h c (Cf _ hc)) t]
theorem vh {K:BP}(hK:X.K=K:=by rfl):bC X (.builtin "isinstance") (λxs H Q=>∃(ea C tp:Addr) (cs:List V) (b:Bool),xs=[.ref ea,.ref tp]/\H ea=some (ou ea (.ref C))/\ExI K C/\H tp=some (.tup cs)/\(∀c∈cs,qh c=true)/\kitAny K (.ref C) (cs.map yO)=some b/\Q (.bl b) H):=by
 subst hK
 intro pins s σ H xs us Q I r h
 obtain ⟨ea,C,tp,cs,b,rfl,he,Z,ht,hc,hk,q⟩:=h
 cases r with | cons r1 r2 =>
 cases r2 with | cons r2 r3 =>
 cases r3
 have r2:_=Cd tp:=r2
 subst r2
 have r1:_=Cd ea:=r1
 subst r1
 obtain ⟨p,_⟩:=I.hok ea _ he
 obtain ⟨_,its,rt,o,ho,⟨hcl,hd⟩,n,hn⟩:=I.hok tp _ ht
 have e:=qj hc rt
 subst e
 obtain ⟨oc,od,odt,osl⟩:=o
 simp only at hcl hd hn
 subst hcl hd hn
 exact kia_tup (qg Z) I.kIn p ho hk (by intro z;cases z) λtk=>⟨.bl b,H,I.tok tk,rfl,q⟩
end
open PySem PySem.Spec PyProof.Rows
def b7 (K:BP)(x:Str)(st:Stmt):Prop:=∃(f:Addr) (od an:Option Addr) (sl:Array (Option BM)) (oc kV dc pm cd ct:BM),CZ K Cz x=some (some (.ref f))/\K.lookup f=some ⟨oc,od,.func (PySem.W.fnOf x x (dA st) (bS st) (aA st) .none kV dc pm an cd ct),sl⟩/\PySem.W.codeIn K cd x=true/\PySem.W.keepIn K (.ref f)=true
theorem b7.mk {K:BP}{x:Str}{st:Stmt}{f:Addr}{od an:Option Addr}{sl:Array (Option BM)}{oc kV dc pm cd ct:BM}(a:CZ K Cz x=some (some (.ref f)))(l:K.lookup f=some ⟨oc,od,.func (PySem.W.fnOf x x (dA st) (bS st) (aA st) .none kV dc pm an cd ct),sl⟩)(c:PySem.W.codeIn K cd x=true)(k:PySem.W.keepIn K (.ref f)=true):b7 K x st:=⟨_,_,_,_,_,_,_,_,_,_,a,l,c,k⟩
theorem b7.cal {K:BP}{x:Str}{st:Stmt}(hf:b7 K x st)(P:Ca)(w:CJ)(base:Heap){h:Heap}{mg:Str->Option BM}(X:K.In h)(G:h.Ns Cz mg){lv:Nat}{ps:List Str}{sp:Sp}(ok:∀{f:Addr} {fd:De},Fun K x x st f fd->bM P w K mg base CX0 lv f fd ps sp)
  (hb:∀(kV doc pm:BM) (an:Option Addr) (cdv ct:BM) (us:List BM),us.length=ps.length->bindArgs (PySem.W.fnOf x x (dA st) (bS st) (aA st) .none kV doc pm an cdv ct) ⟨us,[]⟩=pure (ps.zip us)):Cal P w K mg base lv x ps sp:=by
 obtain ⟨f,od,an,sl,oc,kV,dc,pm,cd,ct,a,l,c,k⟩:=hf
 have F:=qY l c k
 exact ⟨_,_,ok F,DP X G a,k,F.binds hb⟩
open PySem PySem.Spec PyProof.Rows
theorem b7.calX {K:BP}{x:Str}{st:Stmt}(hf:b7 K x st)(P:Ca)(w:CJ)(base:Heap){h:Heap}{mg:Str->Option BM}(X:K.In h)(G:h.Ns Cz mg){lv:Nat}{ps:List Str}{sp:Sp}(ok:∀{f:Addr} {fd:De},Fun K x x st f fd->bM P w K mg base (CX1 P w) lv f fd ps sp)
  (hb:∀(kV doc pm:BM) (an:Option Addr) (cdv ct:BM) (us:List BM),us.length=ps.length->bindArgs (PySem.W.fnOf x x (dA st) (bS st) (aA st) .none kV doc pm an cdv ct) ⟨us,[]⟩=pure (ps.zip us)):vg P w K mg base lv x ps sp:=by
 obtain ⟨f,od,an,sl,oc,kV,dc,pm,cd,ct,a,l,c,k⟩:=hf
 have F:=qY l c k
 exact ⟨_,_,ok F,DP X G a,k,F.binds hb⟩
end L2
set_option maxHeartbeats 800000
namespace K15
open PySem L2
def top (i:Nat):Stmt:=PySem.Challenge.pw_ringfell_k15_thinned.main.body.getD i (.Pass ⟨0,0,0,0⟩)
abbrev wV:Stmt:=top 14
abbrev kK:Stmt:=top 15
abbrev kM:Stmt:=top 16
abbrev tF:Stmt:=top 17
abbrev iz:Stmt:=top 18
abbrev gI:Stmt:=top 19
abbrev kN:Stmt:=top 20
abbrev iV:Stmt:=top 22
abbrev eI:Stmt:=top 23
abbrev gN:Stmt:=top 24
abbrev fQ:Stmt:=top 25
abbrev fR:Stmt:=top 26
abbrev ow:Stmt:=top 27
abbrev gO:Stmt:=top 29
abbrev d9:Stmt:=top 30
abbrev kO:Stmt:=top 31
abbrev fS:Stmt:=top 32
abbrev wW:Stmt:=top 34
abbrev wX:Stmt:=top 35
abbrev zu:Stmt:=top 36
abbrev wY:Stmt:=top 37
abbrev tG:Stmt:=top 38
abbrev kP:Stmt:=top 39
abbrev ox:Stmt:=top 40
abbrev kQ:Stmt:=top 41
abbrev rW:Stmt:=top 42
abbrev kR:Stmt:=top 43
abbrev wZ:Stmt:=top 44
abbrev rX:Stmt:=top 45
abbrev kS:Stmt:=top 46
abbrev iW:Stmt:=top 47
abbrev fT:Stmt:=top 48
abbrev qk:Stmt:=top 49
structure Blt (mg:Str->Option BM):Prop where
 b_all:mg "all" = none
 b_bool:mg "bool" = none
 b_divmod:mg "divmod" = none
 b_int:mg "int" = none
 b_isinstance:mg "isinstance" = none
 b_len:mg "len" = none
 b_list:mg "list" = none
 b_max:mg "max" = none
 b_min:mg "min" = none
 b_range:mg "range" = none
 b_reversed:mg "reversed" = none
 b_set:mg "set" = none
 b_sorted:mg "sorted" = none
 b_tuple:mg "tuple" = none
 b_ValueError:mg "ValueError" = none
theorem rY:Dn "all" = some (.builtin "all"):=by decide +kernel
theorem yP:Dn "bool" = some (.type "bool"):=by decide +kernel
theorem aP:Dn "divmod" = some (.builtin "divmod"):=by decide +kernel
theorem oy:Dn "int" = some (.type "int"):=by decide +kernel
theorem bI:Dn "isinstance" = some (.builtin "isinstance"):=by decide +kernel
theorem fU:Dn "len" = some (.builtin "len"):=by decide +kernel
theorem jD:Dn "list" = some (.type "list"):=by decide +kernel
theorem iX:Dn "max" = some (.builtin "max"):=by decide +kernel
theorem fk:Dn "min" = some (.builtin "min"):=by decide +kernel
theorem ql:Dn "range" = some (.type "range"):=by decide +kernel
theorem rZ:Dn "set" = some (.type "set"):=by decide +kernel
theorem cI:Dn "sorted" = some (.builtin "sorted"):=by decide +kernel
theorem cA:Dn "tuple" = some (.type "tuple"):=by decide +kernel
theorem lT:Dn "ValueError" = some (.type "ValueError"):=by decide +kernel
theorem hu8 {A:Dd}{k:Nat}(hr:cW k A):A.units+8<cLine:=Gn (FZ (by decide:8<=64) _) hr.units
abbrev zv:Stmt:=wW
abbrev zw:Stmt:=wX
abbrev qm:Stmt:=zu
abbrev w4:Stmt:=wY
abbrev w5:Stmt:=tG
abbrev w6:Stmt:=kK
abbrev By:Stmt:=tF
abbrev Bz:Stmt:=wV
abbrev w9:Stmt:=kM
abbrev xc:Stmt:=iz
abbrev zx:Stmt:=gI
abbrev xf:Stmt:=kN
structure Wb (H:Hp)(r:Addr)(m:Int)(ts:List (Addr×List Int)):Prop where
 at':∃t,H r=some (.tup [.int m,.ref t])/\H t=some (.tup (ts.map λu =>.ref u.1))
 tup:∀u∈ts,H u.1=some (.tup (u.2.map V.int))
 pr:∀u∈ts,∃a b:Int,u.2=[a,b]/\0<=a/\a<=b/\b<m
 len:ts.length<=200
theorem Wb.tp {H H':Hp}{r:Addr}{m:Int}{ts:List (Addr×List Int)}(h:Wb H r m ts)(t:Tp H H'):Wb H' r m ts :=
 let ⟨p,e1,e2⟩:=h.at'
 ⟨⟨p,t _ _ e1,t _ _ e2⟩,λu hu=>t _ _ (h.tup u hu),h.pr,h.len⟩
theorem Wb.same {H H':Hp}{r:Addr}{m:Int}{ts:List (Addr×List Int)}(h:Wb H r m ts)(s:aD H H'):Wb H' r m ts:=h.tp s.tp
theorem item {ts:List (Addr×List Int)}{i:Nat}{x:V}(e:(ts.map λt:Addr×List Int=>V.ref t.1)[i]? = some x):∃u,ts[i]? = some u/\x = .ref u.1:=by
 rw[B7] at e
 cases z:ts[i]? with
 | none=>rw[z] at e;cases e
 | some tt=>rw[z] at e;exact ⟨tt,rfl,(Cw e).symm⟩
theorem zy {ts:List (Addr×Int×Int)}{i:Nat}{x:V}(e:(ts.map λt:Addr×Int×Int=>V.ref t.1)[i]? = some x):∃u,ts[i]? = some u/\x = .ref u.1:=by
 rw[B7] at e
 cases z:ts[i]? with
 | none=>rw[z] at e;cases e
 | some tt=>rw[z] at e;exact ⟨tt,rfl,(Cw e).symm⟩
theorem take_snoc {α β:Type}{f:α -> β}{l:List α}{i:Nat}{x:α}(e:l[i]? = some x):(l.take (i+1)).map f=(l.take i).map f++[f x]:=by
 rw[Dp,e,B5];rfl
structure bZ (H:Hp)(l:Addr)(many:Int)(ts:List (Addr×Int×Int)):Prop where
 at':H l=some (.lst (ts.map λt =>.ref t.1))
 tup:∀t∈ts,H t.1=some (.tup [.int t.2.1,.int t.2.2])
 bnd:∀t∈ts,0<=t.2.1/\t.2.1<many/\0<=t.2.2/\t.2.2<many
theorem bZ.same {H H':Hp}{l:Addr}{many:Int}{ts:List (Addr×Int×Int)}(h:bZ H l many ts)(s:aD H H'):bZ H' l many ts:=⟨s _ _ h.at',λt m=>s _ _ (h.tup t m),h.bnd⟩
theorem bZ.put {H H':Hp}{l:Addr}{many:Int}{ts us:List (Addr×Int×Int)}(h:bZ H' l many ts)(tu:∀t∈us,H' t.1=some (.tup [.int t.2.1,.int t.2.2]))(b:∀t∈us,0<=t.2.1/\t.2.1<many/\0<=t.2.2/\t.2.2<many) :
  bZ (upd H' l (.lst (us.map λt =>.ref t.1))) l many us:=by
 refine ⟨ah,λt ht =>?_,b⟩
 rw[aE (jb (tu t ht) h.at' (by intro z;cases z))]
 exact tu t ht
theorem aD.cE {H H':Hp}{l:Addr}(s:aD H H')(hl:H l=none)(o:HO):aD H (upd H' l o):=λb u e=>by
 rw[aE (aB e hl)];exact s _ _ e
def key (t:Addr×Int×Int):List Int:=nrm t.2.1 t.2.2
def qo (H:Hp)(ys:List V)(us:List (Addr×List Int)):Prop:=ys=us.map (λu =>.ref u.1)/\∀u∈us,H u.1=some (.tup (u.2.map V.int))
theorem qo.add {H:Hp}{ys:List V}{us:List (Addr×List Int)}(h:qo H ys us){t:Addr}(ht:H t=none)(ns:List Int):qo (upd H t (.tup (ns.map V.int))) (ys++[.ref t]) (us++[(t,ns)]):=by
 refine ⟨by rw[h.1,B5];rfl,λu hu =>?_⟩
 rcases B0.mp hu with z | z
 ·rw[aE (aB (h.2 u z) ht)]
  exact h.2 u z
 ·have e:u=(t,ns):=by simpa using z
  rw[e]
  exact ah
theorem qo.same {H H':Hp}{ys:List V}{us:List (Addr×List Int)}(h:qo H ys us)(s:aD H H'):qo H' ys us:=⟨h.1,λu hu=>s _ _ (h.2 u hu)⟩
theorem xg {a b m:Int}(h:0<=a/\a<m/\0<=b/\b<m):∃x y:Int,nrm a b=[x,y]/\0<=x/\x<=y/\y<m:=by
 refine ⟨mnI a b,mxI a b,rfl,?_,?_,?_⟩ <;> (try unfold mnI) <;> (try unfold mxI) <;> (repeat' split) <;> lia
theorem dmN {n j:Int}(h:0<=n)(hj:0<j):0<=n/j/\0<=n%j/\n%j<j:=⟨Kq h (by lia),EM _ (by lia),EA _ hj⟩
@[irreducible] def oz (K:BP):Sp:=λvs H Q _=>∃(a:Addr) (ns:List Int) (k:Int),vs=[.ref a,.int k]/\SqL K H a (ns.map V.int)/\0<=k/\∀c:Int,Q (.int c) H
theorem gP {K:BP}{vs:List V}{H:Hp}{Q:VK}{E:XK}:oz K vs H Q E↔∃(a:Addr) (ns:List Int) (k:Int),vs=[.ref a,.int k]/\SqL K H a (ns.map V.int)/\0<=k/\∀c:Int,Q (.int c) H:=by
 delta oz
 exact Eg
abbrev tH:Sp:=λvs H Q _=>∃c s:Int,vs=[.int c,.int s]/\0<=s/\s<=1000/\∀n:Int,0<=n->Q (.int n) H
@[irreducible] def oB:Sp:=tH
theorem fq {vs:List V}{H:Hp}{Q:VK}{E:XK}:oB vs H Q E↔tH vs H Q E:=by
 delta oB
 exact Eg
section
variable  {P:Ca}{w:CJ}{K:BP}{mg:Str->Option BM}{base:Heap}{f:Addr}{fd:De}
theorem AD:aK ["script", "k"] ["script", "k"] (aA zv):=⟨rfl,rfl,rfl,by decide +kernel,rfl,by decide +kernel,by decide +kernel⟩
theorem AE (F:Fun K "_law_cell" "_law_cell" zv f fd)(B:Blt mg):bM P w K mg base CX0 1 f fd ["script", "k"] (oz K):=by
 refine F.ok AD (λvs H Q E h =>?_) (λcdv A outer s H vs Q E hr h =>?_)
 ·obtain ⟨c,k,k',rfl,_⟩:=gP.mp h
  rfl
 obtain ⟨a,ns,k,rfl,hS,k0,q⟩:=gP.mp h
 refine ⟨_,ai (bE (aJ sC (pv 1) (av aZ rfl B.b_len FU (aa (pv 0) ag)) (aU _)) (au (aH (aS cC (pv 0) (pv 1) (λ_ _=>rfl)))) aO)
  (au (aH ak)),?_⟩
 refine ⟨_,rfl,_,rfl,a,_,rfl,.inl hS,_,_,rfl,rfl,_,rfl,gL (λc =>?_) λ_=>q 0⟩
 have c':k<((ns.map V.int).length:Int):=of_decide_eq_true c
 rw[BK] at c'
 obtain ⟨n,rfl⟩:∃n:Nat,k=n:=⟨k.toNat,by lia⟩
 exact ⟨_,rfl,_,rfl,a,_,_,.int (ns[n]'(by lia)),rfl,rfl,hS,dz (by rw[B7,BO (by lia)];rfl),q _⟩
theorem gQ:aK ["cell", "salt", "one", "number", "j"] ["cell", "salt"] (aA zw):=⟨rfl,rfl,rfl,by decide +kernel,rfl,by decide +kernel,by decide +kernel⟩
theorem AF (F:Fun K "_law_deal" "_law_deal" zw f fd)(B:Blt mg):bM P w K mg base CX0 1 f fd ["cell", "salt"] oB:=by
 refine F.ok gQ (λvs H Q E h =>?_) (λcdv A outer s H vs Q E hr h =>?_)
 ·obtain ⟨c,k,rfl,_⟩:=fq.mp h
  rfl
 obtain ⟨c,salt,rfl,s0,s1,q⟩:=fq.mp h
 refine ⟨_,ai (bE (aJ vL (pv 0) (aQ vJ ak ak) (aU _)) (au (aH (aQ cV (pv 0) (aQ vJ ak ak)))) aO)
  (ai (aM (i:=2) gQ.nd rfl (Or.inl rfl) (aQ eV (pv 0) ak))
  (ai (aM (i:=3) gQ.nd rfl (Or.inl rfl) ak)
  (ai (bP CL rfl (bJ rfl B.b_range (aa ak ag)) (aq (i:=4) gQ.nd rfl (Or.inl rfl))
   (ai (aM (i:=2) gQ.nd rfl (Or.inl rfl) (aQ eV (aQ eU (aQ cD (aQ cD (aQ cD (pv 2) (aQ eU (aQ eU ak (pv 4)) (pv 4))) (aQ eU ak (pv 1))) ak) ak) ak))
   (ai (aM (i:=2) gQ.nd rfl (Or.inl rfl) (aQ eV (aQ eU (pv 2) (pv 2)) ak))
   (au (aM (i:=3) gQ.nd rfl (Or.inl rfl) (aQ cD (aQ eU (pv 3) ak) (aQ xT (aQ eV (aQ eU (pv 2) ak) ak) ak)))))))
  (au (aH (pv 3)))))),?_⟩
 refine ⟨_,rfl,_,_,rfl,rfl,⟨by decide,by decide,by decide⟩,_,_,rfl,rfl,_,rfl,?_⟩
 refine gL (λc1 =>?_) (λc1 =>?_)
 ·have c':(10:Int) ^ (18:Int).toNat<=c:=of_decide_eq_true c1
  exact ⟨_,rfl,_,_,rfl,rfl,⟨by decide,by decide,by decide⟩,_,_,rfl,rfl,q _ (by lia)⟩
 ·refine ⟨_,rfl,_,_,rfl,rfl,(by show (0:Int)<_;decide),_,rfl,by decide,by decide,bK (λk σ H'=>(∃(o g:Int) (lv:Option V),0<=g/\σ=[some (.int c),some (.int salt),some (.int o),some (.int g),lv])/\H'=H) ⟨⟨_,0,none,by decide,rfl⟩,rfl⟩ ?_ ?_⟩
  ·rintro k σ H' hk ⟨⟨o,g,lv,hg,rfl⟩,rfl⟩
   have hk':k<24:=hk
   refine ⟨_,rfl,_,rfl,_,_,rfl,rfl,.inl ⟨by decide,by decide⟩,_,rfl,_,_,rfl,rfl,.inl ⟨by lia,by lia⟩,_,_,rfl,rfl,_,rfl,_,_,rfl,rfl,.inl ⟨by decide,by decide⟩,_,_,rfl,rfl,_,_,rfl,rfl,_,_,rfl,rfl,.inr ⟨by decide,by decide⟩,_,_,rfl,rfl,(by show (0:Int)<_;decide),?_⟩
   generalize ((o+15*(0+(k:Int))*(0+(k:Int))+31*salt+11)*48271)=z1
   have b1:=EM z1 (b:=2147483647) (by decide)
   have b2:=EA z1 (b:=2147483647) (by decide)
   refine ⟨_,rfl,_,rfl,_,_,rfl,rfl,.inl ⟨by lia,by lia⟩,_,_,rfl,rfl,(by show (0:Int)<_;decide),?_⟩
   refine ⟨_,rfl,_,_,rfl,rfl,.inr ⟨by decide,by decide⟩,_,rfl,_,_,rfl,rfl,.inr ⟨by decide,by decide⟩,_,_,rfl,rfl,(by show (0:Int)<_;decide),_,_,rfl,rfl,⟨by decide,by decide⟩,_,_,rfl,rfl,⟨_,_,_,?_,rfl⟩,rfl⟩
   generalize (z1%2147483647*(z1%2147483647)%2147483629*69621)=z2
   have a1:0<=g*998244353:=Int.mul_nonneg hg (by decide)
   have a2:0<=z2%2147483587/7:=Kq (EM z2 (by decide)) (by decide)
   lia
  ·rintro σ H' ⟨⟨o,g,lv,hg,rfl⟩,rfl⟩
   exact ⟨_,rfl,q g hg⟩
end
open PySem L2
theorem eJ {X:Cx}{body:List Stmt}{D0:Ends}{σ0:St}{H0:Hp}(sts:List Stmt)(M:St->Hp->Prop)(h:∃t2,PSs X sts t2/\∀σ H,M σ H->t2 D0 σ H)
  (g:∀t2,PSs X sts t2->(∀σ H,M σ H->t2 D0 σ H)->∃t,PSs X body t/\t D0 σ0 H0):∃t,PSs X body t/\t D0 σ0 H0:=by
 obtain ⟨t2,p2,m2⟩:=h
 exact g t2 p2 m2
def T3 (H:Hp)(ys:List V)(us:List (Addr×Int×Int)):Prop:=ys=us.map (λu =>.ref u.1)/\∀u∈us,H u.1=some (.tup [.int u.2.1,.int u.2.2])
theorem T3.add {H:Hp}{ys:List V}{us:List (Addr×Int×Int)}(h:T3 H ys us){t:Addr}(ht:H t=none)(a b:Int):T3 (upd H t (.tup [.int a,.int b])) (ys++[.ref t]) (us++[(t,a,b)]):=by
 refine ⟨by rw[h.1,B5];rfl,λu hu =>?_⟩
 rcases B0.mp hu with z | z
 ·rw[aE (aB (h.2 u z) ht)]
  exact h.2 u z
 ·have e:u=(t,a,b):=by simpa using z
  rw[e]
  exact ah
theorem T3.AG {H:Hp}{ys:List V}{us:List (Addr×Int×Int)}{m:Int}(h:T3 H ys us){l:Addr}(hl:H l=none)(b:∀t∈us,0<=t.2.1/\t.2.1<m/\0<=t.2.2/\t.2.2<m):bZ (upd H l (.lst ys)) l m us:=by
 refine ⟨by rw[ah,h.1],λu hu =>?_,b⟩
 rw[aE (aB (h.2 u hu) hl)]
 exact h.2 u hu
theorem eK {m a b:Int}{t:Addr}{us:List (Addr×Int×Int)}(h:∀t∈us,0<=t.2.1/\t.2.1<m/\0<=t.2.2/\t.2.2<m)(hab:0<=a/\a<m/\0<=b/\b<m):∀x∈us++[(t,a,b)],0<=x.2.1/\x.2.1<m/\0<=x.2.2/\x.2.2<m:=λx hx=>by
 rcases B0.mp hx with z | z
 ·exact h x z
 ·rw[BU] at z;subst z;exact hab
theorem bZ.push {H0 H:Hp}{l:Addr}{m:Int}{ts:List (Addr×Int×Int)}(h:bZ H l m ts){t:Addr}(ht:H t=none){a b:Int}(hab:0<=a/\a<m/\0<=b/\b<m) :
  bZ (upd (upd H t (.tup [.int a,.int b])) l (.lst ((ts.map λt =>.ref t.1)++[.ref t]))) l m (ts++[(t,a,b)]):=by
 have nt:∀{c:Addr} {xs:List V},H c=some (.tup xs)->c≠l:=λe=>jb e h.at' (by intro z;cases z)
 have ntl:t≠l:=Dq (aB h.at' ht)
 refine ⟨by rw[ah,B5];rfl,λu hu =>?_,eK h.bnd hab⟩
 rcases B0.mp hu with z | z
 ·rw[aE (nt (h.tup u z)),aE (aB (h.tup u z) ht)];exact h.tup u z
 ·rw[BU] at z;subst z
  rw[aE ntl];exact ah
theorem tI {α:Type}(x:α):∀k:Nat,(CG k [x]).flatten=CG k x
 | 0=>rfl
 | k+1=>by rw[Ej,Ek,tI x k,Ej];rfl
abbrev tJ:Sp:=λvs H Q _=>∃n most:Int,vs=[.int n,.int most]/\0<=n/\0<=most/\most<=30/\∀(p b:Addr) (n' m:Int) (ts:List (Addr×List Int)) (H':Hp),aD H H'->H' p=some (.tup [.ref b,.int n'])->Wb H' b m ts->0<=m->m<=most->0<=n'->Q (.ref p) H'
@[irreducible] def oD:Sp:=tJ
theorem gR {vs:List V}{H:Hp}{Q:VK}{E:XK}:oD vs H Q E↔tJ vs H Q E:=by
 delta oD
 exact Eg
def MT (H:Hp)(most:Int)(k:Nat)(σ:St)(H':Hp):Prop:=∃(n m wy c t:Int) (l:Addr) (ts:List (Addr×Int×Int)) (c7 c8 c9 c10 c11:Option V),
 σ=[some (.int n),some (.int most),some (.int m),some (.int wy),some (.int c),some (.int t),some (.ref l),c7,c8,c9,c10,c11]/\0<=n/\0<=m/\m<=most/\0<=c/\c<=60/\aD H H'/\H l=none/\bZ H' l m ts/\ts.length<=k
section
variable  {P:Ca}{w:CJ}{K:BP}{mg:Str->Option BM}{base:Heap}{f:Addr}{fd:De}
theorem ndPM:(["place", "many"]:List Str).Nodup:=by decide +kernel
theorem zz:(["one", "other", "many"]:List Str).Nodup:=by decide +kernel
theorem ndP:(["pair"]:List Str).Nodup:=by decide +kernel
theorem bH:aK ["number", "most", "many", "way", "count", "turn", "ties", "place", "other", "k", "one", "again"] ["number", "most"] (aA qm):=⟨rfl,rfl,rfl,by decide +kernel,rfl,by decide +kernel,by decide +kernel⟩
theorem AH (F:Fun K "_law_web" "_law_web" qm f fd)(B:Blt mg):bM P w K mg base CX0 1 f fd ["number", "most"] oD:=by
 refine F.ok bH (λvs H Q E h =>?_) (λcdv A outer s H vs Q E hr h =>?_)
 ·obtain ⟨c,k,rfl,_⟩:=gR.mp h
  rfl
 obtain ⟨n,most,rfl,n0,h0,h1,q⟩:=gR.mp h
 refine eJ ((bS qm).drop 9) (MT H most 200) ?hT λtT pT mT =>?gT
 case hT =>
  refine ⟨_,au (aH (bp (aa (bp (aa (pv 2) (aa (aG aR rfl B.b_tuple Ep (aa (av fc rfl B.b_sorted cI (aa
   (bG ["pair"] [none] rfl (bO (pv 6)) rfl (λ_ _ _ _ _=>aq (i:=0) ndP rfl (Or.inl rfl)) (λ_ _ _ _ _=>cu)
    (λ_ _ _ _ _=>bp (aa (av (mR (K:=K) rfl) rfl B.b_min fk (aa (pv 0) ag)) (aa (av (mW (K:=K) rfl) rfl B.b_max iX (aa (pv 0) ag)) ag)))) ag)) ag)) ag))) (aa (pv 0) ag)))),?_⟩
  rintro σ H8 ⟨n,m,wy,c,t,l,ts,c7,c8,c9,c10,c11,rfl,n0,m0,m1,_,_,s8,hl,tA,lt⟩
  refine ⟨_,rfl,_,rfl,l,rfl,⟨_,SqL.of tA.at'⟩,bV (xs:=ts.map λt =>.ref t.1) (λi ys H'=>aD H8 H'/\∃us,qo H' ys us/\us.map (·.2)=(ts.take i).map key) ⟨aD.refl _,[],⟨rfl,λu hu=>by cases hu⟩,rfl⟩ (by rw[BK];exact small (by lia)) (λi ys H'' _ z=>SqL.of (z.1 _ _ tA.at')) ?_ ?_⟩
  ·rintro i x ys H' hx hy ⟨s',us,tu,eu⟩ R1 R0 r1 r0
   obtain ⟨tt,ht,rfl⟩:=zy hx
   have e2:=s' _ _ (tA.tup tt (BV ht))
   refine bQ ⟨_,rfl,_,_,_,rfl,SqT.of e2,_,rfl,_,_,_,rfl,SqT.of e2,(by show 2<=B4;decide),λtn htn=>r1 _ _ ⟨s'.trans (af htn _),us++[(tn,key tt)],tu.add htn _,?_⟩⟩
   rw[B5,eu,Dp,ht,B5]
   rfl
  rintro ys H9 hy ⟨s9,us,tu,eu⟩ L hL
  have eu':us.map (·.2)=ts.map key:=by rw[eu,BK,B9 (BS _)]
  have s10:=s9.trans (af hL (.lst ys))
  have tu10:=tu.same (af hL (.lst ys))
  have ey:=tu.1
  have keys:∀u∈us,∃x y:Int,u.2=[x,y]/\0<=x/\x<=y/\y<m:=λu hu=>by
   have:u.2∈ts.map key:=by rw[<- eu'];exact Dw hu
   obtain ⟨t,ht,e⟩:=Cv.mp this
   rw[<- e]
   exact xg (tA.bnd t ht)
  have nn:∀u∈us,u.2≠[]:=λu hu z=>by
   obtain ⟨a,b,e,_⟩:=keys u hu
   rw[z] at e
   cases e
  refine ⟨L,us,rfl,.inl (SqL.of (by rw[ah,ey])),λu hu=>⟨SqT.of (tu10.2 u hu),nn u hu⟩,λL2 out hL2 po ps =>?_⟩
  have s11:=s10.trans (af hL2 (.lst (out.map λt =>.ref t.1)))
  have tu11:=tu10.same (af hL2 (.lst (out.map λt =>.ref t.1)))
  refine ⟨L2,_,rfl,.inl ⟨SqL.of ah,λl3 hl3 =>?_⟩⟩
  have s12:=s11.trans (af hl3 (.tup (out.map λt =>.ref t.1)))
  have tu12:=tu11.same (af hl3 (.tup (out.map λt =>.ref t.1)))
  refine ⟨(by show 2<=B4;decide),λb hb=>⟨_,rfl,(by show 2<=B4;decide),λp hp =>?_⟩⟩
  have sb:=af hb (.tup [.int m,.ref l3])
  have sp:=af hp (.tup [.ref b,.int n])
  have lu:us.length=ts.length:=by have:=congrArg List.length eu';rwa [BK,BK] at this
  refine q p b n m out _ (s8.trans (s12.trans (sb.trans sp))) ah ⟨⟨l3,sp _ _ ah,sp _ _ (sb _ _ ah)⟩,λu hu=>sp _ _ (sb _ _ (tu12.2 u (po.mem_iff.mp hu))),λu hu=>keys u (po.mem_iff.mp hu),?_⟩ m0 m1 n0
  rw[po.length_eq];lia
 refine eJ ((bS qm).drop 7) (MT H most 30) ?hU λtU pU mU =>?gU
 case hU =>
  refine ⟨_,ai (bP CL rfl (bJ rfl B.b_range (aa (aQ eU (pv 4) (aG iM rfl B.b_int oy (aa (gm zi (pv 2) ak (aU _)) ag))) ag)) (aq (i:=9) bH.nd rfl (Or.inl rfl))
    (ai (bD (av aF rfl B.b_divmod aP (aa (pv 0) (aa (pv 2) ag))) (bo rfl (az (aq (i:=0) bH.nd rfl (Or.inl rfl)) (az (aq (i:=10) bH.nd rfl (Or.inl rfl)) aT))))
    (ai (bD (av aF rfl B.b_divmod aP (aa (pv 0) (aa (pv 2) ag))) (bo rfl (az (aq (i:=0) bH.nd rfl (Or.inl rfl)) (az (aq (i:=8) bH.nd rfl (Or.inl rfl)) aT))))
    (ai (bD (av aF rfl B.b_divmod aP (aa (pv 0) (aa ak ag))) (bo rfl (az (aq (i:=0) bH.nd rfl (Or.inl rfl)) (az (aq (i:=11) bH.nd rfl (Or.inl rfl)) aT))))
    (au (bN (cS Cr Gb Gd iN (pv 6) (aa (aQ z7 (bY (aa (bp (aa (pv 10) (aa (pv 8) ag))) ag)) (aQ cD ak (aG iM rfl B.b_int oy (aa (gm du (pv 11) ak (aU _)) ag)))) ag))))))))
   (ai (bE (aJ du (pv 5) ak (aU _)) (au (eY (i:=6) ["one", "other", "many"] [none,none,some 2] rfl bH.nd rfl rfl (bO (pv 6)) rfl (λ_ _ _ _ _=>pE (K:=K) (i:=0) (j:=1) zz rfl rfl (Or.inl rfl) (Or.inl rfl)) (λ_ _ _ _ _=>cu)
     (λ_ _ _ _ _=>bp (aa (aQ cV (aQ cV (pv 2) ak) (pv 0)) (aa (aQ cV (aQ cV (pv 2) ak) (pv 1)) ag))))) aO) pT),?_⟩
  rintro σ H2 ⟨n,m,wy,c,t,l,ts,c7,c8,c9,c10,c11,rfl,n0,m0,m1,cc0,cc1,s2,hl,tA,lt⟩
  have hN:∃N:Int,c*(if decide (0<m)=true then 1 else 0)=N/\0<=N/\N<=c/\(0<N->0<m):=by
   by_cases h:0<m
   ·exact ⟨c,by rw[if_pos (decide_eq_true h)];lia,cc0,by lia,λ_=>h⟩
   ·exact ⟨0,by rw[if_neg (by simpa using h)];lia,by lia,by lia,λz=>by lia⟩
  obtain ⟨N,eN,N0,N1,Nm⟩:=hN
  refine ⟨_,rfl,_,rfl,_,_,rfl,rfl,.inr ⟨_,rfl,_,_,rfl,rfl,.inl ⟨by lia,by lia⟩,N,by rw[<- eN],by lia,by lia,?_⟩⟩
  let W0:Nat->St->Hp->Prop:=λi σ H'=>(∃(n:Int) (c8 c9 c10 c11:Option V),0<=n/\σ=[some (.int n),some (.int most),some (.int m),some (.int wy),some (.int c),some (.int t),some (.ref l),c7,c8,c9,c10,c11])/\aD H H'/\∃ts,bZ H' l m ts/\ts.length<=30+2*i
  refine bK W0 ⟨⟨_,_,_,_,_,n0,rfl⟩,s2,ts,tA,by lia⟩ ?_ ?_
  ·rintro i σ H3 hi ⟨⟨n,c8,c9,c10,c11,n0,rfl⟩,s3,ts,tA,lt⟩
   have hi':(i:Int)<N:=by lia
   have mp:0<m:=Nm (by lia)
   obtain ⟨q0,x0,x1⟩:=dmN n0 mp
   refine ⟨_,rfl,_,rfl,n,m,rfl,⟨mp,by lia⟩,λp hp=>⟨p,_,rfl,SqT.of ah,rfl,_,_,rfl,_,_,rfl,rfl,?_⟩⟩
   have tA1:=tA.same (af hp (.tup [.int (n/m),.int (n%m)]))
   have s4:=s3.trans (af hp (.tup [.int (n/m),.int (n%m)]))
   generalize upd H3 p (.tup [.int (n/m),.int (n%m)])=H4 at tA1 s4
   generalize n/m=n1 at q0
   generalize n%m=x at x0 x1
   obtain ⟨q1,y0,y1⟩:=dmN q0 mp
   refine ⟨_,rfl,_,rfl,n1,m,rfl,⟨mp,by lia⟩,λp hp=>⟨p,_,rfl,SqT.of ah,rfl,_,_,rfl,_,_,rfl,rfl,?_⟩⟩
   have tA2:=tA1.same (af hp (.tup [.int (n1/m),.int (n1%m)]))
   have s5:=s4.trans (af hp (.tup [.int (n1/m),.int (n1%m)]))
   generalize upd H4 p (.tup [.int (n1/m),.int (n1%m)])=H5 at tA2 s5
   generalize n1/m=n2 at q1
   generalize n1%m=y at y0 y1
   obtain ⟨q2,z0,z1⟩:=dmN (j:=8) q1 (by decide)
   refine ⟨_,rfl,n2,8,rfl,⟨by decide,by decide⟩,λp hp=>⟨p,_,rfl,SqT.of ah,rfl,_,_,rfl,_,_,rfl,rfl,?_⟩⟩
   have tA3:=tA2.same (af hp (.tup [.int (n2/8),.int (n2%8)]))
   have s6:=s5.trans (af hp (.tup [.int (n2/8),.int (n2%8)]))
   generalize upd H5 p (.tup [.int (n2/8),.int (n2%8)])=H6 at tA3 s6
   generalize n2/8=n3 at q2
   generalize n2%8=z at z0 z1
   refine ⟨_,rfl,.inl ⟨rfl,_,SqL.of tA3.at'⟩,_,rfl,_,rfl,(by show 2<=B4;decide),λt1 ht1=>⟨(by show 1<=B4;decide),λb1 hb1 =>?_⟩⟩
   have hk:∃k:Nat,(1+(if decide (V.int z=V.int 0)=true then 1 else 0):Int)=(k:Int)/\1<=k/\k<=2:=by
    by_cases h:V.int z=V.int 0
    ·exact ⟨2,by rw[if_pos (decide_eq_true h)];rfl,by lia,by lia⟩
    ·exact ⟨1,by rw[if_neg (by simpa using h)];rfl,by lia,by lia⟩
   obtain ⟨k,ek,k1,k2⟩:=hk
   refine ⟨_,rfl,rfl,.inr ⟨_,rfl,_,_,rfl,rfl,b1,(k:Int),[.ref t1],rfl,by rw[<- ek],ah,by lia,by lia,?_,λb2 hb2 =>?_⟩⟩
   ·show 1*(k:Int).toNat<=B4
    exact small (by lia)
   have g1:=af ht1 (.tup [.int x,.int y])
   have g2:=af hb1 (.lst [.ref t1])
   have g3:=af hb2 (.lst (CG (k:Int).toNat [V.ref t1]).flatten)
   have tA6:=((tA3.same g1).same g2).same g3
   have et:upd (upd (upd H6 t1 (.tup [.int x,.int y])) b1 (.lst [.ref t1])) b2 (.lst (CG (k:Int).toNat [V.ref t1]).flatten) t1=some (.tup [.int x,.int y]):=g3 _ _ (g2 _ _ ah)
   have eb2:upd (upd (upd H6 t1 (.tup [.int x,.int y])) b1 (.lst [.ref t1])) b2 (.lst (CG (k:Int).toNat [V.ref t1]).flatten) b2=some (.lst (((CG k (t1,x,y))).map λu=>V.ref u.1)):=by
    rw[ah,EI]
    rw[tI,List.map_replicate]
   have s9:=s6.trans (g1.trans (g2.trans g3))
   generalize upd (upd (upd H6 t1 (.tup [.int x,.int y])) b1 (.lst [.ref t1])) b2 (.lst (CG (k:Int).toNat [V.ref t1]).flatten)=H9 at tA6 et eb2 s9
   refine ⟨l,b2,_,_,rfl,rfl,tA6.at',eb2,?_,⟨_,_,_,_,_,q2,rfl⟩,aD.cE s9 hl _,ts++CG k (t1,x,y),?_,?_⟩
   ·rw[BK,BK,EV];exact small (by lia)
   ·rw[<- B5]
    refine tA6.put (H:=H) (λu hu =>?_) λu hu =>?_
    ·rcases B0.mp hu with h | h
     ·exact tA6.tup u h
     ·rw[HH h];exact et
    ·rcases B0.mp hu with h | h
     ·exact tA6.bnd u h
     ·rw[HH h];exact ⟨x0,x1,y0,y1⟩
   ·rw[BR,EV];lia
  ·rintro σ H3 ⟨⟨n,c8,c9,c10,c11,n0,rfl⟩,s3,ts,tA,lt⟩
   have lt':ts.length<=150:=by lia
   refine ⟨_,rfl,rfl,_,rfl,gL (λ_ =>?_) λ_=>mT _ _ ⟨n,m,wy,c,t,l,ts,_,_,_,_,_,rfl,n0,m0,m1,cc0,cc1,s3,hl,tA,by lia⟩⟩
   have em:(ts.map λt=>(t.1,V.int t.2.1,V.int t.2.2)).map (λt=>V.ref t.1)=ts.map λt=>V.ref t.1:=by rw[GK];rfl
   refine ⟨_,rfl,l,rfl,⟨_,SqL.of tA.at'⟩,j7 (ts:=ts.map λt=>(t.1,V.int t.2.1,V.int t.2.2)) (λi ys H'=>aD H3 H'/\∃us,T3 H' ys us/\us.length=i/\∀t∈us,0<=t.2.1/\t.2.1<m/\0<=t.2.2/\t.2.2<m) (by decide) ⟨aD.refl _,[],⟨rfl,λu hu=>by cases hu⟩,rfl,λu hu=>by cases hu⟩ (by rw[BK];exact small (by lia)) ?_ ?_ ?_⟩
   ·rintro i ys H' _ ⟨s',_⟩
    rw[em]
    refine ⟨SqL.of (s' _ _ tA.at'),λt ht =>?_⟩
    obtain ⟨tt,htt,rfl⟩:=Cv.mp ht
    exact SqT.of (s' _ _ (tA.tup tt htt))
   ·rintro i t ys H' ht hy ⟨s',us,tu,lu,bu⟩ R1 R0 r1 r0
    rw[B7] at ht
    cases hi:ts[i]? with
    | none=>rw[hi] at ht;cases ht
    | some tt =>
    rw[hi] at ht
    have ht':=Cw ht
    subst ht'
    have bb:=tA.bnd tt (BV hi)
    refine bQ ⟨_,rfl,_,_,rfl,rfl,_,rfl,_,_,rfl,rfl,_,rfl,_,_,rfl,rfl,_,rfl,_,_,rfl,rfl,(by show 2<=B4;decide),λtn htn=>r1 _ _ ⟨s'.trans (af htn _),us++[(tn,m-1-tt.2.1,m-1-tt.2.2)],tu.add htn _ _,by rw[BR,lu];rfl,eK bu (by lia)⟩⟩
   ·rintro ys H9 hy ⟨s9,us,tu,lu,bu⟩ L hL
    rw[BK] at lu
    exact mT _ _ ⟨n,m,wy,c,t,L,us,_,_,_,_,_,rfl,n0,m0,m1,cc0,cc1,s3.trans (s9.trans (af hL _)),(s3.trans s9).free hL,tu.AG hL bu,by lia⟩
 refine eJ ((bS qm).drop 6) (MT H most 30) ?hV λtV pV mV =>?gV
 case hV =>
  refine ⟨_,ai (bE (aJ du (pv 3) ak (aU _)) (ai (eY (i:=6) ["place", "many"] [none,some 2] rfl bH.nd rfl rfl (bJ rfl B.b_range (aa (pv 2) ag)) rfl (λ_ _ _ _ _=>aq (i:=0) ndPM rfl (Or.inl rfl)) (λ_ _ _ _ _=>cu)
    (λ_ _ _ _ _=>bp (aa (pv 0) (aa (aQ eV (aQ cD (pv 0) ak) (pv 1)) ag))))
   (au (aM (i:=4) bH.nd rfl (Or.inl rfl) (aQ eV (pv 4) ak)))) aO) pU,?_⟩
  rintro σ H2 ⟨n,m,wy,c,t,l,ts,c7,c8,c9,c10,c11,rfl,n0,m0,m1,cc0,cc1,s2,hl,tA,lt⟩
  refine ⟨_,rfl,rfl,_,rfl,gL (λ_ =>?_) λ_=>mU _ _ ⟨n,m,wy,c,t,l,ts,_,_,_,_,_,rfl,n0,m0,m1,cc0,cc1,s2,hl,tA,lt⟩⟩
  let W1:Nat->List V->Hp->Prop:=λi ys H'=>aD H2 H'/\∃us,T3 H' ys us/\us.length=i/\∀t∈us,0<=t.2.1/\t.2.1<m/\0<=t.2.2/\t.2.2<m
  refine ⟨_,rfl,m,rfl,by lia,by lia,dW W1 ⟨aD.refl _,[],⟨rfl,λu hu=>by cases hu⟩,rfl,λu hu=>by cases hu⟩ (small (by lia)) ?_ ?_⟩
  ·rintro i ys H' hi hy ⟨s',us,tu,lu,bu⟩ R1 R0 r1 r0
   have mp:0<m:=by lia
   have b1:=EM (0+(i:Int)+1) (b:=m) (by lia)
   have b2:=EA (0+(i:Int)+1) mp
   exact bQ ⟨_,rfl,_,rfl,_,_,rfl,rfl,_,rfl,_,_,rfl,rfl,mp,(by show 2<=B4;decide),λtn htn=>r1 _ _ ⟨s'.trans (af htn _),us++[(tn,0+(i:Int),(0+(i:Int)+1)%m)],tu.add htn _ _,by rw[BR,lu];rfl,eK bu (by lia)⟩⟩
  ·rintro ys H9 hy ⟨s9,us,tu,lu,bu⟩ L hL
   have z0:=EM c (b:=5) (by decide)
   have z1:=EA c (b:=5) (by decide)
   exact ⟨_,rfl,_,_,rfl,rfl,(by show (0:Int)<5;decide),mU _ _ ⟨n,m,wy,c%5,t,L,us,_,_,_,_,_,rfl,n0,m0,m1,z0,by lia,s2.trans (s9.trans (af hL _)),(s2.trans s9).free hL,tu.AG hL bu,by lia⟩⟩
 refine ⟨_,ai (bD (av aF rfl B.b_divmod aP (aa (pv 0) (aa (aQ cD (pv 1) ak) ag))) (bo rfl (az (aq (i:=0) bH.nd rfl (Or.inl rfl)) (az (aq (i:=2) bH.nd rfl (Or.inr rfl)) aT))))
  (ai (bD (av aF rfl B.b_divmod aP (aa (pv 0) (aa ak ag))) (bo rfl (az (aq (i:=0) bH.nd rfl (Or.inl rfl)) (az (aq (i:=3) bH.nd rfl (Or.inl rfl)) aT))))
  (ai (bD (av aF rfl B.b_divmod aP (aa (pv 0) (aa (aQ cD (aQ eU ak (pv 1)) ak) ag))) (bo rfl (az (aq (i:=0) bH.nd rfl (Or.inl rfl)) (az (aq (i:=4) bH.nd rfl (Or.inl rfl)) aT))))
  (ai (bD (av aF rfl B.b_divmod aP (aa (pv 0) (aa ak ag))) (bo rfl (az (aq (i:=0) bH.nd rfl (Or.inl rfl)) (az (aq (i:=5) bH.nd rfl (Or.inl rfl)) aT))))
  (ai (aM (i:=6) bH.nd rfl (Or.inl rfl) (bY ag))
  (ai (bE (aJ sC (pv 3) ak (aU _))
   (ai (bP CL rfl (gk rfl B.b_range (aa ak (aa (pv 2) ag))) (aq (i:=7) bH.nd rfl (Or.inl rfl))
    (ai (bD (av aF rfl B.b_divmod aP (aa (pv 0) (aa (pv 7) ag))) (bo rfl (az (aq (i:=0) bH.nd rfl (Or.inl rfl)) (az (aq (i:=8) bH.nd rfl (Or.inl rfl)) aT))))
    (au (bN (cS Cr CU CV bL (pv 6) (aa (bp (aa (pv 8) (aa (pv 7) ag))) ag))))))
   (au (aM (i:=4) bH.nd rfl (Or.inl rfl) (aQ eV (pv 4) ak)))) aO) pV))))),?_⟩
 obtain ⟨q0,x0,x1⟩:=dmN n0 (show 0<most+1 by lia)
 refine ⟨_,rfl,_,rfl,_,_,rfl,rfl,n,most+1,rfl,⟨by lia,by lia⟩,λp hp=>⟨p,_,rfl,SqT.of ah,rfl,_,_,rfl,_,_,rfl,rfl,?_⟩⟩
 have s1:=af hp (.tup [.int (n/(most+1)),.int (n%(most+1))])
 generalize upd H p (.tup [.int (n/(most+1)),.int (n%(most+1))])=H1 at s1
 generalize n/(most+1)=n1 at q0
 generalize n%(most+1)=m at x0 x1
 obtain ⟨q1,y0,y1⟩:=dmN (j:=6) q0 (by decide)
 refine ⟨_,rfl,n1,6,rfl,⟨by decide,by decide⟩,λp hp=>⟨p,_,rfl,SqT.of ah,rfl,_,_,rfl,_,_,rfl,rfl,?_⟩⟩
 have s2:=s1.trans (af hp (.tup [.int (n1/6),.int (n1%6)]))
 generalize upd H1 p (.tup [.int (n1/6),.int (n1%6)])=H2 at s2
 generalize n1/6=n2 at q1
 generalize n1%6=wy at y0 y1
 obtain ⟨q2,z0,z1⟩:=dmN q1 (show 0<2*most+1 by lia)
 refine ⟨_,rfl,_,rfl,_,_,rfl,rfl,.inl ⟨by decide,by decide⟩,_,_,rfl,rfl,n2,2*most+1,rfl,⟨by lia,by lia⟩,λp hp=>⟨p,_,rfl,SqT.of ah,rfl,_,_,rfl,_,_,rfl,rfl,?_⟩⟩
 have s3:=s2.trans (af hp (.tup [.int (n2/(2*most+1)),.int (n2%(2*most+1))]))
 generalize upd H2 p (.tup [.int (n2/(2*most+1)),.int (n2%(2*most+1))])=H3 at s3
 generalize n2/(2*most+1)=n3 at q2
 generalize n2%(2*most+1)=c at z0 z1
 obtain ⟨q3,u0,u1⟩:=dmN (j:=2) q2 (by decide)
 refine ⟨_,rfl,n3,2,rfl,⟨by decide,by decide⟩,λp hp=>⟨p,_,rfl,SqT.of ah,rfl,_,_,rfl,_,_,rfl,rfl,?_⟩⟩
 have s4:=s3.trans (af hp (.tup [.int (n3/2),.int (n3%2)]))
 generalize upd H3 p (.tup [.int (n3/2),.int (n3%2)])=H4 at s4
 generalize n3/2=n4 at q3
 generalize n3%2=t at u0 u1
 refine ⟨(by show 0<=B4;decide),λl hl4 =>?_⟩
 have hl:=s4.free hl4
 have s5:=s4.trans (af hl4 (.lst []))
 have tA:bZ (upd H4 l (.lst [])) l m []:=⟨ah,λt z=>(by cases z),λt z=>(by cases z)⟩
 generalize upd H4 l (.lst [])=H5 at s5 tA
 refine ⟨_,rfl,_,_,rfl,rfl,_,rfl,gL (λ_ =>?_) λ_=>mV _ _ ⟨n4,m,wy,c,t,l,[],_,_,_,_,_,rfl,q3,x0,by lia,z0,by lia,s5,hl,tA,by simp⟩⟩
 let W2:Nat->St->Hp->Prop:=λj σ H4=>(∃(n:Int) (c7 c8:Option V),0<=n/\σ=[some (.int n),some (.int most),some (.int m),some (.int wy),some (.int c),some (.int t),some (.ref l),c7,c8,none,none,none])/\aD H H4/\∃us,bZ H4 l m us/\us.length=j
 refine ⟨_,rfl,1,_,rfl,⟨by decide,by decide,by lia,by lia⟩,bK W2 ⟨⟨_,_,_,q3,rfl⟩,s5,[],tA,rfl⟩ ?_ ?_⟩
 ·rintro j σ H6 hj ⟨⟨n,c7,c8,n0,rfl⟩,s6,us,tA6,lu⟩
  have hj':1+(j:Int)<m:=by lia
  obtain ⟨q5,v0,v1⟩:=dmN n0 (show 0<1+(j:Int) by lia)
  refine ⟨_,rfl,_,rfl,n,1+(j:Int),rfl,⟨by lia,by lia⟩,λp hp=>⟨p,_,rfl,SqT.of ah,rfl,_,_,rfl,_,_,rfl,rfl,?_⟩⟩
  have s7:=s6.trans (af hp (.tup [.int (n/(1+(j:Int))),.int (n%(1+(j:Int)))]))
  have tA7:=tA6.same (af hp (.tup [.int (n/(1+(j:Int))),.int (n%(1+(j:Int)))]))
  generalize upd H6 p (.tup [.int (n/(1+(j:Int))),.int (n%(1+(j:Int)))])=H7 at s7 tA7
  generalize n/(1+(j:Int))=n5 at q5
  generalize n%(1+(j:Int))=o at v0 v1
  refine ⟨_,rfl,.inl ⟨rfl,_,SqL.of tA7.at'⟩,_,rfl,_,rfl,(by show 2<=B4;decide),λtt htt =>?_⟩
  exact ⟨l,_,_,rfl,rfl,(af htt _) _ _ tA7.at',(by rw[BK];exact bA (by lia)),⟨_,_,_,q5,rfl⟩,aD.cE (s7.trans (af htt _)) hl _,us++[(tt,o,1+(j:Int))],tA7.push (H0:=H) htt (by lia),by rw[BR,lu];rfl⟩
 ·rintro σ H6 ⟨⟨n,c7,c8,n0,rfl⟩,s6,us,tA6,lu⟩
  have w0:=EM c (b:=4) (by decide)
  have w1:=EA c (b:=4) (by decide)
  exact ⟨_,rfl,_,_,rfl,rfl,(by show (0:Int)<4;decide),mV _ _ ⟨n,m,wy,c%4,t,l,us,_,_,_,_,_,rfl,n0,x0,by lia,w0,by lia,s6,hl,tA6,by lia⟩⟩
end
open PySem L2
def TO (H:Hp)(l:Addr)(m:Int)(ts:List (Addr×Int×Int)):Prop:=bZ H l m ts/\∀t∈ts,t.2.1<=t.2.2
theorem TO.same {H H':Hp}{l:Addr}{m:Int}{ts:List (Addr×Int×Int)}(h:TO H l m ts)(s:aD H H'):TO H' l m ts:=⟨h.1.same s,h.2⟩
theorem TO.push {H:Hp}{l:Addr}{m:Int}{ts:List (Addr×Int×Int)}(h:TO H l m ts){t:Addr}(ht:H t=none){a b:Int}(hab:0<=a/\a<=b/\b<m) :
  TO (upd (upd H t (.tup [.int a,.int b])) l (.lst ((ts.map λt =>.ref t.1)++[.ref t]))) l m (ts++[(t,a,b)]):=by
 refine ⟨h.1.push (H0:=H) ht (by lia),λx hx =>?_⟩
 rcases B0.mp hx with z | z
 ·exact h.2 x z
 ·rw[BU] at z;subst z;exact hab.2.1
theorem m5 {α β:Type}(g:α -> β):∀(l:List α) (n:Nat),(l.map g).eraseIdx n=(l.eraseIdx n).map g
 | [],_=>rfl
 | _ :: _,0=>rfl
 | x :: l,n+1=>by
  show g x :: (l.map g).eraseIdx n=g x :: (l.eraseIdx n).map g
  rw[m5 g l n]
theorem TO.erase {H:Hp}{l:Addr}{m:Int}{ts:List (Addr×Int×Int)}(h:TO H l m ts)(k:Nat):TO (upd H l (.lst ((ts.map λt=>V.ref t.1).eraseIdx k))) l m (ts.eraseIdx k):=by
 rw[m5]
 exact ⟨h.1.put (H:=H) (λt ht=>h.1.tup t (Ge ht)) λt ht=>h.1.bnd t (Ge ht),λt ht=>h.2 t (Ge ht)⟩
def rw3 (t:Addr×Int×Int):Addr×List Int:=(t.1,[t.2.1,t.2.2])
theorem tK (ts:List (Addr×Int×Int)):(ts.map rw3).map (λu=>V.ref u.1)=ts.map λt=>V.ref t.1:=by rw[GK];rfl
theorem TO.row {H:Hp}{l:Addr}{m:Int}{ts:List (Addr×Int×Int)}(h:TO H l m ts):∀u∈ts.map rw3,H u.1=some (.tup (u.2.map V.int))/\∃a b:Int,u.2=[a,b]/\0<=a/\a<=b/\b<m:=λu hu=>by
 obtain ⟨t,ht,rfl⟩:=Cv.mp hu
 exact ⟨h.1.tup t ht,t.2.1,t.2.2,rfl,(h.1.bnd t ht).1,h.2 t ht,(h.1.bnd t ht).2.2.2⟩
abbrev tL:Sp:=λvs H Q _=>∃n:Int,vs=[.int n]/\0<=n/\∀(p b:Addr) (n' m:Int) (ts:List (Addr×List Int)) (H':Hp),aD H H'->H' p=some (.tup [.ref b,.int n'])->Wb H' b m ts->0<=m->m<=40->0<=n'->Q (.ref p) H'
@[irreducible] def fV:Sp:=tL
theorem cf {vs:List V}{H:Hp}{Q:VK}{E:XK}:fV vs H Q E↔tL vs H Q E:=by
 delta fV
 exact Eg
def MW (H:Hp)(σ:St)(H':Hp):Prop:=∃(n m:Int) (l:Addr) (ts:List (Addr×Int×Int)) (c2 c4 c5 c6 c7 c8 c9 c10 c11:Option V),
 σ=[some (.int n),some (.int m),c2,some (.ref l),c4,c5,c6,c7,c8,c9,c10,c11]/\0<=n/\0<=m/\m<=40/\aD H H'/\H l=none/\TO H' l m ts/\ts.length<=200
theorem BA {d:Int}(h0:0<=d)(h1:d<3):∃e:Int,0<e/\e<=40/\atI [V.int 2,.int 5,.int 40] d=some (.int e):=by
 have hd:d=0\/d=1\/d=2:=by lia
 rcases hd with e | e | e <;> subst e
 ·exact ⟨2,by decide,by decide,rfl⟩
 ·exact ⟨5,by decide,by decide,rfl⟩
 ·exact ⟨40,by decide,by decide,rfl⟩
section
variable  {P:Ca}{w:CJ}{K:BP}{mg:Str->Option BM}{base:Heap}{f:Addr}{fd:De}
theorem bF:aK ["number", "many", "near", "ties", "place", "other", "gone", "k", "at", "count", "one", "turn"] ["number"] (aA w4):=⟨rfl,rfl,rfl,by decide +kernel,rfl,by decide +kernel,by decide +kernel⟩
theorem AI (F:Fun K "_law_wide" "_law_wide" w4 f fd)(B:Blt mg):bM P w K mg base CX0 1 f fd ["number"] fV:=by
 refine F.ok bF (λvs H Q E h =>?_) (λcdv A outer s H vs Q E hr h =>?_)
 ·obtain ⟨c,rfl,_⟩:=cf.mp h
  rfl
 obtain ⟨n,rfl,n0,q⟩:=cf.mp h
 refine eJ ((bS w4).drop 11) (MW H) ?hT λtT pT mT =>?gT
 case hT =>
  refine ⟨_,au (aH (bp (aa (bp (aa (pv 1) (aa (aG aR rfl B.b_tuple Ep (aa (av fc rfl B.b_sorted cI (aa (pv 3) ag)) ag)) ag))) (aa (pv 0) ag)))),?_⟩
  rintro σ H8 ⟨n,m,l,ts,c2,c4,c5,c6,c7,c8,c9,c10,c11,rfl,n0,m0,m1,s8,hl,tA,lt⟩
  have row:=tA.row
  refine ⟨_,rfl,_,rfl,l,ts.map rw3,rfl,.inl (SqL.of (by rw[tK];exact tA.1.at')),λu hu=>⟨SqT.of (row u hu).1,λz =>?_⟩,λL2 out hL2 po ps=>⟨L2,_,rfl,.inl ⟨SqL.of ah,λl3 hl3=>⟨(by show 2<=B4;decide),λb hb=>⟨_,rfl,(by show 2<=B4;decide),λp hp =>?_⟩⟩⟩⟩⟩
  ·obtain ⟨_,x,y,e,_⟩:=row u hu
   rw[z] at e;cases e
  have s12:=(af hL2 (.lst (out.map λt =>.ref t.1))).trans (af hl3 (.tup (out.map λt =>.ref t.1)))
  have sb:=af hb (.tup [.int m,.ref l3])
  have sp:=af hp (.tup [.ref b,.int n])
  refine q p b n m out _ (s8.trans (s12.trans (sb.trans sp))) ah ⟨⟨l3,sp _ _ ah,sp _ _ (sb _ _ ah)⟩,λu hu=>sp _ _ (sb _ _ (s12 _ _ (row u (po.mem_iff.mp hu)).1)),λu hu=>(row u (po.mem_iff.mp hu)).2,?_⟩ m0 m1 n0
  rw[po.length_eq,BK];exact lt
 refine ⟨_,ai (bD (av aF rfl B.b_divmod aP (aa (pv 0) (aa ak ag))) (bo rfl (az (aq (i:=0) bF.nd rfl (Or.inl rfl)) (az (aq (i:=1) bF.nd rfl (Or.inr rfl)) aT))))
  (ai (aM (i:=1) bF.nd rfl (Or.inr rfl) (aQ cD (pv 1) ak))
  (ai (bD (av aF rfl B.b_divmod aP (aa (pv 0) (aa ak ag))) (bo rfl (az (aq (i:=0) bF.nd rfl (Or.inl rfl)) (az (aq (i:=2) bF.nd rfl (Or.inl rfl)) aT))))
  (ai (aM (i:=3) bF.nd rfl (Or.inl rfl) (bY ag))
  (ai (bP CL rfl (gk rfl B.b_range (aa ak (aa (pv 1) ag))) (aq (i:=4) bF.nd rfl (Or.inl rfl))
   (ai (bD (av aF rfl B.b_divmod aP (aa (pv 0) (aa (aS cC (bY (aa ak (aa ak (aa ak ag)))) (pv 2) (λ_ _=>rfl)) ag))) (bo rfl (az (aq (i:=0) bF.nd rfl (Or.inl rfl)) (az (aq (i:=5) bF.nd rfl (Or.inl rfl)) aT))))
   (au (bN (cS Cr CU CV bL (pv 3) (aa (bp (aa (av (gn rfl) rfl B.b_max iX (aa ak (aa (aQ cV (aQ cV (pv 4) ak) (pv 5)) ag))) (aa (pv 4) ag))) ag))))))
  (ai (bD (av aF rfl B.b_divmod aP (aa (pv 0) (aa ak ag))) (bo rfl (az (aq (i:=0) bF.nd rfl (Or.inl rfl)) (az (aq (i:=6) bF.nd rfl (Or.inl rfl)) aT))))
  (ai (bP CL rfl (bJ rfl B.b_range (aa (pv 6) ag)) (aq (i:=7) bF.nd rfl (Or.inl rfl))
   (ai (bD (av aF rfl B.b_divmod aP (aa (pv 0) (aa (av aZ rfl B.b_len FU (aa (pv 3) ag)) ag))) (bo rfl (az (aq (i:=0) bF.nd rfl (Or.inl rfl)) (az (aq (i:=8) bF.nd rfl (Or.inl rfl)) aT))))
   (au (bN (cS Cr GL GN o9 (pv 3) (aa (pv 8) ag))))))
  (ai (bD (av aF rfl B.b_divmod aP (aa (pv 0) (aa ak ag))) (bo rfl (az (aq (i:=0) bF.nd rfl (Or.inl rfl)) (az (aq (i:=9) bF.nd rfl (Or.inl rfl)) aT))))
  (ai (bP CL rfl (bJ rfl B.b_range (aa (pv 9) ag)) (aq (i:=7) bF.nd rfl (Or.inl rfl))
   (ai (bD (av aF rfl B.b_divmod aP (aa (pv 0) (aa (pv 1) ag))) (bo rfl (az (aq (i:=0) bF.nd rfl (Or.inl rfl)) (az (aq (i:=10) bF.nd rfl (Or.inl rfl)) aT))))
   (ai (bD (av aF rfl B.b_divmod aP (aa (pv 0) (aa (pv 1) ag))) (bo rfl (az (aq (i:=0) bF.nd rfl (Or.inl rfl)) (az (aq (i:=5) bF.nd rfl (Or.inl rfl)) aT))))
   (au (bN (cS Cr CU CV bL (pv 3) (aa (bp (aa (av (iL rfl) rfl B.b_min fk (aa (pv 10) (aa (pv 5) ag))) (aa (av (gn rfl) rfl B.b_max iX (aa (pv 10) (aa (pv 5) ag))) ag))) ag)))))))
  (ai (bD (av aF rfl B.b_divmod aP (aa (pv 0) (aa ak ag))) (bo rfl (az (aq (i:=0) bF.nd rfl (Or.inl rfl)) (az (aq (i:=11) bF.nd rfl (Or.inl rfl)) aT))))
  (ai (bE (aJ du (pv 11) ak (aU _)) (au (eY (i:=3) ["one", "other", "many"] [none,none,some 1] rfl bF.nd rfl rfl (bO (pv 3)) rfl (λ_ _ _ _ _=>pE (K:=K) (i:=0) (j:=1) zz rfl rfl (Or.inl rfl) (Or.inl rfl)) (λ_ _ _ _ _=>cu)
    (λ_ _ _ _ _=>bp (aa (aQ cV (aQ cV (pv 2) ak) (pv 1)) (aa (aQ cV (aQ cV (pv 2) ak) (pv 0)) ag))))) aO)
   pT)))))))))),?_⟩
 obtain ⟨q0,x0,x1⟩:=dmN (j:=11) n0 (by decide)
 refine ⟨_,rfl,n,11,rfl,⟨by decide,by decide⟩,λp hp=>⟨p,_,rfl,SqT.of ah,rfl,_,_,rfl,_,_,rfl,rfl,?_⟩⟩
 have s1:=af hp (.tup [.int (n/11),.int (n%11)])
 generalize upd H p (.tup [.int (n/11),.int (n%11)])=H1 at s1
 generalize n/11=n1 at q0
 generalize n%11=m' at x0 x1
 refine ⟨_,rfl,_,_,rfl,rfl,?_⟩
 dsimp only
 have m30:30<=m'+30:=by lia
 have m40:m'+30<=40:=by lia
 generalize m'+30=m at m30 m40
 obtain ⟨q1,y0,y1⟩:=dmN (j:=3) q0 (by decide)
 refine ⟨_,rfl,n1,3,rfl,⟨by decide,by decide⟩,λp hp=>⟨p,_,rfl,SqT.of ah,rfl,_,_,rfl,_,_,rfl,rfl,?_⟩⟩
 have s2:=s1.trans (af hp (.tup [.int (n1/3),.int (n1%3)]))
 generalize upd H1 p (.tup [.int (n1/3),.int (n1%3)])=H2 at s2
 generalize n1/3=n2 at q1
 generalize n1%3=nr at y0 y1
 obtain ⟨e,e0,e1,ee⟩:=BA y0 y1
 refine ⟨(by show 0<=B4;decide),λl hl4 =>?_⟩
 have hl:=s2.free hl4
 have s5:=s2.trans (af hl4 (.lst []))
 have tA:TO (upd H2 l (.lst [])) l m []:=⟨⟨ah,λt z=>(by cases z),λt z=>(by cases z)⟩,λt z=>(by cases z)⟩
 generalize upd H2 l (.lst [])=H5 at s5 tA
 let W0:Nat->St->Hp->Prop:=λj σ H4=>(∃(n:Int) (c4 c5:Option V),0<=n/\σ=[some (.int n),some (.int m),some (.int nr),some (.ref l),c4,c5,none,none,none,none,none,none])/\aD H H4/\∃us,TO H4 l m us/\us.length=j
 refine ⟨_,rfl,1,_,rfl,⟨by decide,by decide,by lia,by lia⟩,bK W0 ⟨⟨_,_,_,q1,rfl⟩,s5,[],tA,rfl⟩ ?_ ?_⟩
 ·rintro j σ H6 hj ⟨⟨n,c4,c5,n0,rfl⟩,s6,us,tA6,lu⟩
  have hj':1+(j:Int)<m:=by lia
  obtain ⟨q5,v0,v1⟩:=dmN n0 e0
  refine ⟨_,rfl,(by show 3<=B4;decide),λb hb=>⟨_,rfl,b,_,nr,_,rfl,rfl,SqL.of ah,ee,n,e,rfl,⟨e0,by lia⟩,λp hp=>⟨p,_,rfl,SqT.of ah,rfl,_,_,rfl,_,_,rfl,rfl,?_⟩⟩⟩
  have g:=(af hb (.lst [.int 2,.int 5,.int 40])).trans (af hp (.tup [.int (n/e),.int (n%e)]))
  have s7:=s6.trans g
  have tA7:=tA6.same g
  generalize upd (upd H6 b (.lst [.int 2,.int 5,.int 40])) p (.tup [.int (n/e),.int (n%e)])=H7 at s7 tA7
  generalize n/e=n5 at q5
  generalize n%e=o at v0 v1
  refine ⟨_,rfl,.inl ⟨rfl,_,SqL.of tA7.1.at'⟩,_,rfl,_,_,rfl,rfl,_,rfl,_,_,rfl,rfl,_,_,rfl,_,rfl,(by show 2<=B4;decide),λtt htt =>?_⟩
  exact ⟨l,_,_,rfl,rfl,(af htt _) _ _ tA7.1.at',(by rw[BK];exact bA (by lia)),⟨_,_,_,q5,rfl⟩,aD.cE (s7.trans (af htt _)) hl _,us++[(tt,_,1+(j:Int))],tA7.push htt (by split <;> lia),by rw[BR,lu];rfl⟩
 rintro σ H6 ⟨⟨n,c4,c5,n0,rfl⟩,s6,us,tA6,lu⟩
 obtain ⟨q6,y0,y1⟩:=dmN (j:=4) n0 (by decide)
 refine ⟨_,rfl,n,4,rfl,⟨by decide,by decide⟩,λp hp=>⟨p,_,rfl,SqT.of ah,rfl,_,_,rfl,_,_,rfl,rfl,?_⟩⟩
 have s7:=s6.trans (af hp (.tup [.int (n/4),.int (n%4)]))
 have tA7:=tA6.same (af hp (.tup [.int (n/4),.int (n%4)]))
 generalize upd H6 p (.tup [.int (n/4),.int (n%4)])=H7 at s7 tA7
 generalize n/4=n6 at q6
 generalize n%4=g at y0 y1
 let W1:Nat->St->Hp->Prop:=λj σ H4=>(∃(n:Int) (c7 c8:Option V),0<=n/\σ=[some (.int n),some (.int m),some (.int nr),some (.ref l),c4,c5,some (.int g),c7,c8,none,none,none])/\aD H H4/\∃us,TO H4 l m us/\us.length+j=(m-1).toNat
 refine ⟨_,rfl,g,rfl,by lia,by lia,bK W1 ⟨⟨_,_,_,q6,rfl⟩,s7,us,tA7,by lia⟩ ?_ ?_⟩
 ·rintro j σ H8 hj ⟨⟨n,c7,c8,n0,rfl⟩,s8,us,tA8,lu⟩
  have lp:0<us.length:=by lia
  obtain ⟨q8,v0,v1⟩:=dmN n0 (show (0:Int)<((us.map λt=>V.ref t.1).length:Int) by rw[BK];lia)
  refine ⟨_,rfl,_,rfl,l,_,rfl,.inl (SqL.of tA8.1.at'),n,_,rfl,⟨by rw[BK];lia,by rw[BK];lia⟩,λp hp=>⟨p,_,rfl,SqT.of ah,rfl,_,_,rfl,_,_,rfl,rfl,?_⟩⟩
  have g9:=af hp (.tup [.int (n/((us.map λt=>V.ref t.1).length:Int)),.int (n%((us.map λt=>V.ref t.1).length:Int))])
  have s9:=s8.trans g9
  have tA9:=tA8.same g9
  generalize upd H8 p (.tup [.int (n/((us.map λt=>V.ref t.1).length:Int)),.int (n%((us.map λt=>V.ref t.1).length:Int))])=H9 at s9 tA9
  generalize n/((us.map λt=>V.ref t.1).length:Int)=n8 at q8
  generalize n%((us.map λt=>V.ref t.1).length:Int)=at' at v0 v1
  rw[BK] at v1
  obtain ⟨pn,rfl⟩:∃k:Nat,at'=k:=⟨at'.toNat,by lia⟩
  have ep:us[pn]? = some us[pn]:=BO (by lia)
  refine ⟨_,rfl,.inl ⟨rfl,_,SqL.of tA9.1.at'⟩,_,rfl,l,_,(pn:Int),pn,.ref us[pn].1,rfl,rfl,tA9.1.at',by lia,by lia,?_,by rw[B7,ep];rfl,⟨_,_,_,q8,rfl⟩,aD.cE s9 hl _,us.eraseIdx pn,tA9.erase pn,?_⟩
  ·have:=GW (i:=(pn:Int)) (n:=(us.map λu=>V.ref u.1).length) (by lia) (by rw[BK];lia)
   simpa using this
  ·rw[FP,if_pos (by lia)];lia
 rintro σ H8 ⟨⟨n,c7,c8,n0,rfl⟩,s8,us,tA8,lu⟩
 have lu':us.length<=39:=by lia
 obtain ⟨q9,y0,y1⟩:=dmN (j:=6) n0 (by decide)
 refine ⟨_,rfl,n,6,rfl,⟨by decide,by decide⟩,λp hp=>⟨p,_,rfl,SqT.of ah,rfl,_,_,rfl,_,_,rfl,rfl,?_⟩⟩
 have s9:=s8.trans (af hp (.tup [.int (n/6),.int (n%6)]))
 have tA9:=tA8.same (af hp (.tup [.int (n/6),.int (n%6)]))
 generalize upd H8 p (.tup [.int (n/6),.int (n%6)])=H9 at s9 tA9
 generalize n/6=n9 at q9
 generalize n%6=ct at y0 y1
 let W2:Nat->St->Hp->Prop:=λj σ H4=>(∃(n:Int) (c5 c7 c10:Option V),0<=n/\σ=[some (.int n),some (.int m),some (.int nr),some (.ref l),c4,c5,some (.int g),c7,c8,some (.int ct),c10,none])/\aD H H4/\∃us,TO H4 l m us/\us.length<=39+j
 refine ⟨_,rfl,ct,rfl,by lia,by lia,bK W2 ⟨⟨_,_,_,_,q9,rfl⟩,s9,us,tA9,by lia⟩ ?_ ?_⟩
 ·rintro j σ H10 hj ⟨⟨n,c5,c7,c10,n0,rfl⟩,s10,us,tA10,lu⟩
  have mp:0<m:=by lia
  obtain ⟨q0,x0,x1⟩:=dmN n0 mp
  refine ⟨_,rfl,_,rfl,n,m,rfl,⟨mp,by lia⟩,λp hp=>⟨p,_,rfl,SqT.of ah,rfl,_,_,rfl,_,_,rfl,rfl,?_⟩⟩
  have tA1:=tA10.same (af hp (.tup [.int (n/m),.int (n%m)]))
  have s4:=s10.trans (af hp (.tup [.int (n/m),.int (n%m)]))
  generalize upd H10 p (.tup [.int (n/m),.int (n%m)])=H4 at tA1 s4
  generalize n/m=n1 at q0
  generalize n%m=x at x0 x1
  obtain ⟨q1,y0,y1⟩:=dmN q0 mp
  refine ⟨_,rfl,_,rfl,n1,m,rfl,⟨mp,by lia⟩,λp hp=>⟨p,_,rfl,SqT.of ah,rfl,_,_,rfl,_,_,rfl,rfl,?_⟩⟩
  have tA2:=tA1.same (af hp (.tup [.int (n1/m),.int (n1%m)]))
  have s5:=s4.trans (af hp (.tup [.int (n1/m),.int (n1%m)]))
  generalize upd H4 p (.tup [.int (n1/m),.int (n1%m)])=H5 at tA2 s5
  generalize n1/m=n2 at q1
  generalize n1%m=y at y0 y1
  refine ⟨_,rfl,.inl ⟨rfl,_,SqL.of tA2.1.at'⟩,_,rfl,_,rfl,_,_,rfl,_,rfl,_,rfl,_,_,rfl,(by show 2<=B4;decide),λtt htt =>?_⟩
  refine ⟨l,_,_,rfl,rfl,(af htt _) _ _ tA2.1.at',(by rw[BK];exact bA (by lia)),⟨_,_,_,_,q1,rfl⟩,aD.cE (s5.trans (af htt _)) hl _,us++[(tt,_,_)],tA2.push htt ⟨?_,?_,?_⟩,by rw[BR];show us.length+1<=_;lia⟩
  ·split <;> lia
  ·split <;> split <;> lia
  ·split <;> lia
 rintro σ H10 ⟨⟨n,c5,c7,c10,n0,rfl⟩,s10,us,tA10,lu⟩
 obtain ⟨q9,y0,y1⟩:=dmN (j:=2) n0 (by decide)
 refine ⟨_,rfl,n,2,rfl,⟨by decide,by decide⟩,λp hp=>⟨p,_,rfl,SqT.of ah,rfl,_,_,rfl,_,_,rfl,rfl,?_⟩⟩
 have s11:=s10.trans (af hp (.tup [.int (n/2),.int (n%2)]))
 have tA11:=tA10.same (af hp (.tup [.int (n/2),.int (n%2)]))
 generalize upd H10 p (.tup [.int (n/2),.int (n%2)])=H11 at s11 tA11
 generalize n/2=n10 at q9
 generalize n%2=tu at y0 y1
 refine ⟨_,rfl,rfl,_,rfl,gL (λ_ =>?_) λ_=>mT _ _ ⟨n10,m,l,us,_,_,_,_,_,_,_,_,_,rfl,q9,by lia,m40,s11,hl,tA11,by lia⟩⟩
 have em:(us.map λt=>(t.1,V.int t.2.1,V.int t.2.2)).map (λt=>V.ref t.1)=us.map λt=>V.ref t.1:=by rw[GK];rfl
 refine ⟨_,rfl,l,rfl,⟨_,SqL.of tA11.1.at'⟩,j7 (ts:=us.map λt=>(t.1,V.int t.2.1,V.int t.2.2)) (λi ys H'=>aD H11 H'/\∃vs,T3 H' ys vs/\vs.length=i/\(∀t∈vs,0<=t.2.1/\t.2.1<m/\0<=t.2.2/\t.2.2<m)/\∀t∈vs,t.2.1<=t.2.2) (by decide) ⟨aD.refl _,[],⟨rfl,λu hu=>by cases hu⟩,rfl,(λu hu=>by cases hu),λu hu=>by cases hu⟩ (by rw[BK];exact small (by lia)) ?_ ?_ ?_⟩
 ·rintro i ys H' _ ⟨s',_⟩
  rw[em]
  refine ⟨SqL.of (s' _ _ tA11.1.at'),λt ht =>?_⟩
  obtain ⟨tt,htt,rfl⟩:=Cv.mp ht
  exact SqT.of (s' _ _ (tA11.1.tup tt htt))
 ·rintro i t ys H' ht hy ⟨s',vs,tv,lv,bv,ov⟩ R1 R0 r1 r0
  rw[B7] at ht
  cases hi:us[i]? with
  | none=>rw[hi] at ht;cases ht
  | some tt =>
  rw[hi] at ht
  have ht':=Cw ht
  subst ht'
  have bb:=tA11.1.bnd tt (BV hi)
  have oo:=tA11.2 tt (BV hi)
  refine bQ ⟨_,rfl,_,_,rfl,rfl,_,rfl,_,_,rfl,rfl,_,rfl,_,_,rfl,rfl,_,rfl,_,_,rfl,rfl,(by show 2<=B4;decide),λtn htn=>r1 _ _ ⟨s'.trans (af htn _),vs++[(tn,m-1-tt.2.2,m-1-tt.2.1)],tv.add htn _ _,by rw[BR,lv];rfl,eK bv (by lia),λx hx =>?_⟩⟩
  rcases B0.mp hx with z | z
  ·exact ov x z
  ·rw[BU] at z;subst z
   show m-1-tt.2.2<=m-1-tt.2.1
   lia
 ·rintro ys H12 hy ⟨s12,vs,tv,lv,bv,ov⟩ L hL
  rw[BK] at lv
  exact mT _ _ ⟨n10,m,L,vs,_,_,_,_,_,_,_,_,_,rfl,q9,by lia,m40,s11.trans (s12.trans (af hL _)),(s11.trans s12).free hL,⟨tv.AG hL bv,ov⟩,by lia⟩
end
open PySem L2
theorem bZ.ext {H:Hp}{l b:Addr}{m:Int}{ts vs:List (Addr×Int×Int)}{ys:List V}(h:bZ H l m ts)(T:T3 H ys vs)(hb:H b=none)(bv:∀t∈vs,0<=t.2.1/\t.2.1<m/\0<=t.2.2/\t.2.2<m) :
  bZ (upd (upd H b (.lst ys)) l (.lst ((ts.map λt =>.ref t.1)++ys))) l m (ts++vs):=by
 have s:=af hb (.lst ys)
 rw[T.1, <- B5]
 refine (h.same (af hb (.lst (vs.map λu=>V.ref u.1)))).put (H:=H) (λt ht =>?_) λt ht =>?_
 ·rcases B0.mp ht with z | z
  ·exact (af hb _) _ _ (h.tup t z)
  ·exact (af hb _) _ _ (T.2 t z)
 ·rcases B0.mp ht with z | z
  ·exact h.bnd t z
  ·exact bv t z
section
variable  {P:Ca}{w:CJ}{K:BP}{mg:Str->Option BM}{base:Heap}{f:Addr}{fd:De}
theorem ndBP:(["by", "place"]:List Str).Nodup:=by decide +kernel
theorem BB:(["other", "one"]:List Str).Nodup:=by decide +kernel
theorem cj:aK ["number", "way", "many", "gone", "ties", "place", "one", "k", "at"] ["number"] (aA w5):=⟨rfl,rfl,rfl,by decide +kernel,rfl,by decide +kernel,by decide +kernel⟩
theorem yQ (F:Fun K "_law_dense" "_law_dense" w5 f fd)(B:Blt mg):bM P w K mg base CX0 1 f fd ["number"] fV:=by
 refine F.ok cj (λvs H Q E h =>?_) (λcdv A outer s H vs Q E hr h =>?_)
 ·obtain ⟨c,rfl,_⟩:=cf.mp h
  rfl
 obtain ⟨n,rfl,n0,q⟩:=cf.mp h
 refine ⟨_,ai (bD (av aF rfl B.b_divmod aP (aa (pv 0) (aa ak ag))) (bo rfl (az (aq (i:=0) cj.nd rfl (Or.inl rfl)) (az (aq (i:=1) cj.nd rfl (Or.inl rfl)) aT))))
  (ai (bD (av aF rfl B.b_divmod aP (aa (pv 0) (aa ak ag))) (bo rfl (az (aq (i:=0) cj.nd rfl (Or.inl rfl)) (az (aq (i:=2) cj.nd rfl (Or.inl rfl)) aT))))
  (ai (bD (av aF rfl B.b_divmod aP (aa (pv 0) (aa ak ag))) (bo rfl (az (aq (i:=0) cj.nd rfl (Or.inl rfl)) (az (aq (i:=3) cj.nd rfl (Or.inl rfl)) aT))))
  (ai (bE (aJ du (pv 1) ak (aU _))
   (ai (aM (i:=4) cj.nd rfl (Or.inl rfl) (bY ag))
   (ai (bP CL rfl (bJ rfl B.b_range (aa ak ag)) (aq (i:=5) cj.nd rfl (Or.inr rfl))
    (au (bN (cS Cr Gb Gd iN (pv 4) (aa (bG ["by", "place"] [none,some 5] rfl (gk rfl B.b_range (aa ak (aa ak ag))) rfl (λ_ _ _ _ _=>aq (i:=0) ndBP rfl (Or.inl rfl)) (λ_ _ _ _ _=>cu)
     (λ_ _ _ _ _=>bp (aa (pv 1) (aa (aQ eV (aQ cD (pv 1) (pv 0)) ak) ag)))) ag)))))
   (au (aH (bp (aa (bp (aa ak (aa (aG aR rfl B.b_tuple Ep (aa (av fc rfl B.b_sorted cI (aa
    (bG ["pair"] [none] rfl (bO (pv 4)) rfl (λ_ _ _ _ _=>aq (i:=0) ndP rfl (Or.inl rfl)) (λ_ _ _ _ _=>cu)
     (λ_ _ _ _ _=>bp (aa (av (mR (K:=K) rfl) rfl B.b_min fk (aa (pv 0) ag)) (aa (av (mW (K:=K) rfl) rfl B.b_max iX (aa (pv 0) ag)) ag)))) ag)) ag)) ag))) (aa (pv 0) ag))))))) aO)
  (ai (aM (i:=4) cj.nd rfl (Or.inl rfl) (bY ag))
  (ai (bP CL rfl (bJ rfl B.b_range (aa (aQ cD ak (pv 2)) ag)) (aq (i:=6) cj.nd rfl (Or.inr rfl))
   (au (bN (cS Cr Gb Gd iN (pv 4) (aa (bG ["other", "one"] [none,some 6] rfl (gk rfl B.b_range (aa (aQ cD (pv 6) ak) (aa (aQ cD ak (pv 2)) ag))) rfl (λ_ _ _ _ _=>aq (i:=0) BB rfl (Or.inl rfl)) (λ_ _ _ _ _=>cu)
    (λ_ _ _ _ _=>bp (aa (pv 1) (aa (pv 0) ag)))) ag)))))
  (ai (bP CL rfl (bJ rfl B.b_range (aa (pv 3) ag)) (aq (i:=7) cj.nd rfl (Or.inl rfl))
   (ai (bD (av aF rfl B.b_divmod aP (aa (pv 0) (aa (av aZ rfl B.b_len FU (aa (pv 4) ag)) ag))) (bo rfl (az (aq (i:=0) cj.nd rfl (Or.inl rfl)) (az (aq (i:=8) cj.nd rfl (Or.inl rfl)) aT))))
   (au (bN (cS Cr GL GN o9 (pv 4) (aa (pv 8) ag))))))
  (au (aH (bp (aa (bp (aa (aQ cD ak (pv 2)) (aa (aG aR rfl B.b_tuple Ep (aa (pv 4) ag)) ag))) (aa (pv 0) ag))))))))))),?_⟩
 obtain ⟨q0,x0,x1⟩:=dmN (j:=3) n0 (by decide)
 refine ⟨_,rfl,n,3,rfl,⟨by decide,by decide⟩,λp hp=>⟨p,_,rfl,SqT.of ah,rfl,_,_,rfl,_,_,rfl,rfl,?_⟩⟩
 have s1:=af hp (.tup [.int (n/3),.int (n%3)])
 generalize upd H p (.tup [.int (n/3),.int (n%3)])=H1 at s1
 generalize n/3=n1 at q0
 generalize n%3=wy at x0 x1
 obtain ⟨q1,y0,y1⟩:=dmN (j:=3) q0 (by decide)
 refine ⟨_,rfl,n1,3,rfl,⟨by decide,by decide⟩,λp hp=>⟨p,_,rfl,SqT.of ah,rfl,_,_,rfl,_,_,rfl,rfl,?_⟩⟩
 have s2:=s1.trans (af hp (.tup [.int (n1/3),.int (n1%3)]))
 generalize upd H1 p (.tup [.int (n1/3),.int (n1%3)])=H2 at s2
 generalize n1/3=n2 at q1
 generalize n1%3=mn at y0 y1
 obtain ⟨q2,z0,z1⟩:=dmN (j:=7) q1 (by decide)
 refine ⟨_,rfl,n2,7,rfl,⟨by decide,by decide⟩,λp hp=>⟨p,_,rfl,SqT.of ah,rfl,_,_,rfl,_,_,rfl,rfl,?_⟩⟩
 have s3:=s2.trans (af hp (.tup [.int (n2/7),.int (n2%7)]))
 generalize upd H2 p (.tup [.int (n2/7),.int (n2%7)])=H3 at s3
 generalize n2/7=n3 at q2
 generalize n2%7=g at z0 z1
 refine ⟨_,rfl,rfl,_,rfl,gL (λ_ =>?_) λ_ =>?_⟩
 ·refine ⟨(by show 0<=B4;decide),λl hl4 =>?_⟩
  have hl:=s3.free hl4
  have s5:=s3.trans (af hl4 (.lst []))
  have tA:bZ (upd H3 l (.lst [])) l 40 []:=⟨ah,λt z=>(by cases z),λt z=>(by cases z)⟩
  generalize upd H3 l (.lst [])=H5 at s5 tA
  let W0:Nat->St->Hp->Prop:=λi σ H4=>(∃(c5:Option V),σ=[some (.int n3),some (.int wy),some (.int mn),some (.int g),some (.ref l),c5,none,none,none])/\aD H H4/\∃us,bZ H4 l 40 us/\us.length=5*i
  refine ⟨40,rfl,by decide,by decide,bK W0 ⟨⟨_,rfl⟩,s5,[],tA,rfl⟩ ?_ ?_⟩
  ·rintro i σ H6 hi ⟨⟨c5,rfl⟩,s6,us,tA6,lu⟩
   have hi':i<40:=hi
   let W1:Nat->List V->Hp->Prop:=λk ys H'=>aD H6 H'/\∃vs,T3 H' ys vs/\vs.length=k/\∀t∈vs,0<=t.2.1/\t.2.1<40/\0<=t.2.2/\t.2.2<40
   refine ⟨_,rfl,.inl ⟨rfl,_,SqL.of tA6.at'⟩,1,6,rfl,⟨by decide,by decide,by decide,by decide⟩,dW W1 ⟨aD.refl _,[],⟨rfl,λu hu=>by cases hu⟩,rfl,λu hu=>by cases hu⟩ (small (by decide)) ?_ ?_⟩
   ·rintro k ys H' hk hy ⟨s',vs,tv,lv,bv⟩ R1 R0 r1 r0
    have b1:=EM (0+(i:Int)+(1+(k:Int))) (b:=40) (by decide)
    have b2:=EA (0+(i:Int)+(1+(k:Int))) (b:=40) (by decide)
    exact bQ ⟨_,rfl,_,rfl,_,rfl,_,_,rfl,rfl,_,_,rfl,rfl,(by show (0:Int)<40;decide),(by show 2<=B4;decide),λtn htn=>r1 _ _ ⟨s'.trans (af htn _),vs++[(tn,0+(i:Int),(0+(i:Int)+(1+(k:Int)))%40)],tv.add htn _ _,by rw[BR,lv];rfl,eK bv (by lia)⟩⟩
   ·rintro ys H7 hy ⟨s7,vs,tv,lv,bv⟩ b hb
    have lv':vs.length=5:=lv
    have tA7:=tA6.same s7
    refine ⟨l,b,_,_,rfl,rfl,(af hb _) _ _ tA7.at',ah,?_,⟨_,rfl⟩,aD.cE ((s6.trans s7).trans (af hb _)) hl _,us++vs,tA7.ext tv hb bv,by rw[BR];lia⟩
    rw[tv.1,BK,BK];exact small (by lia)
  ·rintro σ H8 ⟨⟨c5,rfl⟩,s8,ts,tA,lt⟩
   have lt':ts.length=200:=lt
   refine ⟨_,rfl,l,rfl,⟨_,SqL.of tA.at'⟩,bV (xs:=ts.map λt =>.ref t.1) (λi ys H'=>aD H8 H'/\∃us,qo H' ys us/\us.map (·.2)=(ts.take i).map key) ⟨aD.refl _,[],⟨rfl,λu hu=>by cases hu⟩,rfl⟩ (by rw[BK];exact small (by lia)) (λi ys H'' _ z=>SqL.of (z.1 _ _ tA.at')) ?_ ?_⟩
   ·rintro i x ys H' hx hy ⟨s',us,tu,eu⟩ R1 R0 r1 r0
    obtain ⟨tt,ht,rfl⟩:=zy hx
    have e2:=s' _ _ (tA.tup tt (BV ht))
    refine bQ ⟨_,rfl,_,_,_,rfl,SqT.of e2,_,rfl,_,_,_,rfl,SqT.of e2,(by show 2<=B4;decide),λtn htn=>r1 _ _ ⟨s'.trans (af htn _),us++[(tn,key tt)],tu.add htn _,?_⟩⟩
    rw[B5,eu,Dp,ht,B5]
    rfl
   rintro ys H9 hy ⟨s9,us,tu,eu⟩ L hL
   have eu':us.map (·.2)=ts.map key:=by rw[eu,BK,B9 (BS _)]
   have s10:=s9.trans (af hL (.lst ys))
   have tu10:=tu.same (af hL (.lst ys))
   have ey:=tu.1
   have keys:∀u∈us,∃x y:Int,u.2=[x,y]/\0<=x/\x<=y/\y<40:=λu hu=>by
    have:u.2∈ts.map key:=by rw[<- eu'];exact Dw hu
    obtain ⟨t,ht,e⟩:=Cv.mp this
    rw[<- e]
    exact xg (tA.bnd t ht)
   have nn:∀u∈us,u.2≠[]:=λu hu z=>by
    obtain ⟨a,b,e,_⟩:=keys u hu
    rw[z] at e
    cases e
   refine ⟨L,us,rfl,.inl (SqL.of (by rw[ah,ey])),λu hu=>⟨SqT.of (tu10.2 u hu),nn u hu⟩,λL2 out hL2 po ps =>?_⟩
   have s11:=s10.trans (af hL2 (.lst (out.map λt =>.ref t.1)))
   have tu11:=tu10.same (af hL2 (.lst (out.map λt =>.ref t.1)))
   refine ⟨L2,_,rfl,.inl ⟨SqL.of ah,λl3 hl3 =>?_⟩⟩
   have s12:=s11.trans (af hl3 (.tup (out.map λt =>.ref t.1)))
   have tu12:=tu11.same (af hl3 (.tup (out.map λt =>.ref t.1)))
   refine ⟨(by show 2<=B4;decide),λb hb=>⟨_,rfl,(by show 2<=B4;decide),λp hp =>?_⟩⟩
   have sb:=af hb (.tup [.int 40,.ref l3])
   have sp:=af hp (.tup [.ref b,.int n3])
   have lu:us.length=ts.length:=by have:=congrArg List.length eu';rwa [BK,BK] at this
   refine q p b n3 40 out _ (s8.trans (s12.trans (sb.trans sp))) ah ⟨⟨l3,sp _ _ ah,sp _ _ (sb _ _ ah)⟩,λu hu=>sp _ _ (sb _ _ (tu12.2 u (po.mem_iff.mp hu))),λu hu=>keys u (po.mem_iff.mp hu),?_⟩ (by decide) (by decide) q2
   rw[po.length_eq];lia
 refine ⟨(by show 0<=B4;decide),λl hl4 =>?_⟩
 have hl:=s3.free hl4
 have s5:=s3.trans (af hl4 (.lst []))
 have tA:TO (upd H3 l (.lst [])) l (8+mn) []:=⟨⟨ah,λt z=>(by cases z),λt z=>(by cases z)⟩,λt z=>(by cases z)⟩
 generalize upd H3 l (.lst [])=H5 at s5 tA
 let W2:Nat->St->Hp->Prop:=λi σ H4=>(∃(c6:Option V),σ=[some (.int n3),some (.int wy),some (.int mn),some (.int g),some (.ref l),none,c6,none,none])/\aD H H4/\∃us,TO H4 l (8+mn) us/\us.length<=10*i/\(1<=i->7<=us.length)
 refine ⟨_,rfl,_,_,rfl,rfl,8+mn,rfl,by lia,by lia,bK W2 ⟨⟨_,rfl⟩,s5,[],tA,by simp,by lia⟩ ?_ ?_⟩
 ·rintro i σ H6 hi ⟨⟨c6,rfl⟩,s6,us,tA6,lu,l7⟩
  have hi':(i:Int)<8+mn:=by lia
  let W3:Nat->List V->Hp->Prop:=λk ys H'=>aD H6 H'/\∃vs,T3 H' ys vs/\vs.length=k/\(∀t∈vs,0<=t.2.1/\t.2.1<8+mn/\0<=t.2.2/\t.2.2<8+mn)/\∀t∈vs,t.2.1<=t.2.2
  refine ⟨_,rfl,.inl ⟨rfl,_,SqL.of tA6.1.at'⟩,_,rfl,_,_,rfl,rfl,_,rfl,_,_,rfl,rfl,0+(i:Int)+1,8+mn,rfl,⟨by lia,by lia,by lia,by lia⟩,dW W3 ⟨aD.refl _,[],⟨rfl,λu hu=>by cases hu⟩,rfl,(λu hu=>by cases hu),λu hu=>by cases hu⟩ (small (by lia)) ?_ ?_⟩
  ·rintro k ys H' hk hy ⟨s',vs,tv,lv,bv,ov⟩ R1 R0 r1 r0
   refine bQ ⟨_,rfl,_,rfl,(by show 2<=B4;decide),λtn htn=>r1 _ _ ⟨s'.trans (af htn _),vs++[(tn,0+(i:Int),0+(i:Int)+1+(k:Int))],tv.add htn _ _,by rw[BR,lv];rfl,eK bv (by lia),λx hx =>?_⟩⟩
   rcases B0.mp hx with z | z
   ·exact ov x z
   ·rw[BU] at z;subst z
    show 0+(i:Int)<=0+(i:Int)+1+(k:Int)
    lia
  ·rintro ys H7 hy ⟨s7,vs,tv,lv,bv,ov⟩ b hb
   have tA7:=tA6.same s7
   refine ⟨l,b,_,_,rfl,rfl,(af hb _) _ _ tA7.1.at',ah,?_,⟨_,rfl⟩,aD.cE ((s6.trans s7).trans (af hb _)) hl _,us++vs,⟨tA7.1.ext tv hb bv,λx hx =>?_⟩,by rw[BR];lia,λ_ =>?_⟩
   ·rw[tv.1,BK,BK];exact small (by lia)
   ·rcases B0.mp hx with z | z
    ·exact tA7.2 x z
    ·exact ov x z
   ·rw[BR]
    by_cases h:1<=i
    ·have:=l7 h;lia
    ·lia
 rintro σ H6 ⟨⟨c6,rfl⟩,s6,us,tA6,lu,l7⟩
 have l7':7<=us.length:=l7 (by lia)
 have lu':us.length<=100:=by lia
 let W4:Nat->St->Hp->Prop:=λj σ H4=>(∃(n:Int) (c7 c8:Option V),0<=n/\σ=[some (.int n),some (.int wy),some (.int mn),some (.int g),some (.ref l),none,c6,c7,c8])/\aD H H4/\∃us,TO H4 l (8+mn) us/\us.length<=100/\7<=us.length+j
 refine ⟨_,rfl,g,rfl,by lia,by lia,bK W4 ⟨⟨_,_,_,q2,rfl⟩,s6,us,tA6,lu',by lia⟩ ?_ ?_⟩
 ·rintro j σ H8 hj ⟨⟨n,c7,c8,n0,rfl⟩,s8,us,tA8,lu,l7⟩
  have lp:0<us.length:=by lia
  obtain ⟨q8,v0,v1⟩:=dmN n0 (show (0:Int)<((us.map λt=>V.ref t.1).length:Int) by rw[BK];lia)
  refine ⟨_,rfl,_,rfl,l,_,rfl,.inl (SqL.of tA8.1.at'),n,_,rfl,⟨by rw[BK];lia,by rw[BK];lia⟩,λp hp=>⟨p,_,rfl,SqT.of ah,rfl,_,_,rfl,_,_,rfl,rfl,?_⟩⟩
  have g9:=af hp (.tup [.int (n/((us.map λt=>V.ref t.1).length:Int)),.int (n%((us.map λt=>V.ref t.1).length:Int))])
  have s9:=s8.trans g9
  have tA9:=tA8.same g9
  generalize upd H8 p (.tup [.int (n/((us.map λt=>V.ref t.1).length:Int)),.int (n%((us.map λt=>V.ref t.1).length:Int))])=H9 at s9 tA9
  generalize n/((us.map λt=>V.ref t.1).length:Int)=n8 at q8
  generalize n%((us.map λt=>V.ref t.1).length:Int)=at' at v0 v1
  rw[BK] at v1
  obtain ⟨pn,rfl⟩:∃k:Nat,at'=k:=⟨at'.toNat,by lia⟩
  have ep:us[pn]? = some us[pn]:=BO (by lia)
  refine ⟨_,rfl,.inl ⟨rfl,_,SqL.of tA9.1.at'⟩,_,rfl,l,_,(pn:Int),pn,.ref us[pn].1,rfl,rfl,tA9.1.at',by lia,by lia,?_,by rw[B7,ep];rfl,⟨_,_,_,q8,rfl⟩,aD.cE s9 hl _,us.eraseIdx pn,tA9.erase pn,?_,?_⟩
  ·have:=GW (i:=(pn:Int)) (n:=(us.map λu=>V.ref u.1).length) (by lia) (by rw[BK];lia)
   simpa using this
  ·rw[FP,if_pos (by lia)];lia
  ·rw[FP,if_pos (by lia)];lia
 rintro σ H8 ⟨⟨n,c7,c8,n0,rfl⟩,s8,us,tA8,lu,l7⟩
 have row:=tA8.row
 refine ⟨_,rfl,_,_,rfl,rfl,_,rfl,l,_,rfl,.inl ⟨SqL.of tA8.1.at',λl3 hl3=>⟨(by show 2<=B4;decide),λb hb=>⟨_,rfl,(by show 2<=B4;decide),λp hp =>?_⟩⟩⟩⟩
 have s12:=af hl3 (.tup (us.map λt =>.ref t.1))
 have sb:=af hb (.tup [.int (8+mn),.ref l3])
 have sp:=af hp (.tup [.ref b,.int n])
 refine q p b n (8+mn) (us.map rw3) _ (s8.trans (s12.trans (sb.trans sp))) ah ⟨⟨l3,sp _ _ ah,?_⟩,λu hu=>sp _ _ (sb _ _ (s12 _ _ (row u hu).1)),λu hu=>(row u hu).2,?_⟩ (by lia) (by lia) n0
 ·rw[tK];exact sp _ _ (sb _ _ ah)
 ·rw[BK];lia
end
open PySem L2
def both (ps:List Int)(p:List Int):Bool:=decide (p.getD 0 0∈ps) && decide (p.getD 1 0∈ps)
theorem cZ (ps:List Int):(ps.map V.int).all ie=true:=by
 rw[List.all_map,ES]
 intro x _
 rfl
theorem dh (k:Int):∀ps:List Int,inV (.int k) (ps.map V.int)=decide (k∈ps)
 | []=>by simp[inV]
 | p :: ps=>by
  have ih:=dh k ps
  unfold inV at ih ⊢
  rw[CC,Gj,ih]
  have e:eqV (.int p) (.int k)=(p == k):=rfl
  rw[e]
  by_cases h:p=k
  ·subst h;simp
  ·rw[beq_eq_false_iff_ne.mpr h,KQ]
   apply decide_eq_decide.mpr
   rw[Cg]
   exact ⟨.inr,λx=>x.elim (λy=>absurd y.symm h) id⟩
section
variable  {P:Ca}{w:CJ}{K:BP}{mg:Str->Option BM}{base:Heap}{f:Addr}{fd:De}
theorem zA:(["tie", "places"]:List Str).Nodup:=by decide +kernel
end
def nb1 (p:List Int)(k:Int):List Int:=if p.getD 0 0=p.getD 1 0 then [] else if p.getD 0 0=k then [p.getD 1 0] else if p.getD 1 0=k then [p.getD 0 0] else []
theorem jE {a b k x:Int}:x∈nb1 [a,b] k↔a≠b/\((a=k/\x=b)\/(b=k/\x=a)):=by
 show x∈(if a=b then [] else if a=k then [b] else if b=k then [a] else [])↔_
 by_cases h1:a=b
 ·rw[if_pos h1];simp[h1]
 ·rw[if_neg h1]
  by_cases h2:a=k
  ·rw[if_pos h2,BU]
   exact ⟨λe=>⟨h1,.inl ⟨h2,e⟩⟩,λ⟨_,h⟩=>h.elim (λz=>z.2) λz=>absurd (h2.trans z.1.symm) h1⟩
  ·rw[if_neg h2]
   by_cases h3:b=k
   ·rw[if_pos h3,BU]
    exact ⟨λe=>⟨h1,.inr ⟨h3,e⟩⟩,λ⟨_,h⟩=>h.elim (λz=>absurd z.1 h2) λz=>z.2⟩
   ·rw[if_neg h3]
    exact ⟨λh=>(by cases h),λ⟨_,h⟩=>h.elim (λz=>absurd z.1 h2) λz=>absurd z.1 h3⟩
def nbs (ns:List (List Int))(k:Int):List Int:=ns.flatMap λp=>nb1 p k
theorem cq {ns:List (List Int)}{k x:Int}:x∈nbs ns k↔∃p∈ns,x∈nb1 p k:=Ic
theorem m6 {k:Int}:∀{ns:List (List Int)},ns.Nodup->(∀p∈ns,∃a b:Int,p=[a,b]/\a<=b)->(nbs ns k).Nodup
 | [],_,_=>by simp[nbs]
 | p :: ns,nd,h=>by
  obtain ⟨np,nd'⟩:=D1.mp nd
  have ih:=m6 (k:=k) nd' λq hq=>h q (Cf _ hq)
  show (nb1 p k++nbs ns k).Nodup
  rw[FI]
  refine ⟨?_,ih,λx hx y hy e =>?_⟩
  ·unfold nb1;(repeat' split) <;> simp
  ·subst e
   obtain ⟨a,b,rfl,ab⟩:=h p Ck
   obtain ⟨q,hq,hy⟩:=cq.mp hy
   obtain ⟨c,d,rfl,cd⟩:=h q (Cf _ hq)
   rw[jE] at hx hy
   apply np
   obtain ⟨n1,hx⟩:=hx
   obtain ⟨n2,hy⟩:=hy
   have:a=c/\b=d:=by
    rcases hx with ⟨h1,h2⟩ | ⟨h1,h2⟩ <;> rcases hy with ⟨h3,h4⟩ | ⟨h3,h4⟩ <;> lia
   rw[this.1,this.2]
   exact hq
theorem fW {o:List Int}(h:o.Pairwise (· <= ·))(nd:o.Nodup):o.Pairwise (· < ·):=by
 have:o.Pairwise (λa b=>a<=b/\a≠b):=K2 h nd
 exact this.imp λ{a b} z=>by lia
theorem m8:∀{l m:List Int},l.Pairwise (· < ·)->m.Pairwise (· < ·)->(∀x,x∈l↔x∈m)->l=m
 | [],[],_,_,_=>rfl
 | [],b :: m,_,_,h=>by have:=(h b).mpr Ck;cases this
 | a :: l,[],_,_,h=>by have:=(h a).mp Ck;cases this
 | a :: l,b :: m,h1,h2,h=>by
  obtain ⟨a1,l1⟩:=Gp.mp h1
  obtain ⟨b1,m1⟩:=Gp.mp h2
  have e:a=b:=by
   rcases Cg.mp ((h a).mp Ck) with z | z
   ·exact z
   rcases Cg.mp ((h b).mpr Ck) with y | y
   ·exact y.symm
   have:=a1 b y
   have:=b1 a z
   lia
  subst e
  rw[m8 l1 m1 λx=>⟨λhx =>?_,λhx =>?_⟩]
  ·rcases Cg.mp ((h x).mp (Cf _ hx)) with z | z
   ·have:=a1 x hx;lia
   ·exact z
  ·rcases Cg.mp ((h x).mpr (Cf _ hx)) with z | z
   ·have:=b1 x hx;lia
   ·exact z
structure Rows (H2 H':Hp)(as:List Addr)(vs:List (List Int)):Prop where
 len:vs.length=as.length
 row:∀(j:Nat) a v,as[j]? = some a->vs[j]? = some v->H' a=some (.lst (v.map V.int))
 stay:∀b u,b∉as->H2 b=some u->H' b=some u
theorem Rows.push {H2 H':Hp}{as:List Addr}{vs:List (List Int)}(R:Rows H2 H' as vs)(nd:as.Nodup){j:Nat}{a:Addr}{v:List Int}(ea:as[j]? = some a)(ev:vs[j]? = some v)(x:Int) :
  Rows H2 (upd H' a (.lst ((v.map V.int)++[V.int x]))) as (vs.set j (v++[x])):=by
 have hj:j<vs.length:=(B1.mp ev).1
 refine ⟨by rw[G8];exact R.len,λi b u eb eu =>?_,λb u hb e =>?_⟩
 ·by_cases h:i=j
  ·subst h
   rw[ea] at eb;cases eb
   rw[DY hj] at eu;cases eu
   rw[ah,B5];rfl
  ·rw[Ee (Dq h)] at eu
   have ne:b≠a:=λz=>by
    subst z
    have hi:i<as.length:=(B1.mp eb).1
    exact h ((List.getElem?_inj hi nd).mp (eb.trans ea.symm))
   rw[aE ne]
   exact R.row i b u eb eu
 ·have ne:b≠a:=λz=>hb (z ▸ BV ea)
  rw[aE ne]
  exact R.stay b u hb e
def AJ (vs:List (List Int))(m:Nat)(ns:List (List Int)):Prop:=vs.length=m/\∀(j:Nat) v,vs[j]? = some v->v=nbs ns (j:Int)
theorem tM (k:Int):∀ns:List (List Int),(nbs ns k).length<=ns.length
 | []=>by simp[nbs]
 | p :: ns=>by
  show (nb1 p k++nbs ns k).length<=_
  have:=tM k ns
  have h1:(nb1 p k).length<=1:=by unfold nb1;(repeat' split) <;> simp
  rw[BR,Ct]
  lia
theorem qp (ns:List (List Int))(p:List Int)(k:Int):nbs (ns++[p]) k=nbs ns k++nb1 p k:=by unfold nbs;simp
abbrev qq:Sp:=λvs H Q _=>∃(r:Addr) (m:Int) (ts:List (Addr×List Int)),vs=[.ref r]/\Wb H r m ts/\0<=m/\m<=1000/\∀(l:Addr) (H':Hp) (os:List (Addr×List Int)),aD H H'->H' l=some (.lst (os.map λu =>.ref u.1))->os.length=m.toNat->(∀u∈os,H' u.1=some (.lst (u.2.map V.int))) →
 (∀(j:Nat) u,os[j]? = some u->u.2.Pairwise (· < ·)/\∀x,x∈u.2↔x∈nbs (ts.map (·.2)) (j:Int))->Q (.ref l) H'
@[irreducible] def iA:Sp:=qq
theorem dX {vs:List V}{H:Hp}{Q:VK}{E:XK}:iA vs H Q E↔qq vs H Q E:=by
 delta iA
 exact Eg
theorem lU {X:Cx}{K:BP}(h:X.K=K:=by rfl):bC X (.builtin "sorted") (λxs H Q=>∃(p:Addr) (ns:List Int),xs=[.ref p]/\(SqL K H p (ns.map V.int)\/SqT K H p (ns.map V.int))/\∀(l:Addr) (out:List Int),H l=none->out.Perm ns->out.Pairwise (· <= ·)->Q (.ref l) (upd H l (.lst (out.map V.int)))):=by
 subst h;exact nP
section
variable  {P:Ca}{w:CJ}{K:BP}{mg:Str->Option BM}{base:Heap}{f:Addr}{fd:De}
theorem ndPl:(["place"]:List Str).Nodup:=by decide +kernel
theorem ndRo:(["row"]:List Str).Nodup:=by decide +kernel
theorem oE:aK ["web", "near", "tie"] ["web"] (aA w6):=⟨rfl,rfl,rfl,by decide +kernel,rfl,by decide +kernel,by decide +kernel⟩
theorem yR (F:Fun K "near_lists" "near_lists" w6 f fd)(mr:mg "range" = none)(mst:mg "set" = none)(mso:mg "sorted" = none):bM P w K mg base CX0 1 f fd ["web"] iA:=by
 refine F.ok oE (λvs H Q E h =>?_) (λcdv A outer s H vs Q E hr h =>?_)
 ·obtain ⟨a,b,c,rfl,_⟩:=dX.mp h
  rfl
 obtain ⟨r,m,ts,rfl,W,m0,m1,q⟩:=dX.mp h
 obtain ⟨t,e1,e2⟩:=W.at'
 refine ⟨_,ai (eY (i:=1) ["place"] [none] rfl oE.nd rfl rfl (bJ rfl mr (aa (aS aV (pv 0) ak (λ_ _=>rfl)) ag)) rfl (λ_ _ _ _ _=>aq (i:=0) ndPl rfl (Or.inl rfl)) (λ_ _ _ _ _=>cu) (λ_ _ _ _ _=>bY ag))
  (ai (bP CL rfl (bO (av (fM (w:=w) rfl hr.hd) rfl mso cI (aa (aG (ku (w:=w) rfl hr.hd hr.units) rfl mst PySem.Pv.boot_set (aa (aS aV (pv 0) ak (λ_ _=>rfl)) ag)) ag))) (aq (i:=2) oE.nd rfl (Or.inl rfl))
   (au (bE (aJ o4 (aS aV (pv 2) ak (λ_ _=>rfl)) (aS aV (pv 2) ak (λ_ _=>rfl)) (aU _))
    (ai (bN (cS Cr CU CV bL (aS cC (pv 1) (aS aV (pv 2) ak (λ_ _=>rfl)) (λ_ _=>rfl)) (aa (aS aV (pv 2) ak (λ_ _=>rfl)) ag)))
    (au (bN (cS Cr CU CV bL (aS cC (pv 1) (aS aV (pv 2) ak (λ_ _=>rfl)) (λ_ _=>rfl)) (aa (aS aV (pv 2) ak (λ_ _=>rfl)) ag))))) aO)))
  (au (aH (bG ["row"] [none] rfl (bO (pv 1)) rfl (λ_ _ _ _ _=>aq (i:=0) ndRo rfl (Or.inl rfl)) (λ_ _ _ _ _=>cu) (λ_ _ _ _ _=>av (lU (K:=K)) rfl mso cI (aa (pv 0) ag)))))),?_⟩
 let W0:Nat->List V->Hp->Prop:=λi ys H'=>aD H H'/\∃as:List Addr,ys=as.map V.ref/\as.length=i/\as.Nodup/\∀a∈as,H a=none/\H' a=some (.lst [])
 refine ⟨_,rfl,r,_,0,_,rfl,rfl,SqT.of e1,rfl,m,rfl,by lia,by lia,dW (lo:=0) (n:=m.toNat) W0 ⟨aD.refl _,[],rfl,rfl,FV,λa ha=>by cases ha⟩ (small (by lia)) ?_ ?_⟩
 ·rintro i ys H3 hi hy ⟨s3,as,rfl,la,nd,ha⟩ R1 R0 r1 r0
  refine bQ ⟨(by show 0<=B4;decide),λp hp=>r1 _ _ ⟨s3.trans (af hp _),as++[p],by rw[B5];rfl,by rw[BR,la];rfl,?_,λa m' =>?_⟩⟩
  ·rw[FI]
   refine ⟨nd,D1.mpr ⟨by simp,FV⟩,λx hx y hy e =>?_⟩
   rw[BU] at hy
   subst hy;subst e
   rw[(ha x hx).2] at hp;cases hp
  ·rcases B0.mp m' with z | z
   ·exact ⟨(ha a z).1,(af hp _) _ _ (ha a z).2⟩
   ·rw[BU] at z
    subst z
    refine ⟨?_,ah⟩
    cases e:H a with
    | none=>rfl
    | some o=>rw[s3 _ _ e] at hp;cases hp
 rintro ys H3 hy ⟨s3,as,rfl,la,nd,ha⟩ l hl
 have s1:=s3.trans (af hl (.lst (as.map V.ref)))
 have nl:l∉as:=λz=>by rw[(ha l z).2] at hl;cases hl
 have ha1:∀a∈as,upd H3 l (.lst (as.map V.ref)) a=some (.lst []):=λa z=>(af hl _) _ _ (ha a z).2
 have hl1:upd H3 l (.lst (as.map V.ref)) l=some (.lst (as.map V.ref)):=ah
 generalize upd H3 l (.lst (as.map V.ref))=H1 at s1 ha1 hl1
 have tsl:=W.len
 refine ⟨_,rfl,r,_,1,_,rfl,rfl,SqT.of (s1 _ _ e1),rfl,t,ts,rfl,.inr (SqT.of (s1 _ _ e2)),λu hu=>SqT.of (s1 _ _ (W.tup u hu)),by lia,λa us hna mu ndu cov hlu =>?_⟩
 have sa:=af hna (cQ w a (us.map λt =>.ref t.1))
 refine ⟨a,us,rfl,ah,λu hu=>⟨SqT.of (sa _ _ (s1 _ _ (W.tup u (mu u hu)))),λz =>?_⟩,by lia,λl2 out hl2 pm ps =>?_⟩
 ·obtain ⟨x,y,e,_⟩:=W.pr u (mu u hu)
  rw[z] at e;cases e
 have s2':=sa.trans (af hl2 (.lst (out.map λt =>.ref t.1)))
 have s2:=s1.trans s2'
 have nl2:l2∉as:=λz=>by rw[sa _ _ (ha1 l2 z)] at hl2;cases hl2
 have h2l2:upd (upd H1 a (cQ w a (us.map λt =>.ref t.1))) l2 (.lst (out.map λt =>.ref t.1)) l2=some (.lst (out.map λt =>.ref t.1)):=ah
 generalize upd (upd H1 a (cQ w a (us.map λt =>.ref t.1))) l2 (.lst (out.map λt =>.ref t.1))=H2 at s2 s2' h2l2
 have old:∀{b:Addr} {o:HO},H b=some o->b∉as:=λ{b o} e z=>by rw[(ha b z).1] at e;cases e
 let W1:Nat->St->Hp->Prop:=λi σ H'=>(∃c,σ=[some (.ref r),some (.ref l),c])/\∃vs,Rows H2 H' as vs/\AJ vs m.toNat ((out.take i).map (·.2))
 refine ⟨l2,rfl,⟨_,SqL.of h2l2⟩,dJ (xs:=out.map λu =>.ref u.1) W1 ⟨⟨_,rfl⟩,CG m.toNat [],⟨by rw[EV,la],λj b v eb ev =>?_,λb u _ e=>e⟩,EV ..,λj v ev =>?_⟩ (λi σ H' _ z =>?_) ?_ ?_⟩
 ·rw[Gg] at ev
  split at ev
  ·cases ev
   exact s2' _ _ (ha1 b (BV eb))
  ·cases ev
 ·rw[Gg] at ev
  split at ev
  ·cases ev;rfl
  ·cases ev
 ·obtain ⟨_,vs,R,_⟩:=z
  exact SqL.of (R.stay l2 _ nl2 h2l2)
 ·rintro i x σ H' hx ⟨⟨c,rfl⟩,vs,R,lv,RO⟩
  obtain ⟨u,eu,rfl⟩:=item hx
  have mts:=mu u (pm.mem_iff.mp (BV eu))
  obtain ⟨x,y,e3,x0,xy,ym⟩:=W.pr u mts
  have hu0:=W.tup u mts
  have hu':H' u.1=some (.tup [.int x,.int y]):=by
   rw[e3] at hu0
   exact R.stay _ _ (old hu0) (s2 _ _ hu0)
  have tk:(out.take (i+1)).map (·.2)=(out.take i).map (·.2)++[[x,y]]:=by rw[take_snoc (f:=λu:Addr×List Int=>u.2) eu,e3]
  obtain ⟨xn,rfl⟩:∃n:Nat,x=n:=⟨x.toNat,by lia⟩
  obtain ⟨yn,rfl⟩:∃n:Nat,y=n:=⟨y.toNat,by lia⟩
  have hlst:=R.stay l _ nl (s2' _ _ hl1)
  have axn:as[xn]? = some as[xn]:=BO (by lia)
  have ayn:as[yn]? = some as[yn]:=BO (by lia)
  have vxn:vs[xn]? = some vs[xn]:=BO (by lia)
  have vyn:vs[yn]? = some vs[yn]:=BO (by lia)
  have at1:atI (as.map V.ref) (xn:Int)=some (.ref as[xn]):=dz (by rw[B7,axn];rfl)
  have at2:atI (as.map V.ref) (yn:Int)=some (.ref as[yn]):=dz (by rw[B7,ayn];rfl)
  have ll:∀(j:Nat) v,vs[j]? = some v->v.length<=200:=λj v ev=>by
   rw[RO j v ev]
   refine CP (tM _ _) ?_
   rw[BK,Di]
   have:=pm.length_eq
   lia
  refine ⟨_,rfl,u.1,_,0,_,rfl,rfl,SqT.of hu',rfl,_,rfl,u.1,_,1,_,rfl,rfl,SqT.of hu',rfl,rfl,_,rfl,?_⟩
  by_cases hxy:xn=yn
  ·subst hxy
   refine vT rfl ⟨⟨_,rfl⟩,vs,R,lv,λj v ev =>?_⟩
   have nil:nb1 [(xn:Int),(xn:Int)] j=[]:=by unfold nb1;simp
   rw[tk,qp,nil,CK]
   exact RO j v ev
  ·have hd:decide (V.int (xn:Int)=V.int (yn:Int))=false:=decide_eq_false λz=>hxy (by injection z with z;lia)
   rw[hd]
   have rowx:=R.row xn _ _ axn vxn
   have R1:=R.push nd axn vxn (yn:Int)
   have vyn':(vs.set xn (vs[xn]++[(yn:Int)]))[yn]? = some vs[yn]:=by rw[Ee hxy];exact vyn
   have rowy:=R1.row yn _ _ ayn vyn'
   have R2:=R1.push nd ayn vyn' (xn:Int)
   have hu2:=R1.stay _ _ (old hu0) (s2 _ _ hu0)
   rw[e3] at hu2
   have hlst2:=R1.stay l _ nl (s2' _ _ hl1)
   refine bQ ⟨_,rfl,_,rfl,u.1,_,0,_,rfl,rfl,SqT.of hu',rfl,l,_,(xn:Int),_,rfl,rfl,SqL.of hlst,at1,.inl ⟨rfl,_,SqL.of rowx⟩,_,rfl,u.1,_,1,_,rfl,rfl,SqT.of hu',rfl,as[xn],_,_,rfl,rfl,rowx,(by rw[BK];exact bA (by have:=ll _ _ vxn;lia)),?_⟩
   refine ⟨_,rfl,_,rfl,u.1,_,1,_,rfl,rfl,SqT.of hu2,rfl,l,_,(yn:Int),_,rfl,rfl,SqL.of hlst2,at2,.inl ⟨rfl,_,SqL.of rowy⟩,_,rfl,u.1,_,0,_,rfl,rfl,SqT.of hu2,rfl,as[yn],_,_,rfl,rfl,rowy,(by rw[BK];exact bA (by have:=ll _ _ vyn;lia)),?_⟩
   refine ⟨⟨_,rfl⟩,_,R2,by rw[G8,G8];exact lv,λj v ev =>?_⟩
   rw[tk,qp]
   by_cases jy:yn=j
   ·subst jy
    rw[DY (by rw[G8];lia)] at ev
    cases ev
    have e4:nb1 [(xn:Int),(yn:Int)] yn=[(xn:Int)]:=by
     show (if (xn:Int)=yn then [] else if (xn:Int)=yn then [(yn:Int)] else if (yn:Int)=yn then [(xn:Int)] else [])=_
     rw[if_neg (by lia),if_neg (by lia),if_pos rfl]
    rw[e4, <- RO yn _ vyn]
   ·rw[Ee jy] at ev
    by_cases jx:xn=j
    ·subst jx
     rw[DY (by lia)] at ev
     cases ev
     have e4:nb1 [(xn:Int),(yn:Int)] xn=[(yn:Int)]:=by
      show (if (xn:Int)=yn then [] else if (xn:Int)=xn then [(yn:Int)] else if (yn:Int)=xn then [(xn:Int)] else [])=_
      rw[if_neg (by lia),if_pos rfl]
     rw[e4, <- RO xn _ vxn]
    ·rw[Ee jx] at ev
     have e4:nb1 [(xn:Int),(yn:Int)] j=[]:=by
      show (if (xn:Int)=yn then [] else if (xn:Int)=j then [(yn:Int)] else if (yn:Int)=j then [(xn:Int)] else [])=_
      rw[if_neg (by lia),if_neg (by lia),if_neg (by lia)]
     rw[e4,CK]
     exact RO j v ev
 ·rintro σ H' ⟨⟨c,rfl⟩,vs,R,lv,RO⟩
  have hlst:=R.stay l _ nl (s2' _ _ hl1)
  rw[BK,B9 (BS _)] at RO
  have sH':aD H H':=λb o e=>R.stay b o (old e) (s2 _ _ e)
  have kns:(out.map (·.2)).Nodup:=((pm.map (·.2)).nodup_iff).mpr ndu
  have mns:∀x,x∈out.map (·.2)↔x∈ts.map (·.2):=λx=>by
   rw[(pm.map (·.2)).mem_iff]
   constructor
   ·intro hx
    obtain ⟨u,hu,rfl⟩:=Cv.mp hx
    exact Cv.mpr ⟨u,mu u hu,rfl⟩
   ·intro hx
    obtain ⟨u,hu,rfl⟩:=Cv.mp hx
    exact cov u hu
  have pns:∀p∈out.map (·.2),∃a b:Int,p=[a,b]/\a<=b:=λp hp=>by
   obtain ⟨u,hu,rfl⟩:=Cv.mp ((mns p).mp hp)
   obtain ⟨a,b,e,_,ab,_⟩:=W.pr u hu
   exact ⟨a,b,e,ab⟩
  have nbm:∀k x,x∈nbs (out.map (·.2)) k↔x∈nbs (ts.map (·.2)) k:=λk x=>by
   rw[cq,cq]
   exact ⟨λ⟨p,hp,z⟩=>⟨p,(mns p).mp hp,z⟩,λ⟨p,hp,z⟩=>⟨p,(mns p).mpr hp,z⟩⟩
  let W2:Nat->List V->Hp->Prop:=λi ys H5=>aD H' H5/\∃os:List (Addr×List Int),ys=(os.map λu=>V.ref u.1)/\os.length=i/\(∀u∈os,H5 u.1=some (.lst (u.2.map V.int)))/\∀(j:Nat) u v,os[j]? = some u->vs[j]? = some v->u.2.Perm v/\u.2.Pairwise (· <= ·)
  refine ⟨_,rfl,l,rfl,⟨_,SqL.of hlst⟩,bV (xs:=as.map V.ref) W2 ⟨aD.refl _,[],rfl,rfl,λu hu=>(by cases hu),λj u v eu=>by simp at eu⟩ (by rw[BK];exact small (by lia)) (λi ys H5 _ z=>SqL.of (z.1 _ _ hlst)) ?_ ?_⟩
  ·rintro i x ys H5 hx hy ⟨s5,os,rfl,lo,ho,po⟩ R1 R0 r1 r0
   rw[B7] at hx
   cases ea:as[i]? with
   | none=>rw[ea] at hx;cases hx
   | some a5 =>
    rw[ea] at hx
    cases hx
    have hi:i<as.length:=(B1.mp ea).1
    have ev:vs[i]? = some vs[i]:=BO (by lia)
    have rowa:=s5 _ _ (R.row i _ _ ea ev)
    refine bQ ⟨_,rfl,a5,vs[i],rfl,.inl (SqL.of rowa),λl5 o5 hl5 pm5 ps5=>r1 _ _ ⟨s5.trans (af hl5 _),os++[(l5,o5)],by rw[B5];rfl,by rw[BR,lo];rfl,λu hu =>?_,λj u v eu ev' =>?_⟩⟩
    ·rcases B0.mp hu with z | z
     ·exact (af hl5 _) _ _ (ho u z)
     ·rw[BU] at z;subst z;exact ah
    ·by_cases hj:j<os.length
     ·rw[CB hj] at eu
      exact po j u v eu ev'
     ·have hj2:j=i:=by
       have:=(B1.mp eu).1
       rw[BR,C7] at this
       lia
      subst hj2
      rw[C6 (by lia),show j-os.length=0 by lia] at eu
      cases eu
      rw[ev] at ev';cases ev'
      exact ⟨pm5,ps5⟩
  ·rintro ys H5 hy ⟨s5,os,rfl,lo,ho,po⟩ l5 hl5
   rw[BK] at lo
   have s6:=af hl5 (.lst (os.map λu=>V.ref u.1))
   refine q l5 _ os (sH'.trans (s5.trans s6)) ah (by lia) (λu hu=>s6 _ _ (ho u hu)) λj u eu =>?_
   have hj:j<os.length:=(B1.mp eu).1
   have ev:vs[j]? = some vs[j]:=BO (by lia)
   obtain ⟨p1,p2⟩:=po j u _ eu ev
   have e5:=RO j _ ev
   rw[e5] at p1
   refine ⟨fW p2 (p1.nodup_iff.mpr (m6 kns pns)),λx =>?_⟩
   rw[p1.mem_iff]
   exact nbm _ _
end
open PySem L2
def Adj (ns:List (List Int))(u v:Int):Prop:=v∈nbs ns u
inductive Con (ns:List (List Int)):Int->Int->Prop
 | refl (u:Int):Con ns u u
 | step {u v w:Int}:Con ns u v->Adj ns v w->Con ns u w
def Ok (m:Nat)(ns:List (List Int)):Prop:=∀p∈ns,∃a b:Int,p=[a,b]/\0<=a/\a<=b/\b<m
theorem cO {m:Nat}{ns:List (List Int)}(O:Ok m ns){u v:Int}:Adj ns u v↔∃a b:Int,[a,b]∈ns/\a≠b/\((a=u/\v=b)\/(b=u/\v=a)):=by
 unfold Adj
 rw[cq]
 constructor
 ·rintro ⟨p,hp,h⟩
  obtain ⟨a,b,rfl,_⟩:=O p hp
  exact ⟨a,b,hp,jE.mp h⟩
 ·rintro ⟨a,b,hp,h⟩
  exact ⟨[a,b],hp,jE.mpr h⟩
theorem xh {m:Nat}{ns:List (List Int)}(O:Ok m ns){u v:Int}(h:Adj ns u v):Adj ns v u:=by
 rw[cO O] at *
 obtain ⟨a,b,hp,ne,h⟩:=h
 refine ⟨a,b,hp,ne,?_⟩
 rcases h with ⟨h1,h2⟩ | ⟨h1,h2⟩
 ·exact .inr ⟨h2.symm,h1.symm⟩
 ·exact .inl ⟨h2.symm,h1.symm⟩
theorem oF {m:Nat}{ns:List (List Int)}(O:Ok m ns){u v:Int}(h:Adj ns u v):(0<=u/\u<m)/\0<=v/\v<m:=by
 rw[cO O] at h
 obtain ⟨a,b,hp,ne,h⟩:=h
 obtain ⟨a',b',e,h1,h2,h3⟩:=O _ hp
 injection e with e1 e2
 injection e2 with e2 _
 subst e1;subst e2
 rcases h with ⟨h4,h5⟩ | ⟨h4,h5⟩ <;> subst h4 <;> subst h5 <;> omega
theorem Con.trans {ns:List (List Int)}{u v w:Int}(h:Con ns u v)(h2:Con ns v w):Con ns u w:=by
 induction h2 with
 | refl=>exact h
 | step _ a ih=>exact .step ih a
theorem Con.one {ns:List (List Int)}{u v:Int}(h:Adj ns u v):Con ns u v :=.step (.refl u) h
theorem Con.symm {m:Nat}{ns:List (List Int)}(O:Ok m ns){u v:Int}(h:Con ns u v):Con ns v u:=by
 induction h with
 | refl=>exact .refl _
 | step _ a ih=>exact (Con.one (xh O a)).trans ih
theorem Con.rng {m:Nat}{ns:List (List Int)}(O:Ok m ns){u v:Int}(h:Con ns u v)(hu:0<=u/\u<m):0<=v/\v<m:=by
 induction h with
 | refl=>exact hu
 | step _ a _=>exact (oF O a).2
theorem Con.closed {ns:List (List Int)}{u v:Int}(h:Con ns u v){R:Int->Prop}(hu:R u)(hc:∀x y,R x->Adj ns x y->R y):R v:=by
 induction h with
 | refl=>exact hu
 | step _ a ih=>exact hc _ _ ih a
def rgI (m:Nat):List Int:=(Dl m).map λi:Nat=>(i:Int)
theorem iB {m:Nat}{v:Int}:v∈rgI m↔0<=v/\v<m:=by
 unfold rgI
 rw[Cv]
 constructor
 ·rintro ⟨i,hi,rfl⟩
  rw[Dr] at hi
  lia
 ·intro h
  exact ⟨v.toNat,Dr.mpr (by lia),by lia⟩
open Classical in
noncomputable def fD (ns:List (List Int))(m:Nat)(u:Int):List Int:=(rgI m).filter λv=>decide (Con ns u v)
open Classical in
theorem nc {m:Nat}{ns:List (List Int)}(O:Ok m ns){u v:Int}(hu:0<=u/\u<m):v∈fD ns m u↔Con ns u v:=by
 unfold fD
 rw[Dc]
 constructor
 ·intro h;exact of_decide_eq_true h.2
 ·intro h
  have:=h.rng O hu
  exact ⟨iB.mpr this,decide_eq_true h⟩
theorem kT (m:Nat):(rgI m).Pairwise (· < ·):=by
 unfold rgI
 rw[Dh]
 exact Gz.imp λh=>by lia
theorem kU (ns:List (List Int))(m:Nat)(u:Int):(fD ns m u).Pairwise (· < ·):=(kT m).filter _
def Fst (ns:List (List Int))(u:Int):Prop:=∀w:Int,0<=w->w<u->¬ Con ns w u
open Classical in
noncomputable def ba (ns:List (List Int))(m i:Nat):List (List Int):=((rgI i).filter λu=>decide (Fst ns u)).map (fD ns m)
theorem iC (ns:List (List Int))(m i:Nat)[Decidable (Fst ns (i:Int))]:ba ns m (i+1)=ba ns m i++if Fst ns (i:Int) then [fD ns m i] else []:=by
 unfold ba
 have e:rgI (i+1)=rgI i++[(i:Int)]:=by unfold rgI;rw[Kr,B5];rfl
 rw[e,Gs,B5]
 congr 1
 by_cases h:Fst ns (i:Int)
 ·rw[if_pos h];simp[h]
 ·rw[if_neg h];simp[h]
def gt (L:List Int)(a:Int):Int:=L.getD a.toNat 0
def lower (L:List Int)(p:List Int):List Int :=
 let x:=mnI (gt L (p.getD 0 0)) (gt L (p.getD 1 0))
 (L.set (p.getD 0 0).toNat x).set (p.getD 1 0).toNat x
theorem yS {m:Nat}{ns:List (List Int)}(O:Ok m ns){a b:Int}(hp:[a,b]∈ns):Con ns a b:=by
 by_cases h:a=b
 ·subst h;exact .refl a
 ·exact .one ((cO O).mpr ⟨a,b,hp,h,.inl ⟨rfl,rfl⟩⟩)
def rounds (ns:List (List Int)):Nat->List Int->List Int
 | 0,L=>L
 | r+1,L=>ns.foldl lower (rounds ns r L)
def has (m:Nat)(L:List Int)(c:Int):Nat:=(rgI m).countP λv=>decide (gt L v=c)
theorem xk {m:Nat}{ns:List (List Int)}(O:Ok m ns):∀(n:Nat) (v:Int),0<=v->v<m->v.toNat<=n->∃c,Fst ns c/\0<=c/\c<m/\Con ns c v:=by
 intro n
 induction n with
 | zero =>
  intro v v0 vm hn
  exact ⟨v,λw w0 lt=>by lia,v0,vm,.refl v⟩
 | succ n ih =>
  intro v v0 vm hn
  by_cases hf:Fst ns v
  ·exact ⟨v,hf,v0,vm,.refl v⟩
  ·have:∃w,0<=w/\w<v/\Con ns w v:=FW λz=>hf λw w0 lt hw=>z ⟨w,w0,lt,hw⟩
   obtain ⟨w,w0,lt,hw⟩:=this
   obtain ⟨c,c1,c2,c3,c4⟩:=ih w w0 (by lia) (by lia)
   exact ⟨c,c1,c2,c3,c4.trans hw⟩
theorem qr {m:Nat}{ns:List (List Int)}(O:Ok m ns){c d:Int}(hc:Fst ns c)(hd:Fst ns d)(c0:0<=c)(d0:0<=d)(h:Con ns c d):c=d:=by
 have h1:¬ c<d:=λlt=>hd c c0 lt h
 have h2:¬ d<c:=λlt=>hc d d0 lt (h.symm O)
 lia
def drawn (m:Nat)(L:List Int):List (List Int):=((rgI m).filter λf=>decide (gt L f=f)).map λf=>(rgI m).filter λv=>decide (gt L v=f)
def eL (R:List Int):List (Key×V):=R.map λk=>(Sum.inl k,V.bl true)
theorem kX (v:Int):∀R:List Int,dQ (eL R) (Sum.inl v)=if v∈R then some (.bl true) else none
 | []=>by simp[eL,dQ]
 | k :: R=>by
  have ih:=kX v R
  unfold eL at *
  rw[CC]
  by_cases h:k=v
  ·subst h
   rw[fN rfl,if_pos Ck]
  ·rw[fO (λe=>h (by injection e)),ih]
   by_cases hv:v∈R
   ·rw[if_pos hv,if_pos (Cf _ hv)]
   ·rw[if_neg hv,if_neg (λz=>(Cg.mp z).elim (λy=>h y.symm) hv)]
theorem ng (v:Int)(R:List Int):(dQ (eL R) (Sum.inl v)).isSome=decide (v∈R):=by
 rw[kX]
 by_cases h:v∈R
 ·rw[if_pos h,decide_eq_true h];rfl
 ·rw[if_neg h,decide_eq_false h];rfl
theorem qu {v:Int}{R:List Int}(h:v∉R):putK (eL R) (Sum.inl v) (.bl true)=eL (R++[v]):=by
 rw[pX _ (by rw[kX,if_neg h])]
 unfold eL
 rw[B5]
 rfl
theorem iD (R:List Int):(eL R).length=R.length:=by unfold eL;rw[BK]
theorem vi (R:List Int):(eL R).map (·.1)=R.map Sum.inl:=by unfold eL;rw[GK];rfl
theorem cB {R:List Int}{m:Nat}(nd:R.Nodup)(h:∀v∈R,0<=v/\v<m):R.length<=m:=by
 have:=Ex nd (l₂:=rgI m) λv hv=>iB.mpr (h v hv)
 unfold rgI at this
 rw[BK,D6] at this
 exact this
theorem kY {R:List Int}{v:Int}(nd:R.Nodup)(h:v∉R):(R++[v]).Nodup:=by
 rw[FI]
 exact ⟨nd,D1.mpr ⟨by simp,FV⟩,λx hx y hy e=>h (by rw[BU] at hy;subst hy;subst e;exact hx)⟩
structure fX (H:Hp)(n:Addr)(m:Nat)(ns:List (List Int))(os:List (Addr×List Int)):Prop where
 at':H n=some (.lst (os.map λu =>.ref u.1))
 len:os.length=m
 row:∀u∈os,H u.1=some (.lst (u.2.map V.int))
 is:∀(j:Nat) u,os[j]? = some u->∀x,x∈u.2↔x∈nbs ns (j:Int)
theorem fX.same {H H':Hp}{n:Addr}{m:Nat}{ns:List (List Int)}{os:List (Addr×List Int)}(h:fX H n m ns os)(s:aD H H'):fX H' n m ns os:=⟨s _ _ h.at',h.len,λu hu=>s _ _ (h.row u hu),h.is⟩
abbrev qv:Sp:=λvs H Q _=>∃(n:Addr) (m:Nat) (ns:List (List Int)) (os:List (Addr×List Int)) (s:Int),vs=[.ref n,.int s]/\fX H n m ns os/\Ok m ns/\m<=400/\0<=s/\s<m/\∀(l:Addr) (H':Hp),aD H H'->H' l=some (.lst ((fD ns m s).map V.int))->Q (.ref l) H'
@[irreducible] def jF:Sp:=qv
theorem fY {vs:List V}{H:Hp}{Q:VK}{E:XK}:jF vs H Q E↔qv vs H Q E:=by
 delta jF
 exact Eg
def kZ (H:Hp)(d:Addr):Nat:=match H d with | some (.dK kvs)=>kvs.length | _=>0
def lV (H:Hp)(y:Addr):Nat:=match H y with | some (.lst xs)=>xs.length | _=>0
structure RY (ns:List (List Int))(m:Nat)(s:Int)(R Y:List Int):Prop where
 nd:R.Nodup
 st:s∈R
 con:∀v∈R,Con ns s v
 sub:∀v∈Y,v∈R
section
variable  {P:Ca}{w:CJ}{K:BP}{mg:Str->Option BM}{base:Heap}{f:Addr}{fd:De}
theorem iE:aK ["near", "start", "reached", "ready", "place", "other"] ["near", "start"] (aA xc):=⟨rfl,rfl,rfl,by decide +kernel,rfl,by decide +kernel,by decide +kernel⟩
theorem yT (F:Fun K "reached_from" "reached_from" xc f fd)(mso:mg "sorted" = none):bM P w K mg base CX0 1 f fd ["near", "start"] jF:=by
 refine F.ok iE (λvs H Q E h =>?_) (λcdv A outer s0 H vs Q E hr h =>?_)
 ·obtain ⟨a,b,c,d,e,rfl,_⟩:=fY.mp h
  rfl
 obtain ⟨n,m,ns,os,s,rfl,N,O,m9,s0',sm,q⟩:=fY.mp h
 have hu:=vS hr
 refine ⟨_,ai (aM (i:=2) iE.nd rfl (Or.inl rfl) (tj (qb (pv 1) gF ti) rfl rfl (by simp) (by decide)))
  (ai (aM (i:=3) iE.nd rfl (Or.inl rfl) (bY (aa (pv 1) ag)))
  (ai (jQ CL (o6 (pv 3) (λ_=>rfl))
   (ai (aM (i:=4) iE.nd rfl (Or.inl rfl) (z4 Cr GL GN z5 (pv 3)))
   (au (bP CL rfl (bO (aS cC (pv 0) (pv 4) (λ_ _=>rfl))) (aq (i:=5) iE.nd rfl (Or.inl rfl))
    (au (bE (jO (eF hu (pv 5) (pv 2)))
     (ai (og hu (pv 2) (pv 5) gF rfl) (au (bN (cS Cr CU CV bL (pv 3) (aa (pv 5) ag))))) aO))))))
  (au (aH (av (oj hr.hd) rfl mso cI (aa (pv 2) ag)))))),?_⟩
 refine λd hd=>⟨_,rfl,ah,[(Sum.inl s,.bl true)],rfl,(by show 1<=15;decide),_,rfl,(by show 1<=B4;decide),λy hy =>?_⟩
 have e1d:upd (upd H d (.dK [])) d (.dK (dt [] [(Sum.inl s,V.bl true)])) d=some (.dK (eL [s])):=ah
 have s1:aD H (upd (upd H d (.dK [])) d (.dK (dt [] [(Sum.inl s,V.bl true)]))):=λb o e=>by
  rw[aE (aB e hd),aE (aB e hd)];exact e
 have hy0:H y=none:=by
  cases e:H y with
  | none=>rfl
  | some o=>rw[s1 _ _ e] at hy;cases hy
 have ndy:d≠y:=aB e1d hy
 have e2d:=(af hy (.lst [.int s])) _ _ e1d
 have e2y:upd (upd (upd H d (.dK [])) d (.dK (dt [] [(Sum.inl s,V.bl true)]))) y (.lst [.int s]) y=some (.lst (([s]:List Int).map V.int)):=ah
 have s2:=s1.trans (af hy (.lst [.int s]))
 generalize upd (upd (upd H d (.dK [])) d (.dK (dt [] [(Sum.inl s,V.bl true)]))) y (.lst [.int s])=H2 at e2d e2y s2
 have rngR:∀{R Y:List Int},RY ns m s R Y->∀v∈R,0<=v/\v<m:=λI v hv=>(I.con v hv).rng O ⟨s0',sm⟩
 dsimp only[fG,AX]
 refine jS (λσ H'=>∃(c4 c5:Option V) (R Y:List Int),σ=[some (.ref n),some (.int s),some (.ref d),some (.ref y),c4,c5]/\aD H H'/\H' d=some (.dK (eL R))/\H' y=some (.lst (Y.map V.int))/\RY ns m s R Y/\2*(m-R.length)+Y.length<=2*m/\(∀u∈R,u∉Y->∀v,Adj ns u v->v∈R))
  (λ_ H'=>2*(m-kZ H' d)+lV H' y) ⟨none,none,[s],[s],rfl,s2,e2d,e2y,⟨D1.mpr ⟨by simp,FV⟩,Ck,λv hv =>?_,λv hv=>hv⟩,by show 2*(m-1)+1<=2*m;lia,λu hu nu=>absurd hu nu⟩ ?_ (by rintro σ H Q Q' h ⟨v,e,k,t,q⟩;exact ⟨v,e,k,t,h _ _ q⟩)
 ·rw[BU] at hv;subst hv;exact .refl _
 rintro σ H' ⟨c4,c5,R,Y,rfl,s',ed,ey,I,ly,cl⟩
 refine ⟨_,rfl, !(Y.map V.int).isEmpty,.inl ⟨_,SqL.of ey,rfl⟩,?_⟩
 have mu0:2*(m-kZ H' d)+lV H' y=2*(m-R.length)+Y.length:=by
  unfold kZ lV
  rw[ed,ey]
  dsimp only
  rw[iD,BK]
 rcases GO Y with hY | ⟨Y',p,hY⟩
 ·subst hY
  refine bT ⟨_,rfl,d,eL R,R,rfl,ed,vi R,λl out hl pm ps =>?_⟩
  have eo:out=fD ns m s:=m8 (fW ps (pm.nodup_iff.mpr I.nd)) (kU ns m s) λx=>by
   rw[pm.mem_iff,nc O ⟨s0',sm⟩]
   exact ⟨I.con x,λh=>h.closed I.st λx y hx a=>cl x hx (by simp) y a⟩
  subst eo
  exact q l _ (s'.trans (af hl _)) ah
 ·rw[GP] at hY
  subst hY
  have hne:(!(List.map V.int (Y'++[p])).isEmpty)=true:=by simp
  rw[hne]
  have pR:p∈R:=I.sub p (by simp)
  have pr:=rngR I p pR
  obtain ⟨pn,rfl⟩:∃k:Nat,p=k:=⟨p.toNat,by lia⟩
  refine bQ ⟨_,rfl,.inl ⟨rfl,_,SqL.of ey⟩,y,_,.int pn,rfl,rfl,ey,?_,?_⟩
  ·rw[B5,BR];simp
  have dl:(List.map V.int (Y'++[(pn:Int)])).dropLast=Y'.map V.int:=by rw[B5];exact List.dropLast_concat
  rw[dl]
  have s3:aD H (upd H' y (.lst (Y'.map V.int))):=λb o e=>by rw[aE (aB e hy0)];exact s' _ _ e
  have ed3:upd H' y (.lst (Y'.map V.int)) d=some (.dK (eL R)):=by rw[aE ndy];exact ed
  have ey3:upd H' y (.lst (Y'.map V.int)) y=some (.lst (Y'.map V.int)):=ah
  generalize upd H' y (.lst (Y'.map V.int))=H3 at s3 ed3 ey3
  have N3:=N.same s3
  have pl:pn<os.length:=by rw[N.len];lia
  obtain ⟨uu,eu⟩:∃u,os[pn]? = some u:=⟨_,BO pl⟩
  have rowu:=N3.row _ (BV eu)
  have isu:=N.is pn _ eu
  rw[BR,C7] at ly mu0
  refine ⟨_,rfl,_,rfl,n,_,(pn:Int),_,rfl,rfl,SqL.of N3.at',dz (by rw[B7,eu];rfl),uu.1,rfl,⟨_,SqL.of rowu⟩,dJ (xs:=uu.2.map V.int)
   (λi σ H4=>∃(c5:Option V) (R4 Y4:List Int),σ=[some (.ref n),some (.int s),some (.ref d),some (.ref y),some (.int pn),c5]/\aD H H4/\H4 d=some (.dK (eL R4))/\H4 y=some (.lst (Y4.map V.int))/\RY ns m s R4 Y4/\(pn:Int)∈R4/\(∀u∈R4,u∉Y4->u≠pn->∀v,Adj ns u v->v∈R4)/\(∀v∈uu.2.take i,v∈R4)/\R4.length<=m/\2*(m-R4.length)+Y4.length+1<=2*(m-R.length)+(Y'.length+1))
   ⟨_,R,Y',rfl,s3,ed3,ey3,⟨I.nd,I.st,I.con,λv hv=>I.sub v (CH _ hv)⟩,pR,λu hu nu ne=>cl u hu (λz=>(B0.mp z).elim nu λz=>ne (by simpa using z)),λv hv=>by simp at hv,cB I.nd (rngR I),by lia⟩ (λi σ H4 _ z =>?_) ?_ ?_⟩
  ·obtain ⟨_,_,_,_,s4,_⟩:=z
   exact SqL.of ((N.same s4).row _ (BV eu))
  ·rintro i x σ H4 hx ⟨c5,R4,Y4,rfl,s4,ed4,ey4,I4,p4,cl4,tk4,l4,mu4⟩
   rw[B7] at hx
   cases ho:uu.2[i]? with
   | none=>rw[ho] at hx;cases hx
   | some o =>
   rw[ho] at hx
   cases hx
   have tks:uu.2.take (i+1)=uu.2.take i++[o]:=by rw[Dp,ho];rfl
   have oA:Adj ns pn o:=(isu o).mp (BV ho)
   refine ⟨_,rfl,_,rfl,d,_,rfl,iT.k (k:=Sum.inl o) ed4,_,rfl,?_⟩
   rw[ng]
   by_cases hR:o∈R4
   ·rw[decide_eq_true hR]
    refine bT ⟨_,R4,Y4,rfl,s4,ed4,ey4,I4,p4,cl4,λv hv =>?_,l4,mu4⟩
    rw[tks] at hv
    rcases B0.mp hv with z | z
    ·exact tk4 v z
    ·rw[BU] at z;subst z;exact hR
   ·rw[decide_eq_false hR]
    have I5:RY ns m s (R4++[o]) (Y4++[o]):=by
     refine ⟨kY I4.nd hR,CH _ I4.st,λv hv =>?_,λv hv =>?_⟩
     ·rcases B0.mp hv with z | z
      ·exact I4.con v z
      ·rw[BU] at z;subst z;exact .step (I4.con _ p4) oA
     ·rcases B0.mp hv with z | z
      ·exact CH _ (I4.sub v z)
      ·exact Cu _ z
    have l5:=cB I5.nd (rngR I5)
    rw[BR,C7] at l5
    refine bQ ⟨_,rfl,_,rfl,d,_,rfl,p8.k (k:=Sum.inl o) ed4 (by rw[iD];exact bA (by lia)),?_⟩
    rw[qu hR]
    have ey5:upd H4 d (.dK (eL (R4++[o]))) y=some (.lst (Y4.map V.int)):=by rw[aE (Dq ndy)];exact ey4
    refine ⟨_,rfl,.inl ⟨rfl,_,SqL.of ey5⟩,_,rfl,y,_,_,rfl,rfl,ey5,(by rw[BK];exact bA (by lia)),_,R4++[o],Y4++[o],rfl,λb ob e =>?_,?_,?_,I5,CH _ p4,λu hu nu ne v a =>?_,λv hv =>?_,by rw[BR,C7];exact l5,?_⟩
    ·rw[aE (aB e hy0),aE (aB e hd)];exact s4 _ _ e
    ·rw[aE ndy];exact ah
    ·rw[ah,B5];rfl
    ·rcases B0.mp hu with z | z
     ·exact CH _ (cl4 u z (λy=>nu (CH _ y)) ne v a)
     ·exact absurd (Cu _ z) nu
    ·rw[tks] at hv
     rcases B0.mp hv with z | z
     ·exact CH _ (tk4 v z)
     ·exact Cu _ z
    ·rw[BR,BR,C7];lia
  ·rintro σ H4 ⟨c5,R4,Y4,rfl,s4,ed4,ey4,I4,p4,cl4,tk4,l4,mu4⟩
   rw[BK,B9 (BS _)] at tk4
   have lr:=cB I.nd (rngR I)
   refine ⟨⟨_,_,R4,Y4,rfl,s4,ed4,ey4,I4,?_,λu hu nu v a =>?_⟩,?_⟩
   ·lia
   ·by_cases e:u=pn
    ·subst e
     exact tk4 v ((isu v).mpr a)
    ·exact cl4 u hu nu e v a
   ·show 2*(m-kZ H4 d)+lV H4 y<2*(m-kZ H' d)+lV H' y
    rw[mu0]
    unfold kZ lV
    rw[ed4,ey4]
    dsimp only
    rw[iD,BK]
    lia
end
open PySem L2
end K15
namespace L2
open PySem PySem.Spec PyProof.Rows
section
variable  {X:Cx}
end
end L2
namespace K15
open PySem L2
theorem Wb.ok {H:Hp}{r:Addr}{m:Nat}{ts:List (Addr×List Int)}(W:Wb H r (m:Int) ts):Ok m (ts.map (·.2)):=λp hp=>by
 obtain ⟨u,hu,rfl⟩:=Cv.mp hp
 exact W.pr u hu
abbrev tN:Sp:=λvs H Q _=>∃(r:Addr) (m:Nat) (ts:List (Addr×List Int)),vs=[.ref r]/\Wb H r m ts/\m<=400/\∀(l:Addr) (H':Hp) (os:List (Addr×List Int)),aD H H'->H l=none->H' l=some (.lst (os.map λu =>.ref u.1))->(∀u∈os,H' u.1=some (.tup (u.2.map V.int)))->os.map (·.2)=ba (ts.map (·.2)) m m->Q (.ref l) H'
@[irreducible] def oG:Sp:=tN
theorem gS {vs:List V}{H:Hp}{Q:VK}{E:XK}:oG vs H Q E↔tN vs H Q E:=by
 delta oG
 exact Eg
abbrev qw:Sp:=λvs H Q _=>∃(r:Addr) (m:Nat) (ts:List (Addr×List Int)),vs=[.ref r]/\Wb H r m ts/\m<=400/\∀H',aD H H'->Q (.int ((ts.length:Int)-m+((ba (ts.map (·.2)) m m).length:Nat))) H'
@[irreducible] def jG:Sp:=qw
theorem fZ {vs:List V}{H:Hp}{Q:VK}{E:XK}:jG vs H Q E↔qw vs H Q E:=by
 delta jG
 exact Eg
theorem js (ns:List (List Int))(m i:Nat):(ba ns m i).length<=i:=by
 unfold ba
 rw[BK]
 refine CP (Fy _ _) ?_
 unfold rgI
 rw[BK,D6]
 exact BS _
section
variable  {P:Ca}{w:CJ}{K:BP}{mg:Str->Option BM}{base:Heap}{f:Addr}{fd:De}
theorem gW:aK ["web", "near", "seen", "parts", "place", "part", "other"] ["web"] (aA zx):=⟨rfl,rfl,rfl,by decide +kernel,rfl,by decide +kernel,by decide +kernel⟩
theorem AK (F:Fun K "hanging_parts" "hanging_parts" zx f fd)(B:Blt mg)(cL:Cal P w K mg base 1 "near_lists" ["web"] iA)(cR:Cal P w K mg base 1 "reached_from" ["near", "start"] jF):bM P w K mg base CX0 2 f fd ["web"] oG:=by
 refine F.ok gW (λvs H Q E h =>?_) (λcdv A outer s0 H vs Q E hr h =>?_)
 ·obtain ⟨a,b,c,rfl,_⟩:=gS.mp h
  rfl
 obtain ⟨r,m,ts,rfl,W,m4,q⟩:=gS.mp h
 have O:=W.ok
 have hu:=vS hr
 obtain ⟨t,e1,e2⟩:=W.at'
 refine ⟨_,ai (aM (i:=1) gW.nd rfl (Or.inl rfl) (aN cL hr (by decide) rfl (aa (pv 0) ag)))
  (ai (aM (i:=2) gW.nd rfl (Or.inl rfl) wA)
  (ai (aM (i:=3) gW.nd rfl (Or.inl rfl) (bY ag))
  (ai (bP CL rfl (bJ rfl B.b_range (aa (aS aV (pv 0) ak (λ_ _=>rfl)) ag)) (aq (i:=4) gW.nd rfl (Or.inl rfl))
   (au (bE (jO (eF hu (pv 4) (pv 2)))
    (ai (aM (i:=5) gW.nd rfl (Or.inl rfl) (aN cR hr (by decide) rfl (aa (pv 1) (aa (pv 4) ag))))
    (ai (bP CL rfl (bO (pv 5)) (aq (i:=6) gW.nd rfl (Or.inl rfl)) (au (og hu (pv 2) (pv 6) gF rfl)))
    (au (bN (cS Cr CU CV bL (pv 3) (aa (aG aR rfl B.b_tuple Ep (aa (pv 5) ag)) ag)))))) aO)))
  (au (aH (pv 3)))))),?_⟩
 refine ⟨_,rfl,dX.mpr ⟨r,m,ts,rfl,W,by lia,by lia,λn H1 os s1 en lo ho po =>?_⟩⟩
 have N:fX H1 n m (ts.map (·.2)) os:=⟨en,by rw[lo];simp,ho,λj u eu=>(po j u eu).2⟩
 refine λd hd=>⟨(by show 0<=B4;decide),λpl hpl =>?_⟩
 have hd0:upd H1 d (.dK []) d=some (.dK (eL [])):=ah
 have ndp:d≠pl:=aB hd0 hpl
 have hpl1:H1 pl=none:=by
  cases e:H1 pl with
  | none=>rfl
  | some o=>rw[(af hd (.dK [])) _ _ e] at hpl;cases hpl
 have hpl0:H pl=none:=by
  cases e:H pl with
  | none=>rfl
  | some o=>rw[s1 _ _ e] at hpl1;cases hpl1
 have e3d:=(af hpl (.lst [])) _ _ hd0
 have e3p:upd (upd H1 d (.dK [])) pl (.lst []) pl=some (.lst []):=ah
 have s3:=(af hd (.dK [])).trans (af hpl (.lst []))
 generalize upd (upd H1 d (.dK [])) pl (.lst [])=H3 at e3d e3p s3
 let W0:Nat->St->Hp->Prop:=λi σ H'=>∃(c4 c5 c6:Option V) (S:List Int) (ps:List (Addr×List Int)),σ=[some (.ref r),some (.ref n),some (.ref d),some (.ref pl),c4,c5,c6]/\aD H1 H'/\H' d=some (.dK (eL S))/\H' pl=some (.lst (ps.map λu =>.ref u.1))/\(∀u∈ps,H' u.1=some (.tup (u.2.map V.int)))/\ps.map (·.2)=ba (ts.map (·.2)) m i/\S.Nodup/\(∀v,v∈S↔∃u:Nat,u<i/\Con (ts.map (·.2)) (u:Int) v)
 refine ⟨_,rfl,r,_,0,_,rfl,rfl,SqT.of (s3 _ _ (s1 _ _ e1)),rfl,m,rfl,by lia,by lia,bK W0
  ⟨_,_,_,[],[],rfl,s3,e3d,e3p,λu hu=>(by cases hu),rfl,FV,λv=>⟨λz=>(by cases z),λ⟨u,z,_⟩=>by lia⟩⟩ ?_ ?_⟩
 ·rintro i σ H' hi ⟨c4,c5,c6,S,ps,rfl,s',ed,ep,hp,epp,nS,mS⟩
  have hi':i<m:=by simpa using hi
  refine ⟨_,rfl,_,rfl,d,_,rfl,iT.k (k:=Sum.inl (0+(i:Int))) ed,_,rfl,?_⟩
  rw[ng,Ho]
  by_cases hS:(i:Int)∈S
  ·rw[decide_eq_true hS]
   obtain ⟨u,ui,hu⟩:=(mS _).mp hS
   refine bT ⟨_,_,_,S,ps,rfl,s',ed,ep,hp,?_,nS,λv =>?_⟩
   ·have:=Classical.propDecidable (Fst (ts.map (·.2)) (i:Int))
    rw[iC,if_neg (λz=>z (u:Int) (by lia) (by lia) hu),CK]
    exact epp
   ·rw[mS v]
    constructor
    ·rintro ⟨x,xi,hx⟩;exact ⟨x,by lia,hx⟩
    ·rintro ⟨x,xi,hx⟩
     by_cases e:x=i
     ·subst e;exact ⟨u,ui,hu.trans hx⟩
     ·exact ⟨x,by lia,hx⟩
  ·rw[decide_eq_false hS]
   have fi:Fst (ts.map (·.2)) (i:Int):=λx x0 xi hx=>by
    obtain ⟨xn,rfl⟩:∃k:Nat,x=k:=⟨x.toNat,by lia⟩
    exact hS ((mS _).mpr ⟨xn,by lia,hx⟩)
   refine bQ ⟨_,rfl,_,rfl,fY.mpr ⟨n,m,ts.map (·.2),os,(i:Int),rfl,N.same s',O,m4,by lia,by lia,λpt H4 s4 ept =>?_⟩⟩
   have ed4:=s4 _ _ ed
   have ep4:=s4 _ _ ep
   have mc:∀v,v∈fD (ts.map (·.2)) m (i:Int)↔Con (ts.map (·.2)) (i:Int) v:=λv=>nc O (by lia)
   have rc:=kU (ts.map (·.2)) m (i:Int)
   generalize hcc:fD (ts.map (·.2)) m (i:Int)=cc at ept mc rc
   have ndpt:d≠pt:=jb ed4 ept (by intro z;cases z)
   have ndcc:cc.Nodup:=rc.imp λ{a b} h=>by lia
   have dj:∀v∈cc,v∉S:=λv hv hs=>by
    obtain ⟨u,ui,hu⟩:=(mS v).mp hs
    exact fi (u:Int) (by lia) (by lia) (hu.trans (((mc v).mp hv).symm O))
   have rS:∀v∈S,0<=v/\v<m:=λv hv=>by
    obtain ⟨u,ui,hu⟩:=(mS v).mp hv
    exact hu.rng O (by lia)
   have rC:∀v∈cc,0<=v/\v<m:=λv hv=>((mc v).mp hv).rng O (by lia)
   have ndj:∀j,(S++cc.take j).Nodup:=λj=>by
    rw[FI]
    exact ⟨nS,ndcc.sublist (DB _ _),λx hx y hy e=>dj y (Ef hy) (e ▸ hx)⟩
   have lj:∀j,(S++cc.take j).length<=m:=λj=>cB (ndj j) λv hv=>(B0.mp hv).elim (rS v) λz=>rC v (Ef z)
   let W1:Nat->St->Hp->Prop:=λj σ H5=>(∃c6,σ=[some (.ref r),some (.ref n),some (.ref d),some (.ref pl),some (.int (i:Int)),some (.ref pt),c6])/\SB d H4 H5/\H5 d=some (.dK (eL (S++cc.take j)))
   refine ⟨_,rfl,pt,rfl,⟨_,SqL.of ept⟩,dJ (xs:=cc.map V.int) W1 ⟨⟨_,rfl⟩,SB.refl _ _,by rw[GI,CK];exact ed4⟩ (λj σ H5 _ z=>SqL.of (z.2.1 _ _ (Dq ndpt) ept)) ?_ ?_⟩
   ·rintro j x σ H5 hx ⟨⟨c6,rfl⟩,sb5,ed5⟩
    rw[B7] at hx
    cases ho:cc[j]? with
    | none=>rw[ho] at hx;cases hx
    | some o =>
    rw[ho] at hx
    cases hx
    have tks:cc.take (j+1)=cc.take j++[o]:=by rw[Dp,ho];rfl
    have no:o∉S++cc.take j:=λz=>by
     have nd1:=ndj (j+1)
     rw[tks, <- Cy,FI] at nd1
     exact nd1.2.2 o z o (by simp) rfl
    refine ⟨_,rfl,_,rfl,d,_,rfl,p8.k (k:=Sum.inl o) ed5 (by rw[iD];exact bA (by have:=lj j;lia)),⟨_,rfl⟩,sb5.trans (SB.put _),?_⟩
    rw[qu no,ah,tks,Cy]
   ·rintro σ H5 ⟨⟨c6,rfl⟩,sb5,ed5⟩
    rw[BK,B9 (BS _)] at ed5
    have ep5:=sb5 _ _ (Dq ndp) ep4
    have ept5:=sb5 _ _ (Dq ndpt) ept
    have s5:aD H1 H5:=λb o e=>sb5 _ _ (aB e hd) (s4 _ _ (s' _ _ e))
    have hp5:∀u∈ps,H5 u.1=some (.tup (u.2.map V.int)):=λu hu=>sb5 _ _ (jb (s4 _ _ (hp u hu)) ed4 (by intro z;cases z)) (s4 _ _ (hp u hu))
    refine ⟨_,rfl,.inl ⟨rfl,_,SqL.of ep5⟩,_,rfl,pt,_,rfl,.inl ⟨SqL.of ept5,λtt htt =>?_⟩⟩
    have s6:=af htt (.tup (cc.map V.int))
    have lps:ps.length<=i:=by
     have:=congrArg List.length epp
     rw[BK] at this
     rw[this]
     exact js _ _ _
    have ett:upd H5 tt (.tup (cc.map V.int)) tt=some (.tup (cc.map V.int)):=ah
    have ntp:∀{b:Addr} {xs:List V},upd H5 tt (.tup (cc.map V.int)) b=some (.tup xs)->b≠pl:=λe=>jb e (s6 _ _ ep5) (by intro z;cases z)
    refine ⟨pl,_,_,rfl,rfl,s6 _ _ ep5,(by rw[BK];exact bA (by lia)),_,_,_,S++cc,ps++[(tt,cc)],rfl,λb o e =>?_,?_,?_,λu hu =>?_,?_,by have:=ndj cc.length;rwa [B9 (BS _)] at this,λv =>?_⟩
    ·rw[aE (aB e hpl1)];exact s6 _ _ (s5 _ _ e)
    ·rw[aE ndp];exact s6 _ _ ed5
    ·rw[ah,B5];rfl
    ·rcases B0.mp hu with z | z
     ·have:=s6 _ _ (hp5 u z)
      rw[aE (ntp this)];exact this
     ·rw[BU] at z;subst z
      rw[aE (ntp ett)];exact ett
    ·have:=Classical.propDecidable (Fst (ts.map (·.2)) (i:Int))
     rw[iC,if_pos fi,B5,epp,hcc]
     rfl
    ·rw[B0,mS v,mc v]
     constructor
     ·rintro (⟨x,xi,hx⟩ | hx)
      ·exact ⟨x,by lia,hx⟩
      ·exact ⟨i,by lia,hx⟩
     ·rintro ⟨x,xi,hx⟩
      by_cases e:x=i
      ·subst e;exact .inr hx
      ·exact .inl ⟨x,by lia,hx⟩
 ·rintro σ H' ⟨c4,c5,c6,S,ps,rfl,s',ed,ep,hp,epp,nS,mS⟩
  exact ⟨_,rfl,q pl H' ps (s1.trans s') hpl0 ep hp (by simpa using epp)⟩
theorem yU:aK ["web"] ["web"] (aA xf):=⟨rfl,rfl,rfl,by decide +kernel,rfl,by decide +kernel,by decide +kernel⟩
theorem yV (F:Fun K "spare_ties" "spare_ties" xf f fd)(B:Blt mg)(cH:Cal P w K mg base 2 "hanging_parts" ["web"] oG):bM P w K mg base CX0 3 f fd ["web"] jG:=by
 refine F.ok yU (λvs H Q E h =>?_) (λcdv A outer s0 H vs Q E hr h =>?_)
 ·obtain ⟨a,b,c,rfl,_⟩:=fZ.mp h
  rfl
 obtain ⟨r,m,ts,rfl,W,m4,q⟩:=fZ.mp h
 obtain ⟨t,e1,e2⟩:=W.at'
 refine ⟨_,au (aH (aQ cD (aQ cV (av aZ rfl B.b_len FU (aa (aS aV (pv 0) ak (λ_ _=>rfl)) ag)) (aS aV (pv 0) ak (λ_ _=>rfl))) (av aZ rfl B.b_len FU (aa (aN cH hr (by decide) rfl (aa (pv 0) ag)) ag)))),?_⟩
 refine ⟨_,rfl,r,_,1,_,rfl,rfl,SqT.of e1,rfl,t,_,rfl,.inr (SqT.of e2),_,rfl,r,_,0,_,rfl,rfl,SqT.of e1,rfl,_,_,rfl,rfl,_,rfl,gS.mpr ⟨r,m,ts,rfl,W,m4,λl H' os s' _ el _ ep=>⟨l,_,rfl,.inl (SqL.of el),_,_,rfl,rfl,?_⟩⟩⟩
 have:=q H' s'
 rw[<- ep,BK] at this
 rw[BK,BK]
 exact this
end
open PySem L2
theorem oH {ns ms:List (List Int)}(h:∀p∈ns,p∈ms){u v:Int}(c:Con ns u v):Con ms u v:=by
 induction c with
 | refl=>exact .refl _
 | step _ a ih =>
  obtain ⟨p,hp,hx⟩:=cq.mp a
  exact .step ih (cq.mpr ⟨p,h p hp,hx⟩)
theorem vj {ns ms:List (List Int)}(h:∀p,p∈ns↔p∈ms)(u v:Int):Con ns u v↔Con ms u v:=⟨oH λp hp=>(h p).mp hp,oH λp hp=>(h p).mpr hp⟩
open Classical in
theorem f9 {ns ms:List (List Int)}{m:Nat}(h:∀u v:Int,Con ns u v↔Con ms u v):ba ns m m=ba ms m m:=by
 have e1:∀u,Fst ns u↔Fst ms u:=λu=>by
  unfold Fst
  exact ⟨λg w h0 h1 c=>g w h0 h1 ((h w u).mpr c),λg w h0 h1 c=>g w h0 h1 ((h w u).mp c)⟩
 have e2:fD ns m=fD ms m:=by
  funext u
  unfold fD
  refine E6 λv _ =>?_
  rw[decide_eq_decide]
  exact h u v
 unfold ba
 rw[e2]
 congr 1
 refine E6 λu _ =>?_
 rw[decide_eq_decide]
 exact e1 u
structure More (m:Nat)(ns ms:List (List Int))(a b:Int):Prop where
 ok:Ok m ns
 mem:∀p,p∈ms↔p∈ns\/p=[a,b]
 a0:0<=a
 ab:a<=b
 bm:b<m
theorem More.ok' {m:Nat}{ns ms:List (List Int)}{a b:Int}(M:More m ns ms a b):Ok m ms:=λp hp=>by
 rcases (M.mem p).mp hp with h | h
 ·exact M.ok p h
 ·exact ⟨a,b,h,M.a0,M.ab,M.bm⟩
theorem More.sub {m:Nat}{ns ms:List (List Int)}{a b:Int}(M:More m ns ms a b){u v:Int}(c:Con ns u v):Con ms u v:=oH (λp hp=>(M.mem p).mpr (.inl hp)) c
theorem More.adj {m:Nat}{ns ms:List (List Int)}{a b:Int}(M:More m ns ms a b){u v:Int}(h:Adj ms u v):Adj ns u v\/(u=a/\v=b)\/(u=b/\v=a):=by
 obtain ⟨p,hp,hx⟩:=cq.mp h
 rcases (M.mem p).mp hp with z | z
 ·exact .inl (cq.mpr ⟨p,z,hx⟩)
 ·subst z
  rcases (jE.mp hx).2 with ⟨h1,h2⟩ | ⟨h1,h2⟩
  ·exact .inr (.inl ⟨h1.symm,h2⟩)
  ·exact .inr (.inr ⟨h1.symm,h2⟩)
theorem More.tie {m:Nat}{ns ms:List (List Int)}{a b:Int}(M:More m ns ms a b):Con ms a b:=yS M.ok' ((M.mem _).mpr (.inr rfl))
theorem More.same {m:Nat}{ns ms:List (List Int)}{a b:Int}(M:More m ns ms a b)(h:Con ns a b)(u v:Int):Con ns u v↔Con ms u v:=by
 refine ⟨M.sub,λc =>?_⟩
 induction c with
 | refl=>exact .refl _
 | step _ x ih =>
  rcases M.adj x with z | ⟨rfl,rfl⟩ | ⟨rfl,rfl⟩
  ·exact .step ih z
  ·exact ih.trans h
  ·exact ih.trans (h.symm M.ok)
theorem More.con {m:Nat}{ns ms:List (List Int)}{a b:Int}(M:More m ns ms a b){u v:Int}(c:Con ms u v):Con ns u v\/(Con ns u a/\Con ns b v)\/(Con ns u b/\Con ns a v):=by
 induction c with
 | refl=>exact .inl (.refl _)
 | step _ x ih =>
  rcases M.adj x with z | ⟨rfl,rfl⟩ | ⟨rfl,rfl⟩
  ·rcases ih with i | ⟨i,j⟩ | ⟨i,j⟩
   ·exact .inl (.step i z)
   ·exact .inr (.inl ⟨i,.step j z⟩)
   ·exact .inr (.inr ⟨i,.step j z⟩)
  ·rcases ih with i | ⟨i,j⟩ | ⟨i,j⟩
   ·exact .inr (.inl ⟨i,.refl _⟩)
   ·exact .inr (.inl ⟨i,.refl _⟩)
   ·exact .inl i
  ·rcases ih with i | ⟨i,j⟩ | ⟨i,j⟩
   ·exact .inr (.inr ⟨i,.refl _⟩)
   ·exact .inl i
   ·exact .inr (.inr ⟨i,.refl _⟩)
theorem ni {m:Nat}{ns:List (List Int)}(O:Ok m ns){c w:Int}(hc:Fst ns c)(w0:0<=w)(h:Con ns c w):c<=w:=by
 rcases Int.lt_or_le w c with z | z
 ·exact absurd (h.symm O) (hc w w0 z)
 ·exact z
theorem More.fst {m:Nat}{ns ms:List (List Int)}{a b:Int}(M:More m ns ms a b)(h:¬ Con ns a b):∃hi:Int,0<=hi/\hi<m/\Fst ns hi/\∀u:Int,0<=u->u<m->(Fst ms u↔Fst ns u/\u≠hi):=by
 have a0:=M.a0
 have ab:=M.ab
 have bm:=M.bm
 obtain ⟨ra,fa,ra0,ram,ca⟩:=xk M.ok a.toNat a a0 (by lia) (BS _)
 obtain ⟨rb,fb,rb0,rbm,cb⟩:=xk M.ok b.toNat b (by lia) bm (BS _)
 have ne:ra≠rb:=λz=>by
  subst z
  exact h ((ca.symm M.ok).trans cb)
 have cab:Con ms ra rb:=((M.sub ca).trans M.tie).trans ((M.sub cb).symm M.ok')
 have key:∀(lo hi:Int),((lo=ra/\hi=rb)\/(lo=rb/\hi=ra))->lo<hi->0<=lo->0<=hi->hi<m->Fst ns hi->Con ms lo hi->∃hi:Int,0<=hi/\hi<m/\Fst ns hi/\∀u:Int,0<=u->u<m->(Fst ms u↔Fst ns u/\u≠hi):=by
  intro lo hi lh lt lo0 hi0 him fh ch
  refine ⟨hi,hi0,him,fh,λu u0 um=>⟨λf=>⟨λw w0 wu c=>f w w0 wu (M.sub c),λz =>?_⟩,λ⟨f,nz⟩ w w0 wu c =>?_⟩⟩
  ·subst z
   exact f lo lo0 lt ch
  ·rcases M.con c with z | ⟨i,j⟩ | ⟨i,j⟩
   ·exact f w w0 wu z
   ·have e:u=rb:=(qr M.ok fb f rb0 u0 (cb.trans j)).symm
    have g:=ni M.ok fa w0 (ca.trans (i.symm M.ok))
    rcases lh with ⟨x,y⟩ | ⟨x,y⟩ <;> lia
   ·have e:u=ra:=(qr M.ok fa f ra0 u0 (ca.trans j)).symm
    have g:=ni M.ok fb w0 (cb.trans (i.symm M.ok))
    rcases lh with ⟨x,y⟩ | ⟨x,y⟩ <;> lia
 rcases Int.lt_or_gt_of_ne ne with z | z
 ·exact key ra rb (.inl ⟨rfl,rfl⟩) z ra0 rb0 rbm fb cab
 ·exact key rb ra (.inr ⟨rfl,rfl⟩) z rb0 ra0 ram fa (cab.symm M.ok')
theorem vk (m:Nat):(rgI m).Nodup:=(kT m).imp λ{a b} h=>by lia
theorem jt {p q:Int->Bool}{x:Int}:∀{l:List Int},l.Nodup->x∈l->p x=true->(∀u∈l,q u=(p u && decide (u≠x)))->(l.filter q).length+1=(l.filter p).length
 | [],_,h,_,_=>by cases h
 | y :: l,nd,h,hp,hq=>by
  obtain ⟨n1,n2⟩:=D1.mp nd
  have hy:=hq y Ck
  by_cases e:y=x
  ·subst e
   have e2:l.filter q=l.filter p:=E6 λu hu=>by
    rw[hq u (Cf _ hu),decide_eq_true (show u≠y from λz=>n1 (z ▸ hu)),Jt]
   rw[GX,if_neg (by rw[hy];simp),GX,if_pos hp,e2]
   rfl
  ·have hx:x∈l:=by rcases Cg.mp h with z | z;exact absurd z.symm e;exact z
   have ih:=jt n2 hx hp (λu hu=>hq u (Cf _ hu))
   rw[decide_eq_true (show y≠x from e),Jt] at hy
   rw[GX,GX,hy]
   by_cases hpy:p y=true
   ·rw[if_pos hpy,if_pos hpy,Ct,Ct, <- ih]
   ·rw[if_neg hpy,if_neg hpy,ih]
theorem iY {ns:List (List Int)}{m:Nat}[DecidablePred (Fst ns)]:(ba ns m m).length=((rgI m).filter λu=>decide (Fst ns u)).length:=by
 unfold ba
 rw[BK]
 congr 1
 refine E6 λu _ =>?_
 rw[decide_eq_decide]
open Classical in
theorem More.less {m:Nat}{ns ms:List (List Int)}{a b:Int}(M:More m ns ms a b)(h:¬ Con ns a b):(ba ms m m).length+1=(ba ns m m).length:=by
 obtain ⟨hi,h0,h1,fh,he⟩:=M.fst h
 rw[iY,iY]
 refine jt (vk m) (iB.mpr ⟨h0,h1⟩) (decide_eq_true fh) λu hu =>?_
 obtain ⟨u0,um⟩:=iB.mp hu
 rw[EK,decide_eq_true_iff,Dy,decide_eq_true_iff,decide_eq_true_iff]
 exact he u u0 um
open Classical in
theorem qx {m:Nat}:∀{ns:List (List Int)},Ok m ns->m<=ns.length+(ba ns m m).length
 | [],_=>by
  rw[iY]
  have e:(rgI m).filter (λu=>decide (Fst [] u))=rgI m:=List.filter_eq_self.mpr λu _=>by
   refine decide_eq_true λw w0 wu c =>?_
   have:∀{x y:Int},Con [] x y->x=y:=by
    intro x y c
    induction c with
    | refl=>rfl
    | step _ a _=>obtain ⟨p,hp,_⟩:=cq.mp a;cases hp
   have:=this c
   lia
  rw[e]
  unfold rgI
  rw[BK,D6]
  exact Nat.le_add_left _ _
 | p :: ns,O=>by
  obtain ⟨a,b,rfl,a0,ab,bm⟩:=O p Ck
  have O':Ok m ns:=λq hq=>O q (Cf _ hq)
  have ih:=qx O'
  have M:More m ns ([a,b] :: ns) a b:=⟨O',λq=>by rw[Cg,Or.comm],a0,ab,bm⟩
  rw[Ct]
  by_cases c:Con ns a b
  ·rw[<- f9 (M.same c)]
   lia
  ·have:=M.less c
   lia
def off (ps:List Int)(p:List Int):Bool := !decide (p.getD 0 0∈ps) && !decide (p.getD 1 0∈ps)
abbrev xo:Sp:=λvs H Q _=>∃(r p:Addr) (m:Int) (ts:List (Addr×List Int)) (ps:List Int),vs=[.ref r,.ref p]/\Wb H r m ts/\(H p=some (.lst (ps.map V.int))\/H p=some (.tup (ps.map V.int))) ∧
 ∀(z:Addr) (us:List (Addr×List Int)) (H':Hp),aD H H'->Wb H' z m us->us.map (·.2)=(ts.map (·.2)).filter (off ps)->Q (.ref z) H'
@[irreducible] def ju:Sp:=xo
theorem cJ {vs:List V}{H:Hp}{Q:VK}{E:XK}:ju vs H Q E↔xo vs H Q E:=by
 delta ju
 exact Eg
section
variable  {P:Ca}{w:CJ}{K:BP}{mg:Str->Option BM}{base:Heap}{f:Addr}{fd:De}
theorem BC:aK ["web", "places"] ["web", "places"] (aA By):=⟨rfl,rfl,rfl,by decide +kernel,rfl,by decide +kernel,by decide +kernel⟩
theorem cK {α β:Type}{g:α -> Bool}{h:α -> β}{l:List α}{i:Nat}{x:α}(e:l[i]? = some x):((l.take (i+1)).filter g).map h=((l.take i).filter g).map h++if g x=true then [h x] else []:=by
 rw[Dp,e,Gs,B5]
 congr 1
 show (List.filter g [x]).map h=_
 by_cases c:g x=true
 ·rw[if_pos c,Gu c];rfl
 ·rw[if_neg c,HU c];rfl
theorem BD (F:Fun K "cut_web" "cut_web" By f fd)(B:Blt mg):bM P w K mg base CX0 1 f fd ["web", "places"] ju:=by
 refine F.ok BC (λvs H Q E h =>?_) (λcdv A outer s H vs Q E hr h =>?_)
 ·obtain ⟨a,b,c,d,e,rfl,_⟩:=cJ.mp h
  rfl
 obtain ⟨r,p,m,ts,ps,rfl,W,hp,q⟩:=cJ.mp h
 obtain ⟨t,e1,e2⟩:=W.at'
 refine ⟨_,au (aH (bp (aa (aS aV (pv 0) ak (λ_ _=>rfl)) (aa (aG aR rfl B.b_tuple Ep (aa (bG ["tie", "places"] [none,some 1] rfl (eR (aS aV (pv 0) ak (λ_ _=>rfl))) rfl (λ_ _ _ _ _=>aq (i:=0) zA rfl (Or.inl rfl))
  (λ_ _ _ _ _=>gM (PW.pt (nH (aJ (eC (K:=K)) (aS (gp (K:=K)) (pv 0) ak (λ_ _=>rfl)) (pv 1) rfl) (jA (aJ (eC (K:=K)) (aS (gp (K:=K)) (pv 0) ak (λ_ _=>rfl)) (pv 1) rfl)))))
  (λ_ _ _ _ _=>pv 0)) ag)) ag)))),?_⟩
 refine ⟨_,rfl,r,_,0,_,rfl,rfl,SqT.of e1,rfl,_,rfl,r,_,1,_,rfl,rfl,SqT.of e1,rfl,t,rfl,⟨_,SqT.of e2⟩,cF (xs:=ts.map λu =>.ref u.1) (λi ys H'=>H'=H/\ys=((ts.take i).filter λu=>off ps u.2).map λu =>.ref u.1) ⟨rfl,rfl⟩ (by rw[BK];exact small (by have:=W.len;lia)) (λi ys H' _ z=>by rw[z.1];exact SqT.of e2) ?_ ?_⟩
 ·rintro i x ys H3 hx hy ⟨rfl,ey⟩ R1 R0 r1 r0
  obtain ⟨u,eu,rfl⟩:=item hx
  have hu:=W.tup u (BV eu)
  obtain ⟨a,b,e3,_⟩:=W.pr u (BV eu)
  rw[e3] at hu
  have bb:off ps u.2=(!decide (a∈ps) && !decide (b∈ps)):=by rw[e3];rfl
  have g1:off ps u.2=true->R1 (.ref u.1) H3:=λec=>r1 _ _ ⟨rfl,by rw[cK eu,if_pos ec,ey]⟩
  have g0:off ps u.2=false->R0 H3:=λec=>r0 _ ⟨rfl,by rw[cK eu,if_neg (by rw[ec];exact B6),ey,CK]⟩
  refine ⟨_,rfl,u.1,_,0,_,rfl,rfl,SqT.of hu,rfl,_,rfl,p,_,rfl,(hp.elim (λz =>.inl (SqL.of z)) (λz =>.inr (SqT.of z))),rfl,cZ ps,_,rfl,?_⟩
  show if (if true=true then !inV (.int a) (ps.map V.int) else _)=true then _ else _
  rw[if_pos rfl,dh]
  by_cases ha:a∈ps
  ·rw[decide_eq_true ha] at bb ⊢
   exact bT (bT (g0 bb))
  ·rw[decide_eq_false ha] at bb ⊢
   refine bQ ⟨_,rfl,u.1,_,1,_,rfl,rfl,SqT.of hu,rfl,_,rfl,p,_,rfl,(hp.elim (λz =>.inl (SqL.of z)) (λz =>.inr (SqT.of z))),rfl,cZ ps,_,rfl,?_⟩
   show if (if true=true then !inV (.int b) (ps.map V.int) else _)=true then _ else _
   rw[if_pos rfl,dh]
   by_cases hb:b∈ps
   ·rw[decide_eq_true hb] at bb ⊢
    exact bT (g0 bb)
   ·rw[decide_eq_false hb] at bb ⊢
    exact bQ ⟨_,rfl,g1 bb⟩
 ·rintro ys H3 hy ⟨rfl,ey⟩ l hl
  rw[BK,B9 (BS _)] at ey
  refine ⟨l,_,rfl,.inl ⟨SqL.of ah,λl2 hl2=>⟨(by show 2<=B4;decide),λz hz =>?_⟩⟩⟩
  subst ey
  have g1:=af hl (.lst ((ts.filter λu=>off ps u.2).map λu=>V.ref u.1))
  have g2:=af hl2 (.tup ((ts.filter λu=>off ps u.2).map λu=>V.ref u.1))
  have g3:=af hz (.tup [.int m,.ref l2])
  have g:=(g1.trans g2).trans g3
  refine q z (ts.filter λu=>off ps u.2) _ g ⟨⟨l2,ah,g3 _ _ ah⟩,λu hu=>g _ _ (W.tup u (Dc.mp hu).1),λu hu=>W.pr u (Dc.mp hu).1,?_⟩ ?_
  ·exact CP (Fy _ _) W.len
  ·rw[Kt];rfl
end
open Classical in
open Classical in
theorem yW {m:Nat}{ns:List (List Int)}{a b:Int}(O:Ok m ([a,b] :: ns)):([a,b] :: ns).length+(ba ([a,b] :: ns) m m).length=ns.length+(ba ns m m).length+if Con ns a b then 1 else 0:=by
 obtain ⟨a',b',e,a0,ab,bm⟩:=O _ Ck
 injection e with e1 e2
 injection e2 with e2 _
 subst e1 e2
 have O':Ok m ns:=λq hq=>O q (Cf _ hq)
 have M:More m ns ([a,b] :: ns) a b:=⟨O',λq=>by rw[Cg,Or.comm],a0,ab,bm⟩
 rw[Ct]
 by_cases c:Con ns a b
 ·rw[if_pos c, <- f9 (M.same c)]
  lia
 ·rw[if_neg c]
  have:=M.less c
  lia
theorem AL (m:Nat):(ba [] m m).length=m:=by
 have h1:=qx (m:=m) (ns:=[]) (λp hp=>by cases hp)
 have h2:=js [] m m
 simp at h1
 lia
theorem xp {m:Nat}(l:List (List Int)):(ba l.reverse m m).length=(ba l m m).length:=by
 rw[f9 (vj λp=>GY)]
section
variable  {P:Ca}{w:CJ}{K:BP}{mg:Str->Option BM}{base:Heap}{f T:Addr}{fd:De}
def zB:Sp:=λvs H Q _=>∃a b:Int,vs=[.int a,.int b]/\∀t,H t=none->Q (.ref t) (upd H t (.tup ((nrm a b).map V.int)))
theorem BE:aK ["one", "other"] ["one", "other"] (aA Bz):=⟨rfl,rfl,rfl,by decide +kernel,rfl,by decide +kernel,by decide +kernel⟩
theorem BF (F:Fun K "tie_of" "tie_of" Bz f fd)(mx:mg "max" = none)(mn:mg "min" = none):bM P w K mg base CX0 1 f fd ["one", "other"] zB:=by
 refine F.ok BE (λvs H Q E h =>?_) (λcdv A outer s H vs Q E hr h =>?_)
 ·obtain ⟨a,b,rfl,_⟩:=h
  rfl
 obtain ⟨a,b,rfl,q⟩:=h
 refine ⟨_,au (aH (bp (aa (av (iL rfl) rfl mn fk (aa (pv 0) (aa (pv 1) ag))) (aa (av (gn rfl) rfl mx iX (aa (pv 0) (aa (pv 1) ag))) ag)))),?_⟩
 exact ⟨_,rfl,_,rfl,_,_,rfl,_,rfl,_,rfl,_,_,rfl,(by show 2<=B4;decide),λt ht=>q t ht⟩
abbrev qy:Sp:=λvs H Q _=>∃(r:Addr) (m a b:Int) (ts:List (Addr×List Int)),vs=[.ref r,.int a,.int b]/\Wb H r m ts/\∀H',aD H H'->Q (.int ((ts.map (·.2)).count (nrm a b):Nat)) H'
@[irreducible] def gx:Sp:=qy
theorem ck {vs:List V}{H:Hp}{Q:VK}{E:XK}:gx vs H Q E↔qy vs H Q E:=by
 delta gx
 exact Eg
theorem yX:aK ["web", "one", "other"] ["web", "one", "other"] (aA w9):=⟨rfl,rfl,rfl,by decide +kernel,rfl,by decide +kernel,by decide +kernel⟩
theorem yY (F:Fun K "tied_times" "tied_times" w9 f fd)(cT:Cal P w K mg base 1 "tie_of" ["one", "other"] zB):bM P w K mg base CX0 2 f fd ["web", "one", "other"] gx:=by
 refine F.ok yX (λvs H Q E h =>?_) (λcdv A outer s H vs Q E hr h =>?_)
 ·obtain ⟨a,b,c,d,e,rfl,_⟩:=ck.mp h
  rfl
 obtain ⟨r,m,a,b,ts,rfl,W,q⟩:=ck.mp h
 obtain ⟨t,e1,e2⟩:=W.at'
 refine ⟨_,au (aH (rF F8 HI (kE (hu8 hr)) (aS aV (pv 0) ak (λ_ _=>rfl)) (aa (aN cT hr (by decide) rfl (aa (pv 1) (aa (pv 2) ag))) ag))),?_⟩
 refine ⟨_,rfl,r,_,1,_,rfl,rfl,SqT.of e1,rfl,⟨_,_,rfl,e2⟩,_,rfl,_,rfl,a,b,rfl,λx hx =>?_⟩
 have s1:=af hx (.tup ((nrm a b).map V.int))
 exact ⟨t,x,ts,nrm a b,rfl,rfl,s1 _ _ e2,λu hu=>s1 _ _ (W.tup u hu),ah,q _ s1⟩
end
open PySem L2
inductive Wk (R:Int->Int->Prop)(s:Int):Nat->Int->Prop
 | z:Wk R s 0 s
 | st {n:Nat} {p o:Int}:Wk R s n p->R p o->Wk R s (n+1) o
def Dst (R:Int->Int->Prop)(s:Int)(n:Nat)(v:Int):Prop:=Wk R s n v/\∀k,k<n->¬ Wk R s k v
theorem Dst.uniq {R:Int->Int->Prop}{s:Int}{a b:Nat}{v:Int}(h1:Dst R s a v)(h2:Dst R s b v):a=b:=by
 rcases Nat.lt_trichotomy a b with h | h | h
 ·exact absurd h1.1 (h2.2 a h)
 ·exact h
 ·exact absurd h2.1 (h1.2 b h)
theorem Wk.zero {R:Int->Int->Prop}{s v:Int}(h:Wk R s 0 v):v=s:=by cases h;rfl
def stp (ns:List (List Int))(s g p o:Int):Prop:=Adj ns p o/\(p≠s\/o≠g)
theorem Wk.rng {m:Nat}{ns:List (List Int)}(O:Ok m ns){s g:Int}(hs:0<=s/\s<m){n:Nat}{v:Int}(h:Wk (stp ns s g) s n v):0<=v/\v<m:=by
 cases h with
 | z=>exact hs
 | st _ r=>exact (oF O r.1).2
def mp (C:List (Int×V)):List (Key×V):=C.map λe=>(Sum.inl e.1,e.2)
theorem oI (v:Int):∀C:List (Int×V),(v∉C.map (·.1)/\dQ (mp C) (Sum.inl v)=none)\/∃x,(v,x)∈C/\dQ (mp C) (Sum.inl v)=some x
 | [] =>.inl ⟨by simp,rfl⟩
 | e :: C=>by
  by_cases h:e.1=v
  ·refine .inr ⟨e.2,by rw[<- h];exact Ck,?_⟩
   show dQ ((Sum.inl e.1,e.2) :: mp C) (Sum.inl v)=some e.2
   rw[fN (by rw[h])]
  ·have en:dQ (mp (e :: C)) (Sum.inl v)=dQ (mp C) (Sum.inl v):=by
    show dQ ((Sum.inl e.1,e.2) :: mp C) (Sum.inl v)=_
    rw[fO (λz=>h (by injection z))]
   rw[en]
   rcases oI v C with ⟨h1,h2⟩ | ⟨x,h1,h2⟩
   ·exact .inl ⟨by rw[CC,Cg];exact λz=>z.elim (λy=>h y.symm) h1,h2⟩
   ·exact .inr ⟨x,Cf _ h1,h2⟩
theorem xq (v:Int)(C:List (Int×V)):(dQ (mp C) (Sum.inl v)).isSome=decide (v∈C.map (·.1)):=by
 rcases oI v C with ⟨h1,h2⟩ | ⟨x,h1,h2⟩
 ·rw[h2,decide_eq_false h1];rfl
 ·rw[h2,decide_eq_true (Dw (f:=(·.1)) h1)];rfl
theorem AM {v:Int}{C:List (Int×V)}(h:v∈C.map (·.1)):∃x,(v,x)∈C/\dQ (mp C) (Sum.inl v)=some x:=by
 rcases oI v C with ⟨h1,_⟩ | z
 ·exact absurd h h1
 ·exact z
theorem AN {v:Int}{C:List (Int×V)}(h:v∉C.map (·.1))(x:V):putK (mp C) (Sum.inl v) x=mp (C++[(v,x)]):=by
 rcases oI v C with ⟨_,h2⟩ | ⟨x,h1,_⟩
 ·rw[pX _ h2];unfold mp;rw[B5];rfl
 ·exact absurd (Dw (f:=(·.1)) h1) h
theorem r6 (C:List (Int×V)):(mp C).length=C.length:=BK _
structure Rnd (ns:List (List Int))(s g:Int)(d:Nat)(C:List (Int×V))(Y F:List Int):Prop where
 nd:(C.map (·.1)).Nodup
 ent:∀e∈C,(e.1=s/\e.2 = .non)\/∃(p:Int) (n:Nat),e.2 = .int p/\Dst (stp ns s g) s n p/\Dst (stp ns s g) s (n+1) e.1/\stp ns s g p e.1
 key:∀v,v∈C.map (·.1)↔(∃n,n<=d/\Wk (stp ns s g) s n v)\/v∈F
 rdy:∀v,v∈Y↔Dst (stp ns s g) s d v
 fur:∀v∈F,Dst (stp ns s g) s (d+1) v
theorem Rnd.start (ns:List (List Int))(s g:Int):Rnd ns s g 0 [(s,.non)] [s] []:=by
 refine ⟨D1.mpr ⟨by simp,FV⟩,λe he =>?_,λv =>?_,λv =>?_,λv h=>by cases h⟩
 ·rw[BU] at he;subst he;exact .inl ⟨rfl,rfl⟩
 ·show v∈[s]↔_
  rw[BU]
  refine ⟨λh =>.inl ⟨0,BS _,h ▸ .z⟩,λh =>?_⟩
  rcases h with ⟨n,h1,h2⟩ | h
  ·cases Kp.mp h1;exact h2.zero
  ·cases h
 ·rw[BU]
  exact ⟨λh=>⟨h ▸ .z,λk hk=>absurd hk (G7 _)⟩,λh=>h.1.zero⟩
theorem Rnd.add {ns:List (List Int)}{s g:Int}{d:Nat}{C:List (Int×V)}{Y F:List Int}(h:Rnd ns s g d C Y F){p o:Int}(hp:p∈Y)(ha:stp ns s g p o)(hn:o∉C.map (·.1)):Rnd ns s g d (C++[(o,.int p)]) Y (F++[o]):=by
 have dp:=(h.rdy p).mp hp
 have dw:Dst (stp ns s g) s (d+1) o:=⟨.st dp.1 ha,λk hk w=>hn ((h.key o).mpr (.inl ⟨k,E5 hk,w⟩))⟩
 refine ⟨?_,λe he =>?_,λv =>?_,h.rdy,λv hv =>?_⟩
 ·rw[B5];exact kY h.nd hn
 ·rcases B0.mp he with z | z
  ·exact h.ent e z
  ·rw[BU] at z;subst z
   exact .inr ⟨p,d,rfl,dp,dw,ha⟩
 ·rw[B5,B0,h.key,B0]
  exact or_assoc
 ·rcases B0.mp hv with z | z
  ·exact h.fur v z
  ·rw[BU] at z;subst z;exact dw
theorem Rnd.next {ns:List (List Int)}{s g:Int}{d:Nat}{C:List (Int×V)}{Y F:List Int}(h:Rnd ns s g d C Y F)(cl:∀p∈Y,∀o,stp ns s g p o->o∈C.map (·.1)):Rnd ns s g (d+1) C F []:=by
 have lo:∀v,Wk (stp ns s g) s (d+1) v->v∈C.map (·.1):=λv w=>by
  cases w with
  | st w1 r =>
   rename_i p
   by_cases z:∃k,k<d/\Wk (stp ns s g) s k p
   ·obtain ⟨k,hk,wk⟩:=z
    exact (h.key v).mpr (.inl ⟨k+1,hk,.st wk r⟩)
   ·exact cl p ((h.rdy p).mpr ⟨w1,λk hk wk=>z ⟨k,hk,wk⟩⟩) v r
 refine ⟨h.nd,h.ent,λv=>⟨λhv =>?_,λhv =>?_⟩,λv=>⟨h.fur v,λdv =>?_⟩,λv hv=>by cases hv⟩
 ·rcases (h.key v).mp hv with ⟨n,hn,w⟩ | z
  ·exact .inl ⟨n,FD hn,w⟩
  ·exact .inl ⟨d+1,BS _,(h.fur v z).1⟩
 ·rcases hv with ⟨n,hn,w⟩ | z
  ·rcases Gf d n with c | c
   ·have:n=d+1:=by lia
    subst this;exact lo v w
   ·exact (h.key v).mpr (.inl ⟨n,c,w⟩)
  ·cases z
 ·rcases (h.key v).mp (lo v dv.1) with ⟨n,hn,w⟩ | z
  ·exact absurd w (dv.2 n (Nat.lt_succ_of_le hn))
  ·exact z
theorem Rnd.stop {ns:List (List Int)}{s g:Int}{d:Nat}{C:List (Int×V)}(h:Rnd ns s g d C [] []){k:Nat}{v:Int}(w:Wk (stp ns s g) s k v):v∈C.map (·.1):=by
 refine (h.key v).mpr (.inl ?_)
 induction w with
 | z=>exact ⟨0,CT _,.z⟩
 | st w1 r ih =>
  rename_i n p o
  obtain ⟨n,hn,wn⟩:=ih
  by_cases z:∃k,k<d/\Wk (stp ns s g) s k p
  ·obtain ⟨k,hk,wk⟩:=z
   exact ⟨k+1,hk,.st wk r⟩
  ·have:n=d:=by
    rcases Gf n d with c | c
    ·exact absurd ⟨n,c,wn⟩ z
    ·lia
   subst this
   have:=(h.rdy p).mpr ⟨wn,λk hk wk=>z ⟨k,hk,wk⟩⟩
   cases this
theorem Rnd.dst {ns:List (List Int)}{s g:Int}{d:Nat}{C:List (Int×V)}{Y:List Int}(h:Rnd ns s g d C Y []){v:Int}(hv:v∈C.map (·.1)):∃n,n<=d/\Dst (stp ns s g) s n v:=by
 obtain ⟨e,he,rfl⟩:=Cv.mp hv
 rcases h.ent e he with ⟨h1,_⟩ | ⟨p,n,_,_,h3,_⟩
 ·exact ⟨0,CT _,h1 ▸ .z,λk hk=>absurd hk (G7 _)⟩
 ·rcases (h.key e.1).mp hv with ⟨k,hk,w⟩ | z
  ·refine ⟨n+1,?_,h3⟩
   rcases Gf d (n+1) with c | c
   ·exact absurd w (h3.2 k (by lia))
   ·exact c
  ·cases z
structure Trl (ns:List (List Int))(s g:Int)(N:Nat)(Z:List Int):Prop where
 hd:Z[0]? = some g
 dst:∀i x,Z[i]? = some x->i<=N/\Dst (stp ns s g) s (N-i) x
 ch:∀i x y,Z[i]? = some x->Z[i+1]? = some y->stp ns s g y x
theorem Trl.start {ns:List (List Int)}{s g:Int}{N:Nat}(h:Dst (stp ns s g) s N g):Trl ns s g N [g]:=by
 refine ⟨rfl,λi x e =>?_,λi x y _ e=>by simp at e⟩
 cases i with
 | zero=>cases e;exact ⟨CT _,h⟩
 | succ i=>simp at e
theorem Trl.add {ns:List (List Int)}{s g:Int}{N n:Nat}{W:List Int}{p q:Int}(h:Trl ns s g N (W++[p]))(hn:n+1+W.length=N)(dq:Dst (stp ns s g) s n q)(hs:stp ns s g q p):Trl ns s g N (W++[p]++[q]):=by
 have lz:(W++[p]).length=W.length+1:=by simp
 refine ⟨?_,λi x e =>?_,λi x y e1 e2 =>?_⟩
 ·rw[CB (by lia)];exact h.hd
 ·rcases Gf i (W.length+1) with c | c
  ·rw[CB (by lia)] at e;exact h.dst i x e
  ·rw[C6 (by lia),lz] at e
   have:i-(W.length+1)=0:=by
    rcases Gv (i-(W.length+1)) with z | z
    ·exact z
    ·rw[Du (by simp;lia)] at e;cases e
   rw[this] at e;cases e
   refine ⟨by lia,?_⟩
   rw[show N-i=n by lia];exact dq
 ·rcases Gf (i+1) (W.length+1) with c | c
  ·rw[CB (by lia)] at e1 e2;exact h.ch i x y e1 e2
  ·rw[C6 (by lia),lz] at e2
   have:i+1-(W.length+1)=0:=by
    rcases Gv (i+1-(W.length+1)) with z | z
    ·exact z
    ·rw[Du (by simp;lia)] at e2;cases e2
   rw[this] at e2;cases e2
   rw[CB (by lia),C6 (by lia),show i-W.length=0 by lia] at e1
   cases e1;exact hs
def Way (ns:List (List Int))(s g:Int)(N:Nat)(Z:List Int):Prop:=Trl ns s g N Z/\Z.length=N+1
def chn (P:Int->Int->Prop):List Int->Prop
 | a :: b :: t=>P a b/\chn P (b :: t)
 | _=>True
theorem oJ {P:Int->Int->Prop}:∀(l:List Int) (a:Int) (r:List Int),chn P (l++a :: r)↔chn P (l++[a])/\chn P (a :: r)
 | [],a,r=>⟨λh=>⟨trivial,h⟩,λh=>h.2⟩
 | [x],a,r=>⟨λh=>⟨⟨h.1,trivial⟩,h.2⟩,λh=>⟨h.1.1,h.2⟩⟩
 | x :: y :: l,a,r=>by
  have ih:=oJ (P:=P) (y :: l) a r
  exact ⟨λh=>⟨⟨h.1,(ih.mp h.2).1⟩,(ih.mp h.2).2⟩,λh=>⟨h.1.1,ih.mpr ⟨h.1.2,h.2⟩⟩⟩
theorem oK {P:Int->Int->Prop}:∀{Z:List Int},(∀(i:Nat) x y,Z[i]? = some x->Z[i+1]? = some y->P x y)->chn P Z
 | [],_=>trivial
 | [_],_=>trivial
 | a :: b :: t,h=>⟨h 0 a b rfl rfl,oK λi x y e1 e2=>h (i+1) x y e1 e2⟩
theorem oM {P:Int->Int->Prop}:∀{Z:List Int},chn P Z->∀(i:Nat) x y,Z[i]? = some x->Z[i+1]? = some y->P x y
 | [],_,_,_,_,e,_=>by simp at e
 | [_],_,i,_,_,_,e=>by simp at e
 | a :: b :: t,h,0,x,y,e1,e2=>by cases e1;cases e2;exact h.1
 | a :: b :: t,h,i+1,x,y,e1,e2=>oM h.2 i x y e1 e2
theorem tO {P:Int->Int->Prop}(sy:∀a b,P a b->P b a):∀{Z:List Int},chn P Z->chn P Z.reverse
 | [],_=>trivial
 | [_],_=>trivial
 | a :: b :: t,h=>by
  rw[FH,FH,Cy]
  show chn P (t.reverse++b :: [a])
  rw[oJ]
  have:=tO sy h.2
  rw[FH] at this
  exact ⟨this,sy _ _ h.1,trivial⟩
def Td (ns:List (List Int))(x y:Int):Prop:=nrm x y∈ns
theorem Td.symm {ns:List (List Int)}(x y:Int)(h:Td ns x y):Td ns y x:=by unfold Td at *;rw[dO];exact h
theorem cv {a b:Int}(h:a<=b):nrm a b=[a,b]:=by
 unfold nrm mnI mxI
 by_cases c:a=b
 ·subst c;simp
 ·rw[if_neg (by lia),if_pos (by lia)]
theorem gX {m:Nat}{ns:List (List Int)}(O:Ok m ns){u v:Int}:Adj ns u v↔u≠v/\Td ns u v:=by
 rw[cO O]
 unfold Td
 constructor
 ·rintro ⟨a,b,hp,ne,h⟩
  obtain ⟨_,_,e,_,ab,_⟩:=O _ hp
  cases e
  rcases h with ⟨rfl,rfl⟩ | ⟨rfl,rfl⟩
  ·exact ⟨ne,by rw[cv ab];exact hp⟩
  ·exact ⟨Dq ne,by rw[dO,cv ab];exact hp⟩
 ·rintro ⟨ne,h⟩
  rcases JX u v with c | c
  ·rw[cv c] at h;exact ⟨u,v,h,ne,.inl ⟨rfl,rfl⟩⟩
  ·rw[dO,cv c] at h;exact ⟨v,u,h,Dq ne,.inr ⟨rfl,rfl⟩⟩
structure Ring (m:Nat)(ns:List (List Int))(Z:List Int):Prop where
 ne:Z≠[]
 nd:Z.Nodup
 rng:∀v∈Z,0<=v/\v<m
 ch:chn (Td ns) (Z++Z.take 1)
 two:∀x y,Z=[x,y]->2<=ns.count (nrm x y)
theorem Ring.rot {m:Nat}{ns:List (List Int)}{u v:List Int}(h:Ring m ns (u++v)):Ring m ns (v++u):=by
 cases u with
 | nil=>rw[CK];exact h
 | cons a u =>
  cases v with
  | nil=>rw[CK] at h;exact h
  | cons b v =>
   have pm:((b :: v)++(a :: u)).Perm ((a :: u)++(b :: v)):=Ew
   refine ⟨by simp,pm.nodup_iff.mpr h.nd,λx hx=>h.rng x (pm.mem_iff.mp hx),?_,λx y e =>?_⟩
   ·have c:=h.ch
    rw[show (a :: u)++(b :: v)++((a :: u)++(b :: v)).take 1=(a :: u)++b :: (v++[a]) by simp] at c
    rw[show (b :: v)++(a :: u)++((b :: v)++(a :: u)).take 1=(b :: v)++a :: (u++[b]) by simp]
    rw[oJ] at c ⊢
    exact ⟨c.2,c.1⟩
   ·have:v=[]:=by
     cases v with
     | nil=>rfl
     | cons c v=>simp at e
    subst this
    have:u=[]:=by
     cases u with
     | nil=>rfl
     | cons c u=>simp at e
    subst this
    simp at e
    obtain ⟨rfl,rfl⟩:=e
    rw[dO]
    exact h.two _ _ rfl
theorem Ring.turn {m:Nat}{ns:List (List Int)}{a:Int}{t:List Int}(h:Ring m ns (a :: t)):Ring m ns (a :: t.reverse):=by
 have pm:(a :: t.reverse).Perm (a :: t):=(JR t).cons a
 refine ⟨by simp,pm.nodup_iff.mpr h.nd,λx hx=>h.rng x (pm.mem_iff.mp hx),?_,λx y e =>?_⟩
 ·have c:=tO (Td.symm (ns:=ns)) h.ch
  rw[show ((a :: t)++(a :: t).take 1).reverse=(a :: t.reverse)++(a :: t.reverse).take 1 by simp] at c
  exact c
 ·injection e with e1 e2
  have:t=[y]:=by
   have:=congrArg List.reverse e2
   rwa [FO] at this
  subst this;subst e1
  exact h.two _ _ rfl
theorem Trl.inj {ns:List (List Int)}{s g:Int}{N:Nat}{Z:List Int}(h:Trl ns s g N Z):Z.Nodup:=by
 refine EZ.mpr λi j hi hj hij e =>?_
 have a:=h.dst i Z[i] (BO hi)
 have b:=h.dst j Z[j] (BO hj)
 rw[<- e] at b
 have:=a.2.uniq b.2
 omega
theorem Trl.rng {m:Nat}{ns:List (List Int)}(O:Ok m ns){s g:Int}(hs:0<=s/\s<m){N:Nat}{Z:List Int}(h:Trl ns s g N Z):∀v∈Z,0<=v/\v<m:=λv hv=>by
 obtain ⟨i,e⟩:=CW.mp hv
 exact (h.dst i v e).2.1.rng O hs
theorem Way.last {ns:List (List Int)}{s g:Int}{N:Nat}{Z:List Int}(h:Way ns s g N Z):Z[N]? = some s:=by
 obtain ⟨x,ex⟩:∃x,Z[N]? = some x:=⟨_,BO (by have:=h.2;lia)⟩
 have a:=(h.1.dst N x ex).2
 rw[Nat.sub_self] at a
 rw[ex,a.1.zero]
theorem Way.two {ns:List (List Int)}{s g:Int}(ne:s≠g){N:Nat}{Z:List Int}(h:Way ns s g N Z):2<=N:=by
 rcases N with _ | _ | N
 ·have a:=(h.1.dst 0 g h.1.hd).2
  exact absurd a.1.zero.symm ne
 ·have:=h.1.ch 0 g s h.1.hd h.last
  exact absurd this.2 (by simp)
 ·lia
theorem Way.ring {m:Nat}{ns:List (List Int)}(O:Ok m ns){s g:Int}(ne:s≠g)(hs:0<=s/\s<m)(td:Td ns s g){N:Nat}{Z:List Int}(h:Way ns s g N Z):Ring m ns Z:=by
 have h2:=h.two ne
 have lz:=h.2
 refine ⟨λz=>by rw[z] at lz;simp at lz,h.1.inj,h.1.rng O hs,?_,λx y e=>by rw[e] at lz;simp at lz;omega⟩
 ·have t1:Z.take 1=[g]:=by
   have:=h.1.hd
   cases Z with
   | nil=>cases this
   | cons a t=>cases this;rfl
  rw[t1]
  refine oK λi x y e1 e2 =>?_
  rcases Gf (i+1) Z.length with c | c
  ·rw[CB (by omega)] at e1 e2
   exact Td.symm _ _ ((gX O).mp (h.1.ch i x y e1 e2).1).2
  ·rw[C6 (by omega)] at e2
   have:i+1-Z.length=0:=by
    rcases Gv (i+1-Z.length) with z | z
    ·exact z
    ·rw[Du (by simp;omega)] at e2;cases e2
   rw[this] at e2;cases e2
   rw[CB (by omega),show i=N by omega,h.last] at e1
   cases e1;exact td
def rot (ns:List Int)(k:Nat):List Int:=ns.drop k++ns.take k
def turn (ns:List Int):List Int:=ns.take 1++(ns.drop 1).reverse
def iZ (a b:List Int):List Int:=if HT.lexLt b a=true then b else a
def frm (ns:List Int)(M:Int):List Int:=iZ (rot ns (ns.idxOf M)) (turn (rot ns (ns.idxOf M)))
theorem r9 (xs:List V){k:Nat}(h:k<=xs.length):fE xs none (some (k:Int))=xs.take k:=by
 unfold fE HT.sIx
 simp only[show ¬ ((k:Int)<0) by lia,if_false,EI,JW,GH,show min k xs.length=k by lia]
theorem k7 (xs:List V){k:Nat}(h:k<=xs.length):fE xs (some (k:Int)) none=xs.drop k:=by
 unfold fE HT.sIx
 simp only[show ¬ ((k:Int)<0) by lia,if_false,EI,show min k xs.length=k by lia]
 exact B9 (by rw[Dt];exact BS _)
abbrev tP:Sp:=λvs H Q _=>∃(p:Addr) (ns:List Int),vs=[.ref p]/\H p=some (.tup (ns.map V.int))/\ns≠[]/\ns.length<=500/\∀(z:Addr) (H':Hp) (M:Int),aD H H'->M∈ns->(∀b∈ns,M<=b)->H' z=some (.tup ((frm ns M).map V.int))->Q (.ref z) H'
@[irreducible] def oN:Sp:=tP
theorem gY {vs:List V}{H:Hp}{Q:VK}{E:XK}:oN vs H Q E↔tP vs H Q E:=by
 delta oN
 exact Eg
section
variable  {P:Ca}{w:CJ}{K:BP}{mg:Str->Option BM}{base:Heap}{f T:Addr}{fd:De}
theorem gZ:aK ["ring", "at", "onward"] ["ring"] (aA iV):=⟨rfl,rfl,rfl,by decide +kernel,rfl,by decide +kernel,by decide +kernel⟩
theorem sd (F:Fun K "ring_form" "ring_form" iV f fd)(B:Blt mg):bM P w K mg base CX0 1 f fd ["ring"] oN:=by
 refine F.ok gZ (λvs H Q E h =>?_) (λcdv A outer s H vs Q E hr h =>?_)
 ·obtain ⟨_,_,rfl,_⟩:=gY.mp h
  rfl
 obtain ⟨p,ns,rfl,ep,ne,l5,q⟩:=gY.mp h
 refine ⟨_,(@ai _ _ _ _ _ (@aM _ _ 1 _ _ _ _ gZ.nd rfl (Or.inl rfl) (rF HG PySem.F.type_tuple_index vd (pv 0) (@aa _ _ _ _ _ (av (rT rfl) rfl B.b_min fk (@aa _ _ _ _ _ (pv 0) ag rfl)) ag rfl)) rfl (by first | exact .inl rfl | exact .inr rfl | assumption))
  (@ai _ _ _ _ _ (@aM _ _ 2 _ _ _ _ gZ.nd rfl (Or.inl rfl) (@aQ _ _ _ _ _ _ _ _ qf (aG aR rfl B.b_tuple cA (@aa _ _ _ _ _ (df gw (pv 0) (dy (pv 1)) eW) ag rfl)) (aG aR rfl B.b_tuple cA (@aa _ _ _ _ _ (df gw (pv 0) eW (dy (pv 1))) ag rfl))) rfl (by first | exact .inl rfl | exact .inr rfl | assumption))
  (@au _ _ _ (@aH _ _ _ _ (av (rQ rfl (hu8 hr)) rfl B.b_min fk (@aa _ _ _ _ _ (pv 2) (@aa _ _ _ _ _ (@aQ _ _ _ _ _ _ _ _ qf (df gw (pv 2) eW (dy ak)) (vc hr.hd rfl B.b_tuple rfl B.b_reversed (df gw (pv 2) (dy ak) eW))) ag rfl) rfl)))))),?_⟩
 have lm:(ns.map V.int).length=ns.length:=BK _
 refine ⟨_,rfl,⟨p,_,rfl,ep⟩,_,rfl,p,ns,rfl,SqT.of ep,ne,λM hM mn=>⟨p,ns,M,rfl,rfl,ep,hM,?_⟩⟩
 have hk:ns.idxOf M<=ns.length:=Fv (Ga.mpr hM)
 have q:=λz H'=>q z H' M
 unfold frm rot at q
 generalize ns.idxOf M=k at hk q
 refine ⟨_,rfl,_,rfl,_,rfl,p,_,rfl,ep,λp1 H1 s1 e1=>⟨p1,_,rfl,.inr ⟨SqT.of e1,?_⟩⟩⟩
 rw[k7 _ (by rw[lm];exact hk), <- FG] at e1
 refine ⟨_,rfl,_,rfl,_,rfl,p,_,rfl,s1 _ _ ep,λp2 H2 s2 e2=>⟨p2,_,rfl,.inr ⟨SqT.of e2,?_⟩⟩⟩
 rw[r9 _ (by rw[lm];exact hk), <- G3] at e2
 refine ⟨p1,p2,_,_,rfl,rfl,s2 _ _ e1,e2,by rw[BK,BK,Dt,Di];exact small (by lia),λp3 H3 s3 e3 =>?_⟩
 rw[<- B5] at e3
 have lo:(ns.drop k++ns.take k).length=ns.length:=by rw[BR,Dt,Di];lia
 generalize ns.drop k++ns.take k=os at e3 lo q
 have lom:(os.map V.int).length=os.length:=BK _
 have po:=Eo.mpr ne
 refine ⟨_,rfl,_,rfl,1,rfl,p3,_,rfl,e3,λp4 H4 s4 e4 =>?_⟩
 rw[show fE (os.map V.int) none (some 1)=(os.map V.int).take 1 from r9 (k:=1) _ (by rw[lom];lia), <- G3] at e4
 refine ⟨_,rfl,1,rfl,p3,_,rfl,s4 _ _ e3,λp5 H5 s5 e5 =>?_⟩
 rw[show fE (os.map V.int) (some 1) none=(os.map V.int).drop 1 from k7 (k:=1) _ (by rw[lom];lia), <- FG] at e5
 refine ⟨p5,_,rfl,SqT.of e5,by rw[BK,Dt];lia,λp6 hp6 =>?_⟩
 rw[<- Kh]
 have g6:=af hp6 (.tup ((os.drop 1).reverse.map V.int))
 have ep6:upd H5 p6 (.tup ((os.drop 1).reverse.map V.int)) p6=some (.tup ((os.drop 1).reverse.map V.int)):=ah
 generalize upd H5 p6 (.tup ((os.drop 1).reverse.map V.int))=H6 at g6 ep6
 refine ⟨p4,p6,_,_,rfl,rfl,g6 _ _ (s5 _ _ e4),ep6,by rw[BK,BK,Di,DJ,Dt];exact small (by lia),λp7 H7 s7 e7 =>?_⟩
 rw[<- B5] at e7
 have s47:=s4.trans (s5.trans (g6.trans s7))
 have sA:=s1.trans (s2.trans (s3.trans s47))
 refine ⟨p3,p7,os,_,rfl,SqT.of (s47 _ _ e3),SqT.of e7,λz=>q p7 H7 sA hM mn ?_,λz=>q p3 H7 sA hM mn ?_⟩
 ·rw[show iZ os (turn os)=turn os by unfold iZ;exact if_pos z]
  exact e7
 ·rw[show iZ os (turn os)=os by unfold iZ;exact if_neg (by show ¬ HT.lexLt (turn os) os=true;unfold turn;rw[z];exact B6)]
  exact s47 _ _ e3
end
open PySem L2
def yl (σ:St)(H:Hp):Nat:=match σ with
 | _ :: _ :: _ :: _ :: some (.ref y) :: _=>match H y with
  | some (.lst (_ :: _))=>1
  | _=>0
 | _=>0
theorem zC {c0 c1 c2 c3:Option V}{y:Addr}{r:St}{H:Hp}{xs:List V}(e:H y=some (.lst xs)):yl (c0 :: c1 :: c2 :: c3 :: some (.ref y) :: r) H=if xs=[] then 0 else 1:=by
 unfold yl
 dsimp only
 rw[e]
 cases xs with
 | nil=>rfl
 | cons a t=>rfl
theorem se {n:Nat}(h:n<=5000):n<B4:=Gn h (by decide)
theorem gc {ms:List Int}{i:Nat}{x:V}(e:(ms.map V.int)[i]? = some x):∃n,ms[i]? = some n/\x = .int n:=by
 rw[B7] at e
 cases z:ms[i]? with
 | none=>rw[z] at e;cases e
 | some n=>rw[z] at e;exact ⟨n,rfl,(Cw e).symm⟩
theorem tQ {H:Hp}{d:Addr}{kvs:List (Key×V)}(e:H d=some (.dK kvs)):kZ H d=kvs.length:=by unfold kZ;rw[e]
theorem tR {H:Hp}{d:Addr}{xs:List V}(e:H d=some (.lst xs)):lV H d=xs.length:=by unfold lV;rw[e]
theorem gy {l:List Int}{i:Nat}{x v:Int}(e:l[i]? = some x)(h:v∈l.take (i+1)):v∈l.take i\/v=x:=by
 rw[Dp,e] at h
 rcases B0.mp h with z | z
 ·exact .inl z
 ·exact .inr (by simpa using z)
abbrev xr:Sp:=λvs H Q _=>∃(n:Addr) (m:Nat) (ns:List (List Int)) (os:List (Addr×List Int)) (s g:Int),vs=[.ref n,.int s,.int g]/\fX H n m ns os/\Ok m ns/\m<=400/\(0<=s/\s<m)/\s≠g/\(∀H',aD H H'->(∀k,¬ Wk (stp ns s g) s k g)->Q .non H')/\∀(z:Addr) (H':Hp) (N:Nat) (Z:List Int),aD H H'->H' z=some (.tup (Z.map V.int))->Way ns s g N Z->Q (.ref z) H'
@[irreducible] def tS:Sp:=xr
theorem i3 {vs:List V}{H:Hp}{Q:VK}{E:XK}:tS vs H Q E↔xr vs H Q E:=by
 delta tS
 exact Eg
section
variable  {P:Ca}{w:CJ}{K:BP}{mg:Str->Option BM}{base:Heap}{f T:Addr}{fd:De}
theorem bW:aK ["near", "start", "goal", "came", "ready", "further", "place", "other", "way"] ["near", "start", "goal"] (aA eI):=⟨rfl,rfl,rfl,by decide +kernel,rfl,by decide +kernel,by decide +kernel⟩
theorem sf (F:Fun K "way_about" "way_about" eI f fd)(B:Blt mg):bM P w K mg base CX0 1 f fd ["near", "start", "goal"] tS:=by
 refine F.ok bW (λvs H Q E h =>?_) (λcdv A outer s H vs Q E hr h =>?_)
 ·obtain ⟨_,_,_,_,_,_,rfl,_⟩:=i3.mp h
  rfl
 obtain ⟨n,m,ns,os,sa,gb,rfl,N,O,m4,hs,nsg,q0,q1⟩:=i3.mp h
 have hu:(lH CX0 P w K mg base ["near", "start", "goal", "came", "ready", "further", "place", "other", "way"] "way_about" (aA eI) f cdv A outer s H E).nox.A.units+1<cLine:=vS hr
 have kl:∀{d:Nat} {C:List (Int×V)} {Y F:List Int},Rnd ns sa gb d C Y F->C.length<=m:=λ{d C Y F} I=>by
  have:=cB I.nd (m:=m) λv hv=>by
   rcases (I.key v).mp hv with ⟨k,_,wk⟩ | z
   ·exact wk.rng O hs
   ·exact (I.fur v z).1.rng O hs
  rwa [BK] at this
 refine eJ ((bS eI).drop 3) (λσ H'=>∃(c5 c6 c7:Option V) (dd y:Addr) (d:Nat) (C:List (Int×V)) (Y:List Int),σ=[some (.ref n),some (.int sa),some (.int gb),some (.ref dd),some (.ref y),c5,c6,c7,none]/\H dd=none/\aD H H'/\H' dd=some (.dK (mp C))/\H' y=some (.lst (Y.map V.int))/\Rnd ns sa gb d C Y []/\(Y=[]\/gb∈C.map (·.1))) ?hT λtT pT mT =>?gT
 case hT =>
  refine ⟨_,(@ai _ _ _ _ _ (@bE _ _ _ _ _ _ _ _ (jO (eF hu (pv 2) (pv 3))) (@au _ _ _ (@aH _ _ _ _ gJ)) aO)
  (@ai _ _ _ _ _ (@aM _ _ 8 _ _ _ _ bW.nd rfl (Or.inl rfl) (@bY _ _ _ _ ag) rfl (by first | exact .inl rfl | exact .inr rfl | assumption))
  (@ai _ _ _ _ _ (@aM _ _ 6 _ _ _ _ bW.nd rfl (Or.inl rfl) (pv 2) rfl (by first | exact .inl rfl | exact .inr rfl | assumption))
  (@ai _ _ _ _ _ (jQ CL (aJ sD (pv 6) gJ (aU _))
   (@ai _ _ _ _ _ (bN (cS Cr CU CV bL (pv 8) (@aa _ _ _ _ _ (pv 6) ag rfl)))
   (@au _ _ _ (@aM _ _ 6 _ _ _ _ bW.nd rfl (Or.inl rfl) (yE hu (pv 3) (pv 6) (λ_ _=>rfl)) rfl (by first | exact .inl rfl | exact .inr rfl | assumption)))))
  (@au _ _ _ (@aH _ _ _ _ (aG aR rfl B.b_tuple cA (@aa _ _ _ _ _ (pv 8) ag rfl)))))))),?_⟩
  rintro σ H' ⟨c5,c6,c7,dd,y,d,C,Y,rfl,hdd,s',ed,ey,I,h2⟩
  refine ⟨_,rfl,_,rfl,dd,_,rfl,iT.k (k:=Sum.inl gb) ed,_,rfl,?_⟩
  rw[xq]
  by_cases hg:gb∈C.map (·.1)
  ·rw[decide_eq_true hg]
   refine bT ⟨(by show 0<=B4;decide),λwy hwy =>?_⟩
   have g2:=af hwy (.lst [])
   have ew:upd H' wy (.lst []) wy=some (.lst (([]:List Int).map V.int)):=ah
   have ed2:=g2 _ _ ed
   have hw0:=s'.free hwy
   have ndw:dd≠wy:=aB ed hwy
   have s2:=s'.trans g2
   generalize upd H' wy (.lst [])=H2 at g2 ew ed2 s2
   obtain ⟨NN,hN,dN⟩:=I.dst hg
   refine ⟨_,rfl,?_⟩
   refine jS (λσ H'=>∃(x:V) (W Z:List Int),σ=[some (.ref n),some (.int sa),some (.int gb),some (.ref dd),some (.ref y),c5,some x,c7,some (.ref wy)]/\aD H H'/\H' dd=some (.dK (mp C))/\H' wy=some (.lst (W.map V.int))/\Trl ns sa gb NN Z/\((∃(p:Int) (k:Nat),x = .int p/\Z=W++[p]/\Dst (stp ns sa gb) sa k p/\k+W.length=NN)\/(x = .non/\Z=W/\Z.length=NN+1)))
    (λσ H'=>NN+1-lV H' wy) ⟨_,[],[gb],rfl,s2,ed2,ew,Trl.start dN,.inl ⟨gb,NN,rfl,rfl,dN,rfl⟩⟩ ?_ ?_
   ·rintro σ H3 ⟨x,W,Z,rfl,s3,ed3,ew3,tr,cs⟩
    have yw:=tR ew3
    rw[BK] at yw
    rcases cs with ⟨p,k,rfl,rfl,dp,kW⟩ | ⟨rfl,rfl,lZ⟩
    ·refine ⟨_,rfl,rfl,_,rfl,bQ ?_⟩
     refine ⟨_,rfl,.inl ⟨rfl,_,SqL.of ew3⟩,_,rfl,wy,_,_,rfl,rfl,ew3,by rw[BK];exact bA (by have:=cB tr.inj (tr.rng O hs);rw[BR] at this;lia),?_⟩
     have ew4:upd H3 wy (.lst (W.map V.int++[.int p])) wy=some (.lst ((W++[p]).map V.int)):=by rw[ah,B5];rfl
     have ed4:upd H3 wy (.lst (W.map V.int++[.int p])) dd=some (.dK (mp C)):=by rw[aE ndw];exact ed3
     have s4:=aD.cE s3 hw0 (.lst (W.map V.int++[.int p]))
     generalize upd H3 wy (.lst (W.map V.int++[.int p]))=H4 at ew4 ed4 s4
     have y4:=tR ew4
     rw[BK,BR] at y4
     have y4':lV H4 wy=W.length+1:=y4
     obtain ⟨x,hx,ex⟩:=AM ((I.key p).mpr (.inl ⟨k,by lia,dp.1⟩))
     refine ⟨_,rfl,_,rfl,dd,x,rfl,?_,⟨x,W++[p],?_⟩,by rw[yw,y4'];lia⟩
     ·have:=iT.k (k:=Sum.inl p) ed4
      rw[ex] at this
      exact this
     rcases I.ent _ hx with ⟨e1,e2⟩ | ⟨p',k',e2,d1,d2,st⟩
     ·have k0:k=0:=dp.uniq (b:=0) (by rw[show p=sa from e1];exact ⟨.z,λj hj=>absurd hj (G7 _)⟩)
      refine ⟨W++[p],rfl,s4,ed4,ew4,tr,.inr ⟨e2,rfl,by rw[BR];show W.length+1=_;lia⟩⟩
     ·have kk:k=k'+1:=dp.uniq d2
      refine ⟨W++[p]++[p'],rfl,s4,ed4,ew4,tr.add (by lia) d1 st,.inl ⟨p',k',e2,rfl,d1,by rw[BR];show k'+(W.length+1)=_;lia⟩⟩
    ·refine ⟨_,rfl,rfl,_,rfl,bT ?_⟩
     refine ⟨_,rfl,wy,_,rfl,.inl ⟨SqL.of ew3,λz hz=>q1 z _ NN Z (s3.trans (af hz _)) ah ⟨tr,lZ⟩⟩⟩
   ·rintro σ H Q Q' h ⟨v,e,k,c,t,q⟩;exact ⟨v,e,k,c,t,h _ _ q⟩
  ·rw[decide_eq_false hg]
   have hY:Y=[]:=h2.resolve_right hg
   subst hY
   exact bQ (q0 H' s' λk wk=>hg (I.stop wk))
 case gT =>
 refine ⟨_,(@ai _ _ _ _ _ (@aM _ _ 3 _ _ _ _ bW.nd rfl (Or.inl rfl) (tj (qb (pv 1) gJ ti) rfl rfl (by simp) (by decide)) rfl (by first | exact .inl rfl | exact .inr rfl | assumption))
  (@ai _ _ _ _ _ (@aM _ _ 4 _ _ _ _ bW.nd rfl (Or.inl rfl) (@bY _ _ _ _ (@aa _ _ _ _ _ (pv 1) ag rfl)) rfl (by first | exact .inl rfl | exact .inr rfl | assumption))
  (@ai _ _ _ _ _ (jQ CL (PW.pt (nH (o6 (pv 4) (λ_=>rfl)) (jA (jO (eF hu (pv 2) (pv 3))))))
   (@ai _ _ _ _ _ (@aM _ _ 5 _ _ _ _ bW.nd rfl (Or.inl rfl) (@bY _ _ _ _ ag) rfl (by first | exact .inl rfl | exact .inr rfl | assumption))
   (@ai _ _ _ _ _ (@bP _ _ _ _ _ _ _ _ CL rfl (@bO _ _ _ _ (pv 4)) (aq (i:=6) bW.nd rfl (Or.inl rfl))
    (@au _ _ _ (@bP _ _ _ _ _ _ _ _ CL rfl (@bO _ _ _ _ (@aS _ _ _ _ _ _ _ cC (pv 0) (pv 6) (λ_ _=>rfl))) (aq (i:=7) bW.nd rfl (Or.inl rfl))
     (@au _ _ _ (@bE _ _ _ _ _ _ _ _ (PW.pt (nH (jO (eF hu (pv 7) (pv 3))) (jA (PW.pt (ia (aJ o4 (pv 6) (pv 1) (aU _)) (iK (aJ o4 (pv 7) (pv 2) (aU _)))))))) (@ai _ _ _ _ _ (og hu (pv 3) (pv 7) (pv 6) rfl)
      (@au _ _ _ (bN (cS Cr CU CV bL (pv 5) (@aa _ _ _ _ _ (pv 7) ag rfl))))) aO)) (λ_=>rfl))) (λ_=>rfl))
   (@au _ _ _ (@aM _ _ 4 _ _ _ _ bW.nd rfl (Or.inl rfl) (pv 5) rfl (by first | exact .inl rfl | exact .inr rfl | assumption))))))
  pT))),?_⟩
 refine λdd hdd=>⟨_,rfl,ah,[(Sum.inl sa,.non)],rfl,(by show 1<=15;decide),?_⟩
 have e1d:upd (upd H dd (.dK [])) dd (.dK (dt [] [(Sum.inl sa,V.non)])) dd=some (.dK (mp [(sa,.non)])):=ah
 have s1:aD H (upd (upd H dd (.dK [])) dd (.dK (dt [] [(Sum.inl sa,V.non)]))):=λb o e=>by
  rw[aE (aB e hdd),aE (aB e hdd)];exact e
 generalize upd (upd H dd (.dK [])) dd (.dK (dt [] [(Sum.inl sa,V.non)]))=H1 at e1d s1
 refine ⟨_,rfl,(by show 1<=B4;decide),λy hy =>?_⟩
 have g2:=af hy (.lst [.int sa])
 have e2y:upd H1 y (.lst [.int sa]) y=some (.lst (([sa]:List Int).map V.int)):=ah
 have e2d:=g2 _ _ e1d
 have s2:=s1.trans g2
 generalize upd H1 y (.lst [.int sa])=H2 at g2 e2y e2d s2
 refine jS (λσ H'=>∃(c5 c6 c7:Option V) (y:Addr) (d:Nat) (C:List (Int×V)) (Y:List Int),σ=[some (.ref n),some (.int sa),some (.int gb),some (.ref dd),some (.ref y),c5,c6,c7,none]/\aD H H'/\H' dd=some (.dK (mp C))/\H' y=some (.lst (Y.map V.int))/\Rnd ns sa gb d C Y [])
  (λσ H'=>2*(m-kZ H' dd)+yl σ H') ⟨_,_,_,y,0,_,_,rfl,s2,e2d,e2y,Rnd.start ns sa gb⟩ ?_ ?_
 ·rintro σ H' ⟨c5,c6,c7,y,d,C,Y,rfl,s',ed,ey,I⟩
  refine ⟨_,rfl, !(Y.map V.int).isEmpty,.inl ⟨_,SqL.of ey,rfl⟩,?_⟩
  by_cases hY:Y=[]
  ·have fin:=mT _ _ ⟨c5,c6,c7,dd,y,d,C,Y,rfl,hdd,s',ed,ey,I,.inl hY⟩
   subst hY
   exact bT fin
  rw[show (!(Y.map V.int).isEmpty)=true by cases Y with | nil=>exact absurd rfl hY | cons a t=>rfl]
  refine bQ ⟨_,rfl,_,rfl,dd,_,rfl,iT.k (k:=Sum.inl gb) ed,_,rfl,?_⟩
  rw[xq]
  by_cases hg:gb∈C.map (·.1)
  ·rw[decide_eq_true hg]
   exact bT (mT _ _ ⟨c5,c6,c7,dd,y,d,C,Y,rfl,hdd,s',ed,ey,I,.inr hg⟩)
  rw[decide_eq_false hg]
  refine bQ ⟨(by show 0<=B4;decide),λfu hfu =>?_⟩
  have hf0:=s'.free hfu
  have g3:=af hfu (.lst [])
  have ef:upd H' fu (.lst []) fu=some (.lst (([]:List Int).map V.int)):=ah
  have ed3:=g3 _ _ ed
  have ey3:=g3 _ _ ey
  have ndf:dd≠fu:=aB ed hfu
  have nyf:y≠fu:=aB ey hfu
  have s3:=s'.trans g3
  have nyd:y≠dd:=jb ey ed (by intro z;cases z)
  have mu0:2*(m-kZ H' dd)+yl [some (.ref n),some (.int sa),some (.int gb),some (.ref dd),some (.ref y),c5,c6,c7,none] H'=2*(m-C.length)+1:=by
   rw[tQ ed,r6,zC ey,if_neg (by simpa using hY)]
  rw[mu0]
  generalize upd H' fu (.lst [])=H3 at g3 ef ed3 ey3 s3
  have kC:=kl I
  let W0:Nat->St->Hp->Prop:=λi σ H4=>∃(c6 c7:Option V) (C4:List (Int×V)) (F4:List Int),σ=[some (.ref n),some (.int sa),some (.int gb),some (.ref dd),some (.ref y),some (.ref fu),c6,c7,none]/\aD H H4/\H4 dd=some (.dK (mp C4))/\H4 y=some (.lst (Y.map V.int))/\H4 fu=some (.lst (F4.map V.int))/\Rnd ns sa gb d C4 Y F4/\C4.length=C.length+F4.length/\∀p∈Y.take i,∀o,stp ns sa gb p o->o∈C4.map (·.1)
  refine ⟨_,rfl,y,rfl,⟨_,SqL.of ey3⟩,dJ (xs:=Y.map V.int) W0
   ⟨_,_,C,[],rfl,s3,ed3,ey3,ef,I,rfl,λp hp=>by simp at hp⟩ (λi σ H4 _ z =>?_) ?_ ?_⟩
  ·obtain ⟨_,_,_,_,_,_,_,e,_⟩:=z
   exact SqL.of e
  ·rintro i x σ H4 hx ⟨c6,c7,C4,F4,rfl,s4,ed4,ey4,ef4,I4,l4,cl4⟩
   obtain ⟨p,ep,rfl⟩:=gc hx
   have pY:=BV ep
   have pr:=((I4.rdy p).mp pY).1.rng O hs
   obtain ⟨pn,rfl⟩:∃k:Nat,p=k:=⟨p.toNat,by lia⟩
   have N4:=N.same s4
   have pl:pn<os.length:=by rw[N.len];lia
   obtain ⟨uu,eu⟩:∃u,os[pn]? = some u:=⟨_,BO pl⟩
   have rowu:=N4.row _ (BV eu)
   have isu:=N.is pn _ eu
   refine ⟨_,rfl,_,rfl,n,_,(pn:Int),_,rfl,rfl,SqL.of N4.at',dz (by rw[B7,eu];rfl),uu.1,rfl,⟨_,SqL.of rowu⟩,dJ (xs:=uu.2.map V.int)
    (λj σ H5=>∃(c7:Option V) (C5:List (Int×V)) (F5:List Int),σ=[some (.ref n),some (.int sa),some (.int gb),some (.ref dd),some (.ref y),some (.ref fu),some (.int pn),c7,none]/\aD H H5/\H5 dd=some (.dK (mp C5))/\H5 y=some (.lst (Y.map V.int))/\H5 fu=some (.lst (F5.map V.int))/\Rnd ns sa gb d C5 Y F5/\C5.length=C.length+F5.length/\(∀p∈Y.take i,∀o,stp ns sa gb p o->o∈C5.map (·.1))/\∀o∈uu.2.take j,stp ns sa gb pn o->o∈C5.map (·.1))
    ⟨_,C4,F4,rfl,s4,ed4,ey4,ef4,I4,l4,cl4,λo ho=>by simp at ho⟩ (λj σ H5 _ z =>?_) ?_ ?_⟩
   ·obtain ⟨_,_,_,_,s5,_⟩:=z
    exact SqL.of ((N.same s5).row _ (BV eu))
   ·rintro j x σ H5 hx ⟨c7,C5,F5,rfl,s5,ed5,ey5,ef5,I5,l5,cl5,tk5⟩
    obtain ⟨o,eo,rfl⟩:=gc hx
    have ao:Adj ns pn o:=(isu o).mp (BV eo)
    refine ⟨_,rfl,_,rfl,dd,_,rfl,iT.k (k:=Sum.inl o) ed5,_,rfl,?_⟩
    rw[xq]
    by_cases ho:o∈C5.map (·.1)
    ·rw[decide_eq_true ho]
     refine bT (bT ⟨_,C5,F5,rfl,s5,ed5,ey5,ef5,I5,l5,cl5,λo' h' st =>?_⟩)
     rcases gy eo h' with z | z
     ·exact tk5 o' z st
     ·rw[z];exact ho
    rw[decide_eq_false ho]
    have k5:=kl I5
    have hd:p8 H5 dd (.int o) (.int pn) (upd H5 dd (.dK (putK (mp C5) (Sum.inl o) (.int pn)))):=p8.k (k:=Sum.inl o) ed5 (by rw[r6];exact se (by lia))
    rw[AN ho] at hd
    have ed6:upd H5 dd (.dK (mp (C5++[(o,.int pn)]))) dd=some (.dK (mp (C5++[(o,.int pn)]))):=ah
    have ef6:upd H5 dd (.dK (mp (C5++[(o,.int pn)]))) fu=some (.lst (F5.map V.int)):=by rw[aE (Dq ndf)];exact ef5
    have ey6:upd H5 dd (.dK (mp (C5++[(o,.int pn)]))) y=some (.lst (Y.map V.int)):=by rw[aE nyd];exact ey5
    have s6:=aD.cE s5 hdd (.dK (mp (C5++[(o,.int pn)])))
    generalize upd H5 dd (.dK (mp (C5++[(o,.int pn)])))=H6 at hd ed6 ef6 ey6 s6
    have fin:stp ns sa gb pn o->∃(c7:Option V) (C5:List (Int×V)) (F5':List Int),[some (.ref n),some (.int sa),some (.int gb),some (.ref dd),some (.ref y),some (.ref fu),some (.int pn),some (.int o),none]=[some (.ref n),some (.int sa),some (.int gb),some (.ref dd),some (.ref y),some (.ref fu),some (.int pn),c7,none]/\aD H (upd H6 fu (.lst (F5.map V.int++[.int o])))/\(upd H6 fu (.lst (F5.map V.int++[.int o]))) dd=some (.dK (mp C5))/\(upd H6 fu (.lst (F5.map V.int++[.int o]))) y=some (.lst (Y.map V.int))/\(upd H6 fu (.lst (F5.map V.int++[.int o]))) fu=some (.lst (F5'.map V.int))/\Rnd ns sa gb d C5 Y F5'/\C5.length=C.length+F5'.length/\(∀p∈Y.take i,∀o,stp ns sa gb p o->o∈C5.map (·.1))/\∀o∈uu.2.take (j+1),stp ns sa gb pn o->o∈C5.map (·.1):=λst=>by
     refine ⟨_,C5++[(o,.int pn)],F5++[o],rfl,aD.cE s6 hf0 _,by rw[aE ndf];exact ed6,by rw[aE nyf];exact ey6,by rw[ah,B5];rfl,I5.add pY st ho,by rw[BR,BR,l5];rfl,λp' hp' o' st' =>?_,λo' h' st' =>?_⟩
     ·rw[B5];exact CH _ (cl5 p' hp' o' st')
     ·rw[B5]
      rcases gy eo h' with z | z
      ·exact CH _ (tk5 o' z st')
      ·rw[z];exact Cu _ (by simp)
    have lf:F5.length<=400:=by lia
    refine bQ ⟨_,rfl,_,rfl,rfl,_,rfl,gL (λz =>?_) λz=>⟨_,rfl,_,rfl,rfl,_,rfl,gL (λz2 =>?_) λz2 =>?_⟩⟩
    ·have h1:(pn:Int)≠sa:=by simpa using z
     exact bQ ⟨_,rfl,_,rfl,_,rfl,dd,_,rfl,hd,_,rfl,.inl ⟨rfl,_,SqL.of ef6⟩,_,rfl,fu,_,_,rfl,rfl,ef6,by rw[BK];exact se (by lia),fin ⟨ao,.inl h1⟩⟩
    ·have h1:o≠gb:=by simpa using z2
     exact ⟨_,rfl,_,rfl,_,rfl,dd,_,rfl,hd,_,rfl,.inl ⟨rfl,_,SqL.of ef6⟩,_,rfl,fu,_,_,rfl,rfl,ef6,by rw[BK];exact se (by lia),fin ⟨ao,.inr h1⟩⟩
    ·refine ⟨_,C5,F5,rfl,s5,ed5,ey5,ef5,I5,l5,cl5,λo' h' st =>?_⟩
     rcases gy eo h' with y' | y'
     ·exact tk5 o' y' st
     ·subst y'
      have h1:(pn:Int)=sa:=by simpa using z
      have h2:o'=gb:=by simpa using z2
      exact absurd st.2 (by simp[h1,h2])
   ·rintro σ H5 ⟨c7,C5,F5,rfl,s5,ed5,ey5,ef5,I5,l5,cl5,tk5⟩
    rw[BK,B9 (BS _)] at tk5
    refine ⟨_,_,C5,F5,rfl,s5,ed5,ey5,ef5,I5,l5,λp' hp' o st =>?_⟩
    rcases gy ep hp' with z | z
    ·exact cl5 p' z o st
    ·subst z
     exact tk5 o ((isu o).mpr st.1) st
  ·rintro σ H4 ⟨c6,c7,C4,F4,rfl,s4,ed4,ey4,ef4,I4,l4,cl4⟩
   rw[BK,B9 (BS _)] at cl4
   have I5:=I4.next cl4
   have k4:=kl I4
   refine ⟨_,rfl,⟨_,_,_,fu,d+1,C4,F4,rfl,s4,ed4,ef4,I5⟩,?_⟩
   show 2*(m-kZ H4 dd)+yl [some (.ref n),some (.int sa),some (.int gb),some (.ref dd),some (.ref fu),some (.ref fu),c6,c7,none] H4<_
   rw[tQ ed4,r6,zC ef4]
   by_cases hF:F4=[]
   ·subst hF;rw[if_pos (show List.map V.int []=[] from rfl),l4];show 2*(m-(C.length+0))+0<_;lia
   ·rw[if_neg (by simpa using hF),l4]
    have:=Eo.mpr hF
    lia
 ·rintro σ H Q Q' h ⟨v,e,k,t,q⟩
  refine ⟨v,e,k,t,?_⟩
  cases k with
  | false=>exact h _ _ q
  | true =>
   obtain ⟨v,e,v2,e2,a,o,e3,g,c,e4,q⟩:=q
   exact ⟨v,e,v2,e2,a,o,e3,g,c,e4,h _ _ q⟩
end
open PySem L2
def qz (ns:List (List Int))(a b:Int):Prop:=a≠b/\ns.count [a,b]<2/\∀k,¬ Wk (stp ns a b) a k b
def Al (ns:List (List Int))(a b:Int)(Z:List Int):Prop:=(a=b/\Z=[a])\/(a≠b/\2<=ns.count [a,b]/\Z=[a,b])\/(a≠b/\ns.count [a,b]<2/\∃N,Way ns a b N Z)
theorem qA {H:Hp}{r:Addr}{m:Nat}{ts:List (Addr×List Int)}(W:Wb H r m ts):Ok m (ts.map (·.2)):=λp hp=>by
 obtain ⟨u,hu,rfl⟩:=Cv.mp hp
 exact W.pr u hu
theorem Al.ring {m:Nat}{ns:List (List Int)}(O:Ok m ns){a b:Int}(hp:[a,b]∈ns){Z:List Int}(h:Al ns a b Z):Ring m ns Z:=by
 obtain ⟨_,_,e,a0,ab,bm⟩:=O _ hp
 cases e
 rcases h with ⟨rfl,rfl⟩ | ⟨ne,c2,rfl⟩ | ⟨ne,c2,N,w⟩
 ·refine ⟨by simp,by simp,λv hv =>?_,?_,λx y e=>by simp at e⟩
  ·rw[BU] at hv;subst hv;exact ⟨a0,bm⟩
  ·show nrm a a∈ns/\True
   rw[cv ab];exact ⟨hp,trivial⟩
 ·refine ⟨by simp,by simp[ne],λv hv =>?_,?_,λx y e =>?_⟩
  ·rcases Cg.mp hv with z | z
   ·subst z;exact ⟨a0,by lia⟩
   ·rw[BU] at z;subst z;exact ⟨by lia,bm⟩
  ·show nrm a b∈ns/\nrm b a∈ns/\True
   rw[dO b a,cv ab];exact ⟨hp,hp,trivial⟩
  ·cases e;rw[cv ab];exact c2
 ·exact w.ring O ne ⟨a0,by lia⟩ (by unfold Td;rw[cv ab];exact hp)
theorem Al.has {ns:List (List Int)}{a b:Int}{Z:List Int}(h:Al ns a b Z):a∈Z/\b∈Z:=by
 rcases h with ⟨rfl,rfl⟩ | ⟨ne,c2,rfl⟩ | ⟨ne,c2,N,w⟩
 ·simp
 ·simp
 ·exact ⟨BV w.last,BV w.1.hd⟩
abbrev qB:Sp:=λvs H Q _=>∃(r n t:Addr) (m:Nat) (ts os:List (Addr×List Int)) (a b:Int),vs=[.ref r,.ref n,.ref t]/\Wb H r m ts/\fX H n m (ts.map (·.2)) os/\m<=400/\H t=some (.tup [.int a,.int b])/\[a,b]∈ts.map (·.2)/\(∀H',aD H H'->qz (ts.map (·.2)) a b->Q .non H')/\∀(z:Addr) (H':Hp) (Z:List Int),aD H H'->H' z=some (.tup (Z.map V.int))->Al (ts.map (·.2)) a b Z->Q (.ref z) H'
@[irreducible] def jH:Sp:=qB
theorem gf {vs:List V}{H:Hp}{Q:VK}{E:XK}:jH vs H Q E↔qB vs H Q E:=by
 delta jH
 exact Eg
section
variable  {P:Ca}{w:CJ}{K:BP}{mg:Str->Option BM}{base:Heap}{f T:Addr}{fd:De}
theorem qC:aK ["web", "near", "tie"] ["web", "near", "tie"] (aA gN):=⟨rfl,rfl,rfl,by decide +kernel,rfl,by decide +kernel,by decide +kernel⟩
theorem qD (F:Fun K "ring_along" "ring_along" gN f fd)(B:Blt mg)(cWayAbout:Cal P w K mg base 1 "way_about" ["near", "start", "goal"] tS)(cTiedTimes:Cal P w K mg base 2 "tied_times" ["web", "one", "other"] gx):bM P w K mg base CX0 3 f fd ["web", "near", "tie"] jH:=by
 refine F.ok qC (λvs H Q E h =>?_) (λcdv A outer s H vs Q E hr h =>?_)
 ·obtain ⟨_,_,_,_,_,_,_,_,rfl,_⟩:=gf.mp h
  rfl
 obtain ⟨r,n,t,m,ts,os,a,b,rfl,W,N,m4,et,hp,q0,q1⟩:=gf.mp h
 refine ⟨_,(@ai _ _ _ _ _ (@bE _ _ _ _ _ _ _ _ (aJ du (@aS _ _ _ _ _ _ _ aV (pv 2) ak (λ_ _=>rfl)) (@aS _ _ _ _ _ _ _ aV (pv 2) ak (λ_ _=>rfl)) (aU _)) (@au _ _ _ (@aH _ _ _ _ (@bp _ _ _ _ _ (@aa _ _ _ _ _ (@aS _ _ _ _ _ _ _ aV (pv 2) ak (λ_ _=>rfl)) ag rfl)))) aO)
  (@ai _ _ _ _ _ (@bE _ _ _ _ _ _ _ _ (aJ vL (aN cTiedTimes hr (by decide) rfl (@aa _ _ _ _ _ (pv 0) (@aa _ _ _ _ _ (@aS _ _ _ _ _ _ _ aV (pv 2) ak (λ_ _=>rfl)) (@aa _ _ _ _ _ (@aS _ _ _ _ _ _ _ aV (pv 2) ak (λ_ _=>rfl)) ag rfl) rfl) rfl)) ak (aU _)) (@au _ _ _ (@aH _ _ _ _ (pv 2))) aO)
  (@au _ _ _ (@aH _ _ _ _ (aN cWayAbout hr (by decide) rfl (@aa _ _ _ _ _ (pv 1) (@aa _ _ _ _ _ (@aS _ _ _ _ _ _ _ aV (pv 2) ak (λ_ _=>rfl)) (@aa _ _ _ _ _ (@aS _ _ _ _ _ _ _ aV (pv 2) ak (λ_ _=>rfl)) ag rfl) rfl) rfl)))))),?_⟩
 have O:=qA W
 obtain ⟨_,_,e,a0,ab,bm⟩:=O _ hp
 cases e
 refine ⟨_,rfl,t,_,0,_,rfl,rfl,SqT.of et,rfl,_,rfl,t,_,1,_,rfl,rfl,SqT.of et,rfl,rfl,_,rfl,gL (λz =>?_) λz =>?_⟩
 ·have eq:a=b:=by simpa using z
  exact ⟨_,rfl,t,_,0,_,rfl,rfl,SqT.of et,rfl,(by show 1<=B4;decide),λz hz=>q1 z _ [a] (af hz _) ah (.inl ⟨eq,rfl⟩)⟩
 have ne:a≠b:=by simpa using z
 refine ⟨_,rfl,_,rfl,t,_,0,_,rfl,rfl,SqT.of et,rfl,_,rfl,t,_,1,_,rfl,rfl,SqT.of et,rfl,ck.mpr ⟨r,m,a,b,ts,rfl,W,λH1 s1 =>?_⟩⟩
 rw[cv ab]
 refine ⟨_,_,rfl,rfl,_,rfl,gL (λz =>?_) λz =>?_⟩
 ·have c2:2<=(ts.map (·.2)).count [a,b]:=by have z':=of_decide_eq_true z;lia
  exact ⟨_,rfl,q1 t H1 [a,b] s1 (s1 _ _ et) (.inr (.inl ⟨ne,c2,rfl⟩))⟩
 have c2:(ts.map (·.2)).count [a,b]<2:=by have z':=of_decide_eq_false (eq_false_of_ne_true z);lia
 refine ⟨_,rfl,_,rfl,t,_,0,_,rfl,rfl,SqT.of (s1 _ _ et),rfl,_,rfl,t,_,1,_,rfl,rfl,SqT.of (s1 _ _ et),rfl,i3.mpr ⟨n,m,_,os,a,b,rfl,N.same s1,O,m4,⟨a0,by lia⟩,ne,λH2 s2 no=>q0 H2 (s1.trans s2) ⟨ne,c2,no⟩,λz H2 NN Z s2 ez w=>q1 z H2 Z (s1.trans s2) ez (.inr (.inr ⟨ne,c2,NN,w⟩))⟩⟩
end
def enc:Option (Addr×List Int)->V
 | none =>.non
 | some u =>.ref u.1
def keep (ws:List (Option (Addr×List Int))):List (Addr×List Int):=ws.filterMap id
theorem iF {ws:List (Option (Addr×List Int))}{u:Addr×List Int}:u∈keep ws↔some u∈ws:=by
 unfold keep
 rw[Fs]
 exact ⟨λ⟨a,h,e⟩=>by rw[<- show a=some u from e];exact h,λh=>⟨some u,h,rfl⟩⟩
abbrev qF:Sp:=λvs H Q _=>∃(l:Addr) (ws:List (Option (Addr×List Int))),vs=[.ref l]/\H l=some (.lst (ws.map enc))/\(∀u,some u∈ws->H u.1=some (.tup (u.2.map V.int)))/\ws.length<=1000/\(∀H',aD H H'->(∀x∈ws,x=none)->Q .non H')/\∀(u:Addr×List Int) (H':Hp),aD H H'->some u∈ws->(∀v,some v∈ws->u.2.length<=v.2.length)->Q (.ref u.1) H'
@[irreducible] def jI:Sp:=qF
theorem gg {vs:List V}{H:Hp}{Q:VK}{E:XK}:jI vs H Q E↔qF vs H Q E:=by
 delta jI
 exact Eg
section
variable  {P:Ca}{w:CJ}{K:BP}{mg:Str->Option BM}{base:Heap}{f T:Addr}{fd:De}
theorem oO:aK ["ways"] ["ways"] (aA fQ):=⟨rfl,rfl,rfl,by decide +kernel,rfl,by decide +kernel,by decide +kernel⟩
theorem i4:(["way"]:List Str).Nodup:=by decide +kernel
theorem oP (F:Fun K "shortest_of" "shortest_of" fQ f fd)(B:Blt mg):bM P w K mg base CX0 1 f fd ["ways"] jI:=by
 refine F.ok oO (λvs H Q E h =>?_) (λcdv A outer s H vs Q E hr h =>?_)
 ·obtain ⟨_,_,rfl,_⟩:=gg.mp h
  rfl
 obtain ⟨l,ws,rfl,el,tu,l9,q0,q1⟩:=gg.mp h
 refine ⟨_,(@au _ _ _ (@aH _ _ _ _ (vf rfl rfl B.b_min rfl B.b_len fk (bG ["way"] [none] rfl (@bO _ _ _ _ (pv 0)) rfl (λ_ _ _ _ _=>(aq (i:=0) i4 rfl (Or.inl rfl))) (λ_ _ _ _ _=>(gM (aJ sD (pv 0) gJ (aU _)))) (λ_ _ _ _ _=>(pv 0)))))),?_⟩
 refine ⟨_,rfl,l,rfl,⟨_,SqL.of el⟩,bV (xs:=ws.map enc) (λi ys H'=>H'=H/\ys=(keep (ws.take i)).map λu =>.ref u.1) ⟨rfl,rfl⟩ (by rw[BK];exact small l9) (λi ys H' _ z=>by rw[z.1];exact SqL.of el) ?_ ?_⟩
 ·rintro i x ys H3 hx hy ⟨eH,rfl⟩ R1 R0 r1 r0
  rw[B7] at hx
  cases z:ws[i]? with
  | none=>rw[z] at hx;cases hx
  | some o =>
   rw[z] at hx
   have hx:enc o=x:=Cw hx
   subst hx
   cases o with
   | none =>
    refine ⟨_,rfl,rfl,_,rfl,bT (r0 _ ⟨eH,?_⟩)⟩
    unfold keep
    rw[Dp,z,IH]
    show _=((ws.take i).filterMap id++[]).map _
    rw[CK]
   | some u =>
    refine ⟨_,rfl,rfl,_,rfl,bQ ⟨_,rfl,r1 _ _ ⟨eH,?_⟩⟩⟩
    unfold keep
    rw[Dp,z,IH,B5];rfl
 ·rintro ys H3 hy ⟨eH,rfl⟩ l2 hl2
  rw[eH] at hl2 ⊢
  rw[BK,B9 (BS _)]
  have g2:=af hl2 (.lst ((keep ws).map λu =>.ref u.1))
  refine ⟨l2,keep ws,rfl,SqL.of ah,λt ht=>SqT.of (g2 _ _ (tu t (iF.mp ht))),λz=>q0 _ g2 λx hx =>?_,λt ht mn=>q1 t _ g2 (iF.mp ht) λv hv=>mn v (iF.mpr hv)⟩
  cases x with
  | none=>rfl
  | some u =>
   have:=iF.mpr hx
   rw[z] at this;cases this
end
open PySem L2
def AO (ns:List (List Int))(p:List Int)(o:Option (Addr×List Int)):Prop:=∀a b:Int,p=[a,b]->(o=none/\qz ns a b)\/∃u,o=some u/\Al ns a b u.2
abbrev xt:Sp:=λvs H Q _=>∃(r t:Addr) (m:Nat) (ts us:List (Addr×List Int)),vs=[.ref r,.ref t]/\Wb H r m ts/\m<=400/\(H t=some (.lst (us.map λu =>.ref u.1))\/H t=some (.tup (us.map λu =>.ref u.1)))/\(∀u∈us,u∈ts)/\us.length<=200/\(∀H',aD H H'->(∀u∈us,∀a b,u.2=[a,b]->qz (ts.map (·.2)) a b)->Q .non H')/\∀(z:Addr) (H':Hp) (Z:List Int) (M:Int),aD H H'->H' z=some (.tup ((frm Z M).map V.int))->M∈Z->(∀b∈Z,M<=b)->(∃u∈us,∃a b,u.2=[a,b]/\Al (ts.map (·.2)) a b Z)->(∀u∈us,∀a b,u.2=[a,b]->qz (ts.map (·.2)) a b\/∃Z',Al (ts.map (·.2)) a b Z'/\Z.length<=Z'.length)->Q (.ref z) H'
@[irreducible] def tW:Sp:=xt
theorem i5 {vs:List V}{H:Hp}{Q:VK}{E:XK}:tW vs H Q E↔xt vs H Q E:=by
 delta tW
 exact Eg
section
variable  {P:Ca}{w:CJ}{K:BP}{mg:Str->Option BM}{base:Heap}{f T:Addr}{fd:De}
theorem fv:aK ["web", "ties", "near", "least"] ["web", "ties"] (aA fR):=⟨rfl,rfl,rfl,by decide +kernel,rfl,by decide +kernel,by decide +kernel⟩
theorem dS:(["tie", "web", "near"]:List Str).Nodup:=by decide +kernel
theorem oQ (F:Fun K "least_along" "least_along" fR f fd)(B:Blt mg)(cNearLists:Cal P w K mg base 1 "near_lists" ["web"] iA)(cShortestOf:Cal P w K mg base 1 "shortest_of" ["ways"] jI)(cRingForm:Cal P w K mg base 1 "ring_form" ["ring"] oN)(cRingAlong:Cal P w K mg base 3 "ring_along" ["web", "near", "tie"] jH):bM P w K mg base CX0 4 f fd ["web", "ties"] tW:=by
 refine F.ok fv (λvs H Q E h =>?_) (λcdv A outer s H vs Q E hr h =>?_)
 ·obtain ⟨_,_,_,_,_,rfl,_⟩:=i5.mp h
  rfl
 obtain ⟨r,t,m,ts,us,rfl,W,m4,ht,hin,l2,q0,q1⟩:=i5.mp h
 refine ⟨_,(@ai _ _ _ _ _ (@aM _ _ 2 _ _ _ _ fv.nd rfl (Or.inr rfl) (aN cNearLists hr (by decide) rfl (@aa _ _ _ _ _ (pv 0) ag rfl)) rfl (by first | exact .inl rfl | exact .inr rfl | assumption))
  (@ai _ _ _ _ _ (@aM _ _ 3 _ _ _ _ fv.nd rfl (Or.inl rfl) (aN cShortestOf hr (by decide) rfl (@aa _ _ _ _ _ (bG ["tie", "web", "near"] [none,some 0,some 2] rfl (@bO _ _ _ _ (av (fM (w:=w) rfl hr.hd) rfl B.b_sorted cI (@aa _ _ _ _ _ (aG (ku (w:=w) rfl hr.hd hr.units) rfl B.b_set rZ (@aa _ _ _ _ _ (pv 1) ag rfl)) ag rfl))) rfl (λ_ _ _ _ _=>(aq (i:=0) dS rfl (Or.inl rfl))) (λ_ _ _ _ _=>cu) (λ_ _ _ _ _=>(aN cRingAlong hr (by decide) rfl (@aa _ _ _ _ _ (pv 1) (@aa _ _ _ _ _ (pv 2) (@aa _ _ _ _ _ (pv 0) ag rfl) rfl) rfl)))) ag rfl)) rfl (by first | exact .inl rfl | exact .inr rfl | assumption))
  (@ai _ _ _ _ _ (@bE _ _ _ _ _ _ _ _ (aJ zT (pv 3) gJ (aU _)) (@au _ _ _ (@aH _ _ _ _ gJ)) aO)
  (@au _ _ _ (@aH _ _ _ _ (aN cRingForm hr (by decide) rfl (@aa _ _ _ _ _ (pv 3) ag rfl))))))),?_⟩
 have O:=qA W
 refine ⟨_,rfl,dX.mpr ⟨r,m,ts,rfl,W,by lia,by lia,λn H1 os s1 en lo ro iso =>?_⟩⟩
 have NA:fX H1 n m (ts.map (·.2)) os:=⟨en,by rw[lo];lia,ro,λj u e=>(iso j u e).2⟩
 have tu1:∀u∈us,H1 u.1=some (.tup (u.2.map V.int)):=λu hu=>s1 _ _ (W.tup u (hin u hu))
 refine ⟨_,rfl,t,us,rfl,ht.elim (λz =>.inl (SqL.of (s1 _ _ z))) (λz =>.inr (SqT.of (s1 _ _ z))),λu hu=>SqT.of (tu1 u hu),by lia,λa ss hna mu ndu cov hlu =>?_⟩
 have ga:=af hna (cQ w a (ss.map λt =>.ref t.1))
 refine ⟨a,ss,rfl,ah,λu hu=>⟨SqT.of (ga _ _ (tu1 u (mu u hu))),λz =>?_⟩,by lia,λl out hl pm ps =>?_⟩
 ·obtain ⟨x,y,e,_⟩:=W.pr u (hin u (mu u hu))
  rw[z] at e;cases e
 have gl:=ga.trans (af hl (.lst (out.map λt =>.ref t.1)))
 have el:upd (upd H1 a (cQ w a (ss.map λt =>.ref t.1))) l (.lst (out.map λt =>.ref t.1)) l=some (.lst (out.map λt =>.ref t.1)):=ah
 generalize upd (upd H1 a (cQ w a (ss.map λt =>.ref t.1))) l (.lst (out.map λt =>.ref t.1))=H2 at gl el
 have s2:=s1.trans gl
 have lo2:out.length<=200:=by rw[pm.length_eq];lia
 have oin:∀u∈out,u∈us:=λu hu=>mu u (pm.mem_iff.mp hu)
 let W0:Nat->List V->Hp->Prop:=λi ys H'=>aD H2 H'/\∃ws:List (Option (Addr×List Int)),ys=ws.map enc/\ws.length=i/\(∀u,some u∈ws->H' u.1=some (.tup (u.2.map V.int)))/\∀(k:Nat) u o,out[k]? = some u->ws[k]? = some o->AO (ts.map (·.2)) u.2 o
 refine ⟨l,rfl,⟨_,SqL.of el⟩,bV (xs:=out.map λu =>.ref u.1) W0 ⟨aD.refl _,[],rfl,rfl,λu h=>by (cases h),λk u o _ e=>by simp at e⟩ (by rw[BK];exact small (by lia)) (λi ys H' _ z=>SqL.of (z.1 _ _ el)) ?_ ?_⟩
 ·rintro i x ys H3 hx hy ⟨s3,ws,rfl,lw,tw,tl⟩ R1 R0 r1 r0
  obtain ⟨u,eu,rfl⟩:=item hx
  have uin:=hin u (oin u (BV eu))
  obtain ⟨x,y,exy,_⟩:=W.pr u uin
  have s23:=s2.trans s3
  have eu3:H3 u.1=some (.tup [.int x,.int y]):=by rw[s23 _ _ (W.tup u uin),exy];rfl
  have up:∀(o:Option (Addr×List Int)) (H4:Hp),aD H3 H4->(∀v,o=some v->H4 v.1=some (.tup (v.2.map V.int)))->AO (ts.map (·.2)) u.2 o->R1 (enc o) H4:=λo H4 s4 ho hT=>by
   refine r1 _ _ ⟨s3.trans s4,ws++[o],by rw[B5];rfl,by rw[BR,lw];rfl,λv hv =>?_,λk v p e1 e2 =>?_⟩
   ·rcases B0.mp hv with z | z
    ·exact s4 _ _ (tw v z)
    ·rw[BU] at z;exact ho v z.symm
   ·rcases Gf k i with c | c
    ·rw[CB (by lia)] at e2;exact tl k v p e1 e2
    ·rw[C6 (by lia)] at e2
     have:k-ws.length=0:=by
      rcases Gv (k-ws.length) with z | z
      ·exact z
      ·rw[Du (by simp;lia)] at e2;cases e2
     rw[this] at e2;cases e2
     rw[show k=i by lia,eu] at e1;cases e1
     exact hT
  refine bQ ⟨_,rfl,_,rfl,_,rfl,gf.mpr ⟨r,n,u.1,m,ts,os,x,y,rfl,W.same s23,NA.same (gl.trans s3),m4,eu3,by rw[<- exy];exact Dw (f:=(·.2)) uin,λH4 s4 no=>up none H4 s4 (λv e=>by cases e) λa b e =>?_,λz H4 Z s4 ez al=>up (some (z,Z)) H4 s4 (λv e=>by cases e;exact ez) λa b e =>?_⟩⟩
  ·rw[exy] at e;cases e;exact .inl ⟨rfl,no⟩
  ·rw[exy] at e;cases e;exact .inr ⟨_,rfl,al⟩
 ·rintro ys H3 hy ⟨s3,ws,rfl,lw,tw,tl⟩ l3 hl3
  rw[BK] at lw
  have g4:=af hl3 (.lst (ws.map enc))
  have el4:upd H3 l3 (.lst (ws.map enc)) l3=some (.lst (ws.map enc)):=ah
  generalize upd H3 l3 (.lst (ws.map enc))=H4 at g4 el4
  have s4:=s2.trans (s3.trans g4)
  have tell:∀u∈us,∃o∈ws,AO (ts.map (·.2)) u.2 o:=λu hu=>by
   obtain ⟨v,hv,ev⟩:=Cv.mp (cov u hu)
   obtain ⟨k,ek⟩:=CW.mp (pm.mem_iff.mpr hv)
   have kl:=(B1.mp ek).1
   have ew:ws[k]? = some (ws[k]'(by lia)):=BO (by lia)
   exact ⟨_,BV ew,ev ▸ tl k v _ ek ew⟩
  refine gg.mpr ⟨l3,ws,rfl,el4,λu hu=>g4 _ _ (tw u hu),by lia,λH5 s5 no =>?_,λu H5 s5 hu mn =>?_⟩
  ·refine ⟨_,rfl,rfl,_,rfl,bQ (q0 H5 (s4.trans s5) λu hu a b e =>?_)⟩
   obtain ⟨o,ho,hT⟩:=tell u hu
   rw[no o ho] at hT
   rcases hT a b e with ⟨_,z⟩ | ⟨v,e2,_⟩
   ·exact z
   ·cases e2
  ·refine ⟨_,rfl,rfl,_,rfl,bT ?_⟩
   obtain ⟨k,ek⟩:=CW.mp hu
   have kl:=(B1.mp ek).1
   have ev:out[k]? = some (out[k]'(by lia)):=BO (by lia)
   have vin:=oin _ (BV ev)
   obtain ⟨x,y,exy,_⟩:=W.pr _ (hin _ vin)
   rcases tl k _ _ ev ek x y exy with ⟨e,_⟩ | ⟨v,e,al⟩
   ·cases e
   cases e
   have rg:=al.ring O (by rw[<- exy];exact Dw (f:=(·.2)) (hin _ vin))
   refine ⟨_,rfl,gY.mpr ⟨u.1,u.2,rfl,s5 _ _ (g4 _ _ (tw u hu)),rg.ne,?_,λz H6 M s6 hM mM ez=>q1 z H6 u.2 M (s4.trans (s5.trans s6)) ez hM mM ⟨_,vin,x,y,exy,al⟩ λv hv a b e =>?_⟩⟩
   ·have:=cB rg.nd rg.rng;lia
   ·obtain ⟨o,ho,hT⟩:=tell v hv
    rcases hT a b e with ⟨_,z⟩ | ⟨p,e2,al'⟩
    ·exact .inl z
    ·subst e2;exact .inr ⟨p.2,al',mn p ho⟩
end
abbrev nj:Sp:=λvs H Q _=>∃(r:Addr) (m:Nat) (p:Int) (ts:List (Addr×List Int)),vs=[.ref r,.int p]/\Wb H r m ts/\m<=400/\(∀H',aD H H'->(∀a b,[a,b]∈ts.map (·.2)->p=a\/p=b->qz (ts.map (·.2)) a b)->Q .non H')/\∀(z:Addr) (H':Hp) (Z:List Int) (M:Int),aD H H'->H' z=some (.tup ((frm Z M).map V.int))->M∈Z->(∀b∈Z,M<=b)->(∃a b,[a,b]∈ts.map (·.2)/\(p=a\/p=b)/\Al (ts.map (·.2)) a b Z)->Q (.ref z) H'
@[irreducible] def iG:Sp:=nj
theorem fw {vs:List V}{H:Hp}{Q:VK}{E:XK}:iG vs H Q E↔nj vs H Q E:=by
 delta iG
 exact Eg
section
variable  {P:Ca}{w:CJ}{K:BP}{mg:Str->Option BM}{base:Heap}{f T:Addr}{fd:De}
theorem xu:aK ["web", "place"] ["web", "place"] (aA ow):=⟨rfl,rfl,rfl,by decide +kernel,rfl,by decide +kernel,by decide +kernel⟩
theorem hE:(["tie", "place"]:List Str).Nodup:=by decide +kernel
theorem xv (F:Fun K "ring_at" "ring_at" ow f fd)(B:Blt mg)(cLeastAlong:Cal P w K mg base 4 "least_along" ["web", "ties"] tW):bM P w K mg base CX0 5 f fd ["web", "place"] iG:=by
 refine F.ok xu (λvs H Q E h =>?_) (λcdv A outer s H vs Q E hr h =>?_)
 ·obtain ⟨_,_,_,_,rfl,_⟩:=fw.mp h
  rfl
 obtain ⟨r,m,p,ts,rfl,W,m4,q0,q1⟩:=fw.mp h
 refine ⟨_,(@au _ _ _ (@aH _ _ _ _ (aN cLeastAlong hr (by decide) rfl (@aa _ _ _ _ _ (pv 0) (@aa _ _ _ _ _ (bG ["tie", "place"] [none,some 1] rfl (@eR _ _ _ _ (@aS _ _ _ _ _ _ _ aV (pv 0) ak (λ_ _=>rfl))) rfl (λ_ _ _ _ _=>(aq (i:=0) hE rfl (Or.inl rfl))) (λ_ _ _ _ _=>(gM (aJ (vV (K:=K)) (pv 1) (pv 0) rfl))) (λ_ _ _ _ _=>(pv 0))) ag rfl) rfl)))),?_⟩
 obtain ⟨t,e1,e2⟩:=W.at'
 refine ⟨_,rfl,_,rfl,r,_,1,_,rfl,rfl,SqT.of e1,rfl,t,rfl,⟨_,SqT.of e2⟩,cF (xs:=ts.map λu =>.ref u.1) (λi ys H'=>H'=H/\ys=((ts.take i).filter λu=>decide (p∈u.2)).map λu =>.ref u.1) ⟨rfl,rfl⟩ (by rw[BK];exact small (by have:=W.len;lia)) (λi ys H' _ z=>by rw[z.1];exact SqT.of e2) ?_ ?_⟩
 ·rintro i x ys H3 hx hy ⟨eH,ey⟩ R1 R0 r1 r0
  obtain ⟨u,eu,rfl⟩:=item hx
  have hu:=W.tup u (BV eu)
  rw[<- eH] at hu
  refine ⟨_,rfl,_,rfl,u.1,_,rfl,.inr (SqT.of hu),rfl,cZ u.2,_,rfl,?_⟩
  show if (if false=true then _ else inV (.int p) (u.2.map V.int))=true then _ else _
  rw[if_neg B6,dh]
  by_cases c:p∈u.2
  ·rw[decide_eq_true c]
   exact bQ ⟨_,rfl,r1 _ _ ⟨eH,by rw[cK eu,if_pos (decide_eq_true c),ey]⟩⟩
  ·rw[decide_eq_false c]
   exact bT (r0 _ ⟨eH,by rw[cK eu,if_neg (by rw[decide_eq_false c];exact B6),ey,CK]⟩)
 ·rintro ys H3 hy ⟨eH,ey⟩ l hl
  rw[eH] at hl ⊢
  rw[BK,B9 (BS _)] at ey
  subst ey
  have g1:=af hl (.lst ((ts.filter λu=>decide (p∈u.2)).map λu=>V.ref u.1))
  refine i5.mpr ⟨r,l,m,ts,ts.filter λu=>decide (p∈u.2),rfl,W.same g1,m4,.inl ah,λu hu=>(Dc.mp hu).1,CP (Fy _ _) W.len,λH' s no=>q0 H' (g1.trans s) λa b h hp =>?_,λz H' Z M s ez hM mM hx hn=>q1 z H' Z M (g1.trans s) ez hM mM ?_⟩
  ·obtain ⟨u,hu,e⟩:=Cv.mp h
   exact no u (Dc.mpr ⟨hu,decide_eq_true (by rw[e];rcases hp with z | z <;> simp[z])⟩) a b e
  ·obtain ⟨u,hu,a,b,e,al⟩:=hx
   obtain ⟨hu,hp⟩:=Dc.mp hu
   refine ⟨a,b,by rw[<- e];exact Dw (f:=(·.2)) hu,?_,al⟩
   have:=of_decide_eq_true hp
   rw[e] at this
   simpa using this
end
open PySem L2
structure xw (Z:List Int):Prop where
 ne:Z≠[]
 nd:Z.Nodup
 mn:∀b∈Z,Z.getD 0 0<=b
 lx:HT.lexLt (turn Z) Z=false
theorem gz (a:Int)(t:List Int):turn (a :: t)=a :: t.reverse:=rfl
theorem k8 {Z:List Int}{k:Nat}{c:Int}(e:Z[k]? = some c):rot Z k=c :: (Z.drop (k+1)++Z.take k):=by
 obtain ⟨h,e⟩:=B1.mp e
 unfold rot
 rw[EY h,e];rfl
theorem xx {Z:List Int}{M:Int}(h:M∈Z):Z[Z.idxOf M]? = some M:=by
 rw[BO (Ga.mpr h),Jv]
theorem i6 {Z:List Int}{M:Int}(h:M∈Z):∃t,rot Z (Z.idxOf M)=M :: t/\((frm Z M=M :: t/\HT.lexLt (M :: t.reverse) (M :: t)=false)\/(frm Z M=M :: t.reverse/\HT.lexLt (M :: t.reverse) (M :: t)=true)):=by
 refine ⟨_,k8 (xx h),?_⟩
 unfold frm
 rw[k8 (xx h),gz]
 generalize Z.drop (Z.idxOf M+1)++Z.take (Z.idxOf M)=t
 unfold iZ
 cases c:HT.lexLt (M :: t.reverse) (M :: t) with
 | true=>exact .inr ⟨if_pos rfl,rfl⟩
 | false=>exact .inl ⟨if_neg B6,rfl⟩
theorem k9 (Z:List Int)(k:Nat):(rot Z k).Perm Z:=by
 unfold rot
 exact Ew.trans (by rw[DG])
theorem qG {Z:List Int}{M:Int}(h:M∈Z):(frm Z M).Perm Z:=by
 obtain ⟨t,e,⟨z,_⟩ | ⟨z,_⟩⟩:=i6 h
 ·rw[z, <- e];exact k9 _ _
 ·rw[z];exact ((JR t).cons M).trans (e ▸ k9 Z _)
theorem xA {a b:List Int}(h:HT.lexLt a b=true):HT.lexLt b a=false:=by
 cases c:HT.lexLt b a with
 | false=>rfl
 | true=>have:=Srt.lex_trans _ _ _ h c;rw[Srt.lex_irrefl] at this;cases this
theorem xB {Z:List Int}{M:Int}(nd:Z.Nodup)(h:M∈Z)(mn:∀b∈Z,M<=b):xw (frm Z M):=by
 have pm:=qG h
 obtain ⟨t,e,⟨z,c⟩ | ⟨z,c⟩⟩:=i6 h
 ·refine ⟨by rw[z];simp,pm.nodup_iff.mpr nd,λb hb =>?_,?_⟩
  ·rw[z] at hb ⊢;exact mn b (pm.mem_iff.mp (z ▸ hb))
  ·rw[z,gz];exact c
 ·refine ⟨by rw[z];simp,pm.nodup_iff.mpr nd,λb hb =>?_,?_⟩
  ·rw[z] at hb ⊢;exact mn b (pm.mem_iff.mp (z ▸ hb))
  ·rw[z,gz,FO];exact xA c
theorem Ring.frm {m:Nat}{ns:List (List Int)}{Z:List Int}{M:Int}(h:Ring m ns Z)(hM:M∈Z):Ring m ns (frm Z M):=by
 have hr:Ring m ns (_root_.K15.rot Z (Z.idxOf M)):=by
  show Ring m ns (Z.drop (Z.idxOf M)++Z.take (Z.idxOf M))
  exact Ring.rot (by rw[DG];exact h)
 obtain ⟨t,e,⟨z,_⟩ | ⟨z,_⟩⟩:=i6 hM
 ·rw[z, <- e];exact hr
 ·rw[e] at hr;rw[z];exact hr.turn
def alt (Z:List Int)(k:Nat):List (List Int):=(Dl k).flatMap λj=>[rot Z j,turn (rot Z j)]
theorem qH (Z:List Int)(k:Nat):alt Z (k+1)=alt Z k++[rot Z k,turn (rot Z k)]:=by
 unfold alt
 rw[Kr,List.flatMap_append]
 simp
theorem oR (Z:List Int):∀k,(alt Z k).length=2*k
 | 0=>rfl
 | k+1=>by rw[qH,BR,oR Z k];show _+2=_;lia
theorem lb (Z:List Int):rot Z 0=Z:=by unfold rot;simp
theorem xC {Z p:List Int}(C:xw Z)(hp:p∈alt Z Z.length)(h:∀q∈alt Z Z.length,HT.lexLt q p=false):p=Z:=by
 have pos:=Eo.mpr C.ne
 have hz:Z∈alt Z Z.length:=Ic.mpr ⟨0,Dr.mpr pos,by rw[lb];simp⟩
 obtain ⟨j,hj,hp⟩:=Ic.mp hp
 rw[Dr] at hj
 have ec:Z[j]? = some Z[j]:=BO hj
 have hh:=h Z hz
 have j0:∀t,p=Z[j] :: t->j=0:=λt e=>by
  have e0:Z=Z[0] :: Z.drop 1:=by
   have:=EY pos
   rwa [GH] at this
  have le:Z[0]<=Z[j]:=by
   have:=C.mn Z[j] (Fm hj)
   rwa [B8,BO pos] at this
  have:Z[0]=Z[j]:=by
   rw[e] at hh
   generalize Z[j]=c at hh le
   rw[e0,HT.cX] at hh
   by_cases d:Z[0]=c
   ·exact d
   ·rw[if_neg d] at hh
    have:=of_decide_eq_false hh
    lia
  exact ((J4 C.nd).mp this).symm
 rcases Cg.mp hp with z | z
 ·rw[z,j0 _ (z.trans (k8 ec)),lb]
 ·rw[BU] at z
  have:j=0:=j0 _ (z.trans (by rw[k8 ec,gz]))
  subst this
  rw[lb] at z
  subst z
  exact Srt.gu _ _ C.lx hh
theorem Ring.next {m:Nat}{ns:List (List Int)}{Z:List Int}(h:Ring m ns Z){k:Nat}{y:Int}(e:Z[k]? = some y):∃x,atI (Z.map V.int) ((k:Int)-1)=some (.int x)/\Td ns x y:=by
 have hk:=(B1.mp e).1
 have c:=oM h.ch
 cases k with
 | zero =>
  have t1:Z.take 1=[y]:=by
   cases Z with
   | nil=>cases e
   | cons a t=>cases e;rfl
  have el:Z[Z.length-1]? = some (Z[Z.length-1]'(by omega)):=BO (by omega)
  refine ⟨Z[Z.length-1]'(by omega),?_,c (Z.length-1) _ _ (by rw[CB (by omega)];exact el) (by rw[t1,C6 (by omega),show Z.length-1+1-Z.length=0 by omega];rfl)⟩
  unfold atI ixN
  rw[BK]
  simp
  rw[if_pos (by omega)]
  simp only[Option.bind_some]
  rw[show (-1+(Z.length:Int)).toNat=Z.length-1 by omega,el];rfl
 | succ k =>
  have el:Z[k]? = some (Z[k]'(by omega)):=BO (by omega)
  refine ⟨Z[k]'(by omega),?_,c k _ _ (by rw[CB (by omega)];exact el) (by rw[CB (by omega)];exact e)⟩
  rw[show ((k+1:Nat):Int)-1=(k:Int) by omega]
  exact dz (by rw[B7,el];rfl)
theorem Ring.few {m:Nat}{ns:List (List Int)}{Z:List Int}(h:Ring m ns Z)(h3:Z.length<3):∃x y,atI (Z.map V.int) 0=some (.int x)/\atI (Z.map V.int) (-1)=some (.int y)/\Z.length<=ns.count (nrm x y):=by
 match Z,h,h3 with
 | [],h,_=>exact absurd rfl h.ne
 | [a],h,_ =>
  refine ⟨a,a,rfl,rfl,?_⟩
  have:nrm a a∈ns/\True:=h.ch
  exact GQ.mpr this.1
 | [a,b],h,_=>exact ⟨a,b,rfl,rfl,h.two a b rfl⟩
 | a :: b :: c :: t,_,h3=>simp at h3;lia
theorem Ring.mono {m:Nat}{ns ns':List (List Int)}{Z:List Int}(h:Ring m ns Z)(hc:∀t,ns.count t<=ns'.count t):Ring m ns' Z:=by
 refine ⟨h.ne,h.nd,h.rng,oK λi x y e1 e2 =>?_,λx y e=>CP (h.two x y e) (hc _)⟩
 have:nrm x y∈ns:=oM h.ch i x y e1 e2
 exact GQ.mp (CP (GQ.mpr this) (hc _))
theorem sg (q:List Int->Bool)(ns:List (List Int))(t:List Int):(ns.filter q).count t<=ns.count t:=List.Sublist.count_le t Jh
theorem Ring.tied {m:Nat}{ns:List (List Int)}{Z:List Int}(h:Ring m ns Z){v:Int}(hv:v∈Z):∃u,nrm u v∈ns:=by
 obtain ⟨k,e⟩:=CW.mp hv
 obtain ⟨x,_,t⟩:=h.next e
 exact ⟨x,t⟩
theorem sj {Z:List Int}{p:Int}{q:Int->Bool}(nd:Z.Nodup)(hp:p∈Z)(h:∀v∈Z,q v=true↔v=p):Z.filter q=[p]:=by
 induction Z with
 | nil=>cases hp
 | cons a t ih =>
  obtain ⟨na,nt⟩:=D1.mp nd
  by_cases c:a=p
  ·subst c
   rw[Gu ((h a Ck).mpr rfl),List.filter_eq_nil_iff.mpr]
   intro v hv z
   exact na ((h v (Cf _ hv)).mp z ▸ hv)
  ·rw[HU (λz=>c ((h a Ck).mp z))]
   exact ih nt ((Cg.mp hp).resolve_left (Dq c)) λv hv=>h v (Cf _ hv)
structure Grp (m:Nat)(ns:List (List Int))(G:List Int):Prop where
 len:G.length=m
 iff:∀u v:Int,0<=u/\u<m->0<=v/\v<m->(gt G u=gt G v↔Con ns u v)
theorem xD {m:Nat}{u:Int}(h:0<=u/\u<m):gt (rgI m) u=u:=by
 unfold gt rgI
 rw[B8,B7,Jd (by lia)]
 show ((u.toNat:Nat):Int)=u
 lia
theorem Grp.start (m:Nat):Grp m [] (rgI m):=by
 refine ⟨by unfold rgI;simp,λu v hu hv =>?_⟩
 rw[xD hu,xD hv]
 refine ⟨λe=>e ▸ .refl _,λc =>?_⟩
 induction c with
 | refl=>rfl
 | step _ a _=>exact absurd a (by unfold Adj nbs;simp)
theorem Con.mono {ns ns':List (List Int)}(h:∀t∈ns,t∈ns'){u v:Int}(c:Con ns u v):Con ns' u v:=by
 induction c with
 | refl=>exact .refl _
 | step _ a ih =>
  obtain ⟨p,hp,hx⟩:=cq.mp a
  exact .step ih (cq.mpr ⟨p,h p hp,hx⟩)
def mrg (G:List Int)(a b:Int):List Int:=G.map λx=>if x=gt G b then gt G a else x
theorem oS {m:Nat}{G:List Int}(h:G.length=m){a b u:Int}(hu:0<=u/\u<m):gt (mrg G a b) u=if gt G u=gt G b then gt G a else gt G u:=by
 have e:G[u.toNat]? = some (gt G u):=by
  unfold gt
  rw[BO (by lia),B8,BO (by lia)];rfl
 show (mrg G a b).getD u.toNat 0=_
 unfold mrg
 rw[B8,B7,e];rfl
theorem yZ {m:Nat}{ns:List (List Int)}(O:Ok m ns){a b:Int}(a0:0<=a)(ab:a<=b)(bm:b<m):Ok m (ns++[[a,b]]):=λp hp=>by
 rcases B0.mp hp with z | z
 ·exact O p z
 ·rw[BU] at z;exact ⟨a,b,z,a0,ab,bm⟩
theorem Grp.add {m:Nat}{ns:List (List Int)}(O:Ok m ns){G:List Int}(h:Grp m ns G){a b:Int}(a0:0<=a)(ab:a<=b)(bm:b<m):Grp m (ns++[[a,b]]) (mrg G a b):=by
 have O':=yZ O a0 ab bm
 have up:∀{u v:Int},Con ns u v->Con (ns++[[a,b]]) u v:=λc=>c.mono λt ht=>CH _ ht
 have ha:0<=a/\a<m:=⟨a0,by lia⟩
 have hb:0<=b/\b<m:=⟨by lia,bm⟩
 have tie:Con (ns++[[a,b]]) a b:=by
  by_cases c:a=b
  ·subst c;exact .refl _
  ·exact .one ((cO O').mpr ⟨a,b,Cu _ (by simp),c,.inl ⟨rfl,rfl⟩⟩)
 refine ⟨by unfold mrg;rw[BK];exact h.len,λu v hu hv=>⟨λe =>?_,λc =>?_⟩⟩
 ·rw[oS h.len hu,oS h.len hv] at e
  by_cases c1:gt G u=gt G b
  ·have u1:=up ((h.iff u b hu hb).mp c1)
   rw[if_pos c1] at e
   by_cases c2:gt G v=gt G b
   ·exact u1.trans ((up ((h.iff v b hv hb).mp c2)).symm O')
   ·rw[if_neg c2] at e
    exact (u1.trans (tie.symm O')).trans (up ((h.iff a v ha hv).mp e))
  ·rw[if_neg c1] at e
   by_cases c2:gt G v=gt G b
   ·rw[if_pos c2] at e
    exact ((up ((h.iff u a hu ha).mp e)).trans tie).trans ((up ((h.iff v b hv hb).mp c2)).symm O')
   ·rw[if_neg c2] at e
    exact up ((h.iff u v hu hv).mp e)
 ·clear hv
  induction c with
  | refl=>rfl
  | step c1 aj ih =>
   rename_i x y
   have rx:=oF O' aj
   refine (ih).trans ?_
   obtain ⟨c,d,hp,ne,hx⟩:=(cO O').mp aj
   rw[oS h.len rx.1,oS h.len rx.2]
   rcases B0.mp hp with z | z
   ·have:gt G x=gt G y:=(h.iff x y rx.1 rx.2).mpr (.one ((cO O).mpr ⟨c,d,z,ne,hx⟩))
    rw[this]
   ·rw[BU] at z
    cases z
    rcases hx with ⟨rfl,rfl⟩ | ⟨rfl,rfl⟩
    ·simp
    ·simp
def hasP (p:Int)(t:List Int):Bool:=decide (p=t.getD 0 0) || decide (p=t.getD 1 0)
def oth (p:Int)(t:List Int):Int:=t.getD 0 0+t.getD 1 0-p
def met (G:List Int)(p:Int)(ns:List (List Int)):List Int:=(ns.filter (hasP p)).map λt=>gt G (oth p t)
theorem tX {p:Int}{ns:List (List Int)}{a b:Int}:[a,b]∈ns.filter (off [p])↔[a,b]∈ns/\a≠p/\b≠p:=by
 rw[Dc]
 unfold off
 simp
theorem oT {m:Nat}{ns:List (List Int)}(O:Ok m ns)(ps:List Int):Ok m (ns.filter (off ps)):=λp hp=>O p (Dc.mp hp).1
theorem y3 {m:Nat}{ns:List (List Int)}(O:Ok m ns){p u v:Int}(h:Adj (ns.filter (off [p])) u v):Adj ns u v/\u≠p/\v≠p:=by
 obtain ⟨a,b,hp,ne,hx⟩:=(cO (oT O _)).mp h
 obtain ⟨h1,h2,h3⟩:=tX.mp hp
 refine ⟨(cO O).mpr ⟨a,b,h1,ne,hx⟩,?_⟩
 rcases hx with ⟨rfl,rfl⟩ | ⟨rfl,rfl⟩
 ·exact ⟨h2,h3⟩
 ·exact ⟨h3,h2⟩
theorem qI {m:Nat}{ns:List (List Int)}(O:Ok m ns){p u v:Int}(h:Adj ns u v)(hu:u≠p)(hv:v≠p):Adj (ns.filter (off [p])) u v:=by
 obtain ⟨a,b,hp,ne,hx⟩:=(cO O).mp h
 refine (cO (oT O _)).mpr ⟨a,b,tX.mpr ⟨hp,?_⟩,ne,hx⟩
 rcases hx with ⟨rfl,rfl⟩ | ⟨rfl,rfl⟩
 ·exact ⟨hu,hv⟩
 ·exact ⟨hv,hu⟩
theorem qJ {m:Nat}{ns:List (List Int)}(O:Ok m ns){p s g u v:Int}(hp:s=p\/g=p)(c:Con (ns.filter (off [p])) u v){n:Nat}(w:Wk (stp ns s g) s n u):∃n',Wk (stp ns s g) s n' v:=by
 induction c with
 | refl=>exact ⟨n,w⟩
 | step _ a ih =>
  obtain ⟨n',w'⟩:=ih
  obtain ⟨a1,a2,a3⟩:=y3 O a
  refine ⟨n'+1,.st w' ⟨a1,?_⟩⟩
  rcases hp with z | z
  ·exact .inl (z ▸ a2)
  ·exact .inr (z ▸ a3)
def di (E:List (List Int)):Prop:=∀pre t post,E=pre++t :: post->∀a b:Int,t=[a,b]->¬ Con pre a b
theorem Con.up {E E':List (List Int)}(h:∀t∈E,t∈E'){u v:Int}(c:Con E u v):Con E' u v:=by
 induction c with
 | refl=>exact .refl _
 | step _ a ih =>
  obtain ⟨p,hp,hx⟩:=cq.mp a
  exact .step ih (cq.mpr ⟨p,h p hp,hx⟩)
theorem qK {E:List (List Int)}(w:di E)(q:List Int->Bool):di (E.filter q):=λpre t post e a b et c=>by
 obtain ⟨l1,l2,e1,e2,e3⟩:=List.filter_eq_append_iff.mp e
 obtain ⟨m1,m2,e4,_,_,_⟩:=List.filter_eq_cons_iff.mp e3
 refine w (l1++m1) t m2 (by rw[e1,e4,Cy]) a b et (c.up λs hs =>?_)
 rw[<- e2] at hs
 exact CH _ (Dc.mp hs).1
theorem BG {L:List Int}{m:Nat}(hl:L.length=m){v:Int}(hv:0<=v/\v<m):L[v.toNat]? = some (gt L v):=by
 unfold gt
 rw[BO (by lia),B8,BO (by lia)];rfl
theorem tY {m:Nat}{ns:List (List Int)}(O:Ok m ns)(ps:List Int):Ok m (ns.filter (off ps)):=λp hp=>O p (Dc.mp hp).1
open PySem L2
section
variable  {P:Ca}{w:CJ}{K:BP}{mg:Str->Option BM}{base:Heap}{f T:Addr}{fd:De}
theorem xE:aK ["web", "one", "other"] ["web", "one", "other"] (aA ox):=⟨rfl,rfl,rfl,by decide +kernel,rfl,by decide +kernel,by decide +kernel⟩
theorem xF (F:Fun K "_law_times" "_law_times" ox f fd)(B:Blt mg):bM P w K mg base CX0 1 f fd ["web", "one", "other"] gx:=by
 refine F.ok xE (λvs H Q E h =>?_) (λcdv A outer s H vs Q E hr h =>?_)
 ·obtain ⟨_,_,_,_,_,rfl,_⟩:=ck.mp h
  rfl
 obtain ⟨r,m,a,b,ts,rfl,W,q⟩:=ck.mp h
 refine ⟨_,(@au _ _ _ (@aH _ _ _ _ (rF F8 HI (kE (hu8 hr)) (@aS _ _ _ _ _ _ _ aV (pv 0) ak (λ_ _=>rfl)) (@aa _ _ _ _ _ (@bp _ _ _ _ _ (@aa _ _ _ _ _ (av (iL rfl) rfl B.b_min fk (@aa _ _ _ _ _ (pv 1) (@aa _ _ _ _ _ (pv 2) ag rfl) rfl)) (@aa _ _ _ _ _ (av (gn rfl) rfl B.b_max iX (@aa _ _ _ _ _ (pv 1) (@aa _ _ _ _ _ (pv 2) ag rfl) rfl)) ag rfl) rfl)) ag rfl)))),?_⟩
 obtain ⟨t,e1,e2⟩:=W.at'
 refine ⟨_,rfl,r,_,1,_,rfl,rfl,SqT.of e1,rfl,⟨_,_,rfl,e2⟩,_,rfl,_,rfl,_,_,rfl,_,rfl,_,rfl,_,_,rfl,(by show 2<=B4;decide),λx hx =>?_⟩
 have s1:=af hx (.tup ((nrm a b).map V.int))
 exact ⟨t,x,ts,nrm a b,rfl,rfl,s1 _ _ e2,λu hu=>s1 _ _ (W.tup u hu),ah,q _ s1⟩
end
abbrev xG:Sp:=λvs H Q _=>∃(r p:Addr) (m:Nat) (ts:List (Addr×List Int)) (Z:List Int),vs=[.ref r,.ref p]/\Wb H r m ts/\m<=200/\H p=some (.tup (Z.map V.int))/\Ring m (ts.map (·.2)) Z/\∀H',aD H H'->Q (.bl true) H'
@[irreducible] def tZ:Sp:=xG
theorem i7 {vs:List V}{H:Hp}{Q:VK}{E:XK}:tZ vs H Q E↔xG vs H Q E:=by
 delta tZ
 exact Eg
theorem vn:∀{us ns:List Int},us.Nodup->ns.Nodup->(∀k,k∈us↔k∈ns)->us.length=ns.length:=λh1 h2 h=>Fw (Ex h1 λx hx=>(h x).mp hx) (Ex h2 λx hx=>(h x).mpr hx)
theorem y6 (n:Nat):(CG n true).all id=true:=by simp
section
variable  {P:Ca}{w:CJ}{K:BP}{mg:Str->Option BM}{base:Heap}{f T:Addr}{fd:De}
theorem nk:aK ["web", "ring", "k"] ["web", "ring"] (aA kQ):=⟨rfl,rfl,rfl,by decide +kernel,rfl,by decide +kernel,by decide +kernel⟩
theorem gE:(["place", "web"]:List Str).Nodup:=by decide +kernel
theorem vo (F:Fun K "_law_is_ring" "_law_is_ring" kQ f fd)(B:Blt mg)(cLTimes:Cal P w K mg base 1 "_law_times" ["web", "one", "other"] gx):bM P w K mg base CX0 2 f fd ["web", "ring"] tZ:=by
 refine F.ok nk (λvs H Q E h =>?_) (λcdv A outer s H vs Q E hr h =>?_)
 ·obtain ⟨_,_,_,_,_,rfl,_⟩:=i7.mp h
  rfl
 obtain ⟨r,p,m,ts,Z,rfl,W,m2,ep,R,q⟩:=i7.mp h
 refine ⟨_,(@ai _ _ _ _ _ (@bE _ _ _ _ _ _ _ _ (PW.pt (ia (aJ du (av aZ rfl B.b_len fU (@aa _ _ _ _ _ (pv 1) ag rfl)) ak (aU _)) (ia (aJ o4 (av qd rfl B.b_len fU (@aa _ _ _ _ _ (aG (kz (w:=w) rfl hr.hd) rfl B.b_set rZ (@aa _ _ _ _ _ (pv 1) ag rfl)) ag rfl)) (av aZ rfl B.b_len fU (@aa _ _ _ _ _ (pv 1) ag rfl)) (aU _)) (iK (dr (cN (av (j6 rfl) rfl B.b_all rY (@aa _ _ _ _ _ (bG ["place", "web"] [none,some 0] rfl (@eR _ _ _ _ (pv 1)) rfl (λ_ _ _ _ _=>(aq (i:=0) gE rfl (Or.inl rfl))) (λ_ _ _ _ _=>cu) (λ_ _ _ _ _=>(vM A8 sC ak (pv 0) (@aS _ _ _ _ _ _ _ (gp (K:=K)) (pv 1) ak (λ_ _=>rfl))))) ag rfl)))))))) (@au _ _ _ (@aH _ _ _ _ gF)) aO)
  (@ai _ _ _ _ _ (@bE _ _ _ _ _ _ _ _ (aJ sC (av aZ rfl B.b_len fU (@aa _ _ _ _ _ (pv 1) ag rfl)) ak (aU _)) (@au _ _ _ (@aH _ _ _ _ (gm vL (aN cLTimes hr (by decide) rfl (@aa _ _ _ _ _ (pv 0) (@aa _ _ _ _ _ (@aS _ _ _ _ _ _ _ aV (pv 1) ak (λ_ _=>rfl)) (@aa _ _ _ _ _ (@aS _ _ _ _ _ _ _ aV (pv 1) (A5 zS ak) (λ_ _=>rfl)) ag rfl) rfl) rfl)) (av aZ rfl B.b_len fU (@aa _ _ _ _ _ (pv 1) ag rfl)) (aU _)))) aO)
  (@ai _ _ _ _ _ (@bP _ _ _ _ _ _ _ _ CL rfl (bJ rfl B.b_range (@aa _ _ _ _ _ (av aZ rfl B.b_len fU (@aa _ _ _ _ _ (pv 1) ag rfl)) ag rfl)) (aq (i:=2) nk.nd rfl (Or.inl rfl))
   (@au _ _ _ (@bE _ _ _ _ _ _ _ _ (aJ du (aN cLTimes hr (by decide) rfl (@aa _ _ _ _ _ (pv 0) (@aa _ _ _ _ _ (@aS _ _ _ _ _ _ _ aV (pv 1) (@aQ _ _ _ _ _ _ _ _ cV (pv 2) ak) (λ_ _=>rfl)) (@aa _ _ _ _ _ (@aS _ _ _ _ _ _ _ aV (pv 1) (pv 2) (λ_ _=>rfl)) ag rfl) rfl) rfl)) ak (aU _)) (@au _ _ _ (@aH _ _ _ _ gF)) aO)) (λ_=>rfl))
  (@au _ _ _ (@aH _ _ _ _ gF))))),?_⟩
 obtain ⟨t,e1,e2⟩:=W.at'
 have lz:(Z.map V.int).length=Z.length:=BK _
 have pos:=Eo.mpr R.ne
 have l2:=cB R.nd R.rng
 refine ⟨_,rfl,p,_,rfl,.inr (SqT.of ep),rfl,_,rfl,?_⟩
 rw[lz,decide_eq_false (by intro z;injection z with z;lia)]
 refine bT ⟨_,rfl,p,Z,rfl,.inr (SqT.of ep),by lia,λa us ha mu nu lu =>?_⟩
 have ga:=af ha (cQ w a (us.map V.int))
 have lus:=vn nu R.nd mu
 refine ⟨a,us.map V.int,rfl,ah,by rw[BK];lia,?_⟩
 generalize upd H a (cQ w a (us.map V.int))=H1 at ga
 refine ⟨_,rfl,p,_,rfl,.inr (SqT.of (ga _ _ ep)),rfl,_,rfl,?_⟩
 rw[lz,BK,lus]
 refine vT rfl ?_
 have ep1:=ga _ _ ep
 have W1:=W.same ga
 refine ⟨_,rfl,p,rfl,⟨_,SqT.of ep1⟩,cF (xs:=Z.map V.int) (λi ys H'=>H'=H1/\ys=((Z.take i).map λ_=>true).map V.bl) ⟨rfl,rfl⟩ (by rw[BK];exact small (by lia)) (λi ys H' _ z=>by rw[z.1];exact SqT.of ep1) ?_ ?_⟩
 ·rintro i x ys H3 hx hy ⟨eH,rfl⟩ R1 R0 r1 r0
  obtain ⟨v,ev,rfl⟩:=gc hx
  obtain ⟨v0,v1⟩:=R.rng v (BV ev)
  refine bQ ⟨_,rfl,_,_,rfl,rfl,_,rfl,?_⟩
  rw[decide_eq_true v0]
  refine bQ ⟨_,rfl,r,_,0,_,rfl,rfl,SqT.of (by rw[eH];exact ga _ _ e1),rfl,_,_,rfl,rfl,?_⟩
  dsimp only
  rw[decide_eq_true v1]
  refine r1 _ _ ⟨eH,?_⟩
  rw[take_snoc (f:=λ_:Int=>true) ev,B5];rfl
 rintro ys H3 hy ⟨eH,rfl⟩ l hl
 rw[eH] at hl ⊢
 rw[BK,B9 (BS _)]
 have g4:=af hl (.lst ((Z.map λ_=>true).map V.bl))
 refine ⟨l,_,rfl,SqL.of ah,_,rfl,?_⟩
 rw[show (Z.map λ_=>true).all id=true by simp]
 refine bT ?_
 generalize upd H1 l (.lst ((Z.map λ_=>true).map V.bl))=H4 at g4
 have ep4:=g4 _ _ ep1
 have W4:=W1.same g4
 have s4:=ga.trans g4
 refine ⟨_,rfl,p,_,rfl,.inr (SqT.of ep4),_,_,rfl,rfl,_,rfl,?_⟩
 rw[lz]
 by_cases h3:Z.length<3
 ·rw[decide_eq_true (show (Z.length:Int)<3 by lia)]
  obtain ⟨x,y,ax,ay,hc⟩:=R.few h3
  refine bQ ⟨_,rfl,_,rfl,p,_,0,_,rfl,rfl,SqT.of ep4,ax,_,rfl,1,rfl,p,_,(-1:Int),_,rfl,rfl,SqT.of ep4,ay,ck.mpr ⟨r,m,x,y,ts,rfl,W4,λH5 s5 =>?_⟩⟩
  refine ⟨_,rfl,p,_,rfl,.inr (SqT.of (s5 _ _ ep4)),_,_,rfl,rfl,?_⟩
  have:=q _ (s4.trans s5)
  rw[<- decide_eq_true (show (((ts.map (·.2)).count (nrm x y):Nat):Int)≥(((Z.map V.int).length:Nat):Int) by rw[lz];lia)] at this
  exact this
 ·rw[decide_eq_false (show ¬ (Z.length:Int)<3 by lia)]
  refine bT ⟨_,rfl,p,_,rfl,.inr (SqT.of ep4),_,rfl,by lia,by lia,?_⟩
  rw[lz]
  refine bK (n:=Z.length) (λk σ H'=>(∃c2,σ=[some (.ref r),some (.ref p),c2])/\aD H4 H') ⟨⟨_,rfl⟩,aD.refl _⟩ ?_ ?_
  ·rintro k σ H5 hk ⟨⟨c2,rfl⟩,s5⟩
   have ey:Z[k]? = some (Z[k]'hk):=BO hk
   obtain ⟨x,ax,td⟩:=R.next ey
   have ep5:=s5 _ _ ep4
   have e0:(0:Int)+(k:Int)-1=(k:Int)-1:=by lia
   refine ⟨_,rfl,_,rfl,_,rfl,_,_,rfl,rfl,p,_,_,_,rfl,rfl,SqT.of ep5,by rw[e0];exact ax,_,rfl,_,rfl,p,_,_,_,rfl,rfl,SqT.of ep5,by rw[Ho];exact dz (by rw[B7,ey];rfl),ck.mpr ⟨r,m,_,_,ts,rfl,W4.same s5,λH6 s6 =>?_⟩⟩
   refine ⟨rfl,_,rfl,?_⟩
   rw[decide_eq_false (by intro z;injection z with z;have:=Jx.mpr (show nrm x (Z[k]'hk)∈ts.map (·.2) from td);lia)]
   exact bT ⟨⟨_,rfl⟩,s5.trans s6⟩
  ·rintro σ H5 ⟨⟨c2,rfl⟩,s5⟩
   exact q _ (s4.trans s5)
end
abbrev qL:Sp:=λvs H Q _=>∃(p:Addr) (Z:List Int),vs=[.ref p]/\H p=some (.tup (Z.map V.int))/\xw Z/\Z.length<=200/\∀(z:Addr) (H':Hp),aD H H'->H' z=some (.tup (Z.map V.int))->Q (.ref z) H'
@[irreducible] def jJ:Sp:=qL
theorem gh {vs:List V}{H:Hp}{Q:VK}{E:XK}:jJ vs H Q E↔qL vs H Q E:=by
 delta jJ
 exact Eg
def TT (H:Hp)(us:List (Addr×List Int)):Prop:=∀u∈us,H u.1=some (.tup (u.2.map V.int))
theorem TT.same {H H':Hp}{us:List (Addr×List Int)}(h:TT H us)(s:aD H H'):TT H' us:=λu hu=>s _ _ (h u hu)
theorem TT.snoc {H:Hp}{us:List (Addr×List Int)}(h:TT H us){a:Addr}{Z:List Int}(e:H a=some (.tup (Z.map V.int))):TT H (us++[(a,Z)]):=λu hu=>by
 rcases B0.mp hu with z | z
 ·exact h u z
 ·rw[BU] at z;subst z;exact e
theorem TT.put {H:Hp}{us:List (Addr×List Int)}(h:TT H us){l:Addr}{xs ys:List V}(e:H l=some (.lst xs)):TT (upd H l (.lst ys)) us:=λu hu=>by
 rw[aE (jb (h u hu) e (by intro z;cases z))];exact h u hu
theorem y7 (Z:List Int)(k:Nat):(rot Z k).length=Z.length:=(k9 Z k).length_eq
section
variable  {P:Ca}{w:CJ}{K:BP}{mg:Str->Option BM}{base:Heap}{f T:Addr}{fd:De}
theorem jK:aK ["ring", "some", "k", "turned"] ["ring"] (aA rW):=⟨rfl,rfl,rfl,by decide +kernel,rfl,by decide +kernel,by decide +kernel⟩
theorem y8 (F:Fun K "_law_form" "_law_form" rW f fd)(B:Blt mg):bM P w K mg base CX0 1 f fd ["ring"] jJ:=by
 refine F.ok jK (λvs H Q E h =>?_) (λcdv A outer s H vs Q E hr h =>?_)
 ·obtain ⟨_,_,rfl,_⟩:=gh.mp h
  rfl
 obtain ⟨p,Z,rfl,ep,C,l2,q⟩:=gh.mp h
 refine ⟨_,(@ai _ _ _ _ _ (@aM _ _ 1 _ _ _ _ jK.nd rfl (Or.inl rfl) (@bY _ _ _ _ ag) rfl (by first | exact .inl rfl | exact .inr rfl | assumption))
  (@ai _ _ _ _ _ (@bP _ _ _ _ _ _ _ _ CL rfl (bJ rfl B.b_range (@aa _ _ _ _ _ (av aZ rfl B.b_len fU (@aa _ _ _ _ _ (pv 0) ag rfl)) ag rfl)) (aq (i:=2) jK.nd rfl (Or.inl rfl))
   (@ai _ _ _ _ _ (@aM _ _ 3 _ _ _ _ jK.nd rfl (Or.inl rfl) (@aQ _ _ _ _ _ _ _ _ nN (aG ij rfl B.b_list jD (@aa _ _ _ _ _ (df gw (pv 0) (dy (pv 2)) eW) ag rfl)) (aG ij rfl B.b_list jD (@aa _ _ _ _ _ (df gw (pv 0) eW (dy (pv 2))) ag rfl))) rfl (by first | exact .inl rfl | exact .inr rfl | assumption))
   (@ai _ _ _ _ _ (bN (cS Cr CU CV bL (pv 1) (@aa _ _ _ _ _ (aG aR rfl B.b_tuple cA (@aa _ _ _ _ _ (pv 3) ag rfl)) ag rfl)))
   (@au _ _ _ (bN (cS Cr CU CV bL (pv 1) (@aa _ _ _ _ _ (aG aR rfl B.b_tuple cA (@aa _ _ _ _ _ (@aQ _ _ _ _ _ _ _ _ nN (@bY _ _ _ _ (@aa _ _ _ _ _ (@aS _ _ _ _ _ _ _ cC (pv 3) ak (λ_ _=>rfl)) ag rfl)) (rL hr.hd rfl B.b_list rfl B.b_reversed (df sH (pv 3) (dy ak) eW))) ag rfl)) ag rfl)))))) (λ_=>rfl))
  (@au _ _ _ (@aH _ _ _ _ (av (rP rfl (hu8 hr)) rfl B.b_min fk (@aa _ _ _ _ _ (pv 1) ag rfl)))))),?_⟩
 have lz:(Z.map V.int).length=Z.length:=BK _
 refine ⟨(by show 0<=B4;decide),λl hl =>?_⟩
 have g1:=af hl (.lst [])
 have el:upd H l (.lst []) l=some (.lst (([]:List (Addr×List Int)).map λu =>.ref u.1)):=ah
 have ep1:=g1 _ _ ep
 generalize upd H l (.lst [])=H1 at g1 el ep1
 refine ⟨_,rfl,p,_,rfl,.inr (SqT.of ep1),_,rfl,by lia,by lia,?_⟩
 rw[lz]
 let W0:Nat->St->Hp->Prop:=λk σ H'=>(∃c2 c3,σ=[some (.ref p),some (.ref l),c2,c3])/\aD H H'/\∃us,H' l=some (.lst (us.map λu =>.ref u.1))/\TT H' us/\us.map (·.2)=alt Z k
 refine bK (n:=Z.length) W0 ⟨⟨_,_,rfl⟩,g1,[],el,λu h=>(by cases h),rfl⟩ ?_ ?_
 ·rintro k σ H2 hk ⟨⟨c2,c3,rfl⟩,s2,us,el2,tu,eu⟩
  have ep2:=s2 _ _ ep
  refine ⟨_,rfl,_,rfl,_,rfl,p,_,rfl,ep2,λp1 H3 s3 e3=>⟨p1,_,rfl,.inr (SqT.of e3),λa1 ha1 =>?_⟩⟩
  rw[Ho,k7 _ (by rw[lz];lia), <- FG] at e3
  have g3:=af ha1 (.lst ((Z.drop k).map V.int))
  have ea1:upd H3 a1 (.lst ((Z.drop k).map V.int)) a1=some (.lst ((Z.drop k).map V.int)):=ah
  rw[Ho,k7 _ (by rw[lz];lia), <- FG]
  have s23:=s3.trans g3
  generalize upd H3 a1 (.lst ((Z.drop k).map V.int))=H4 at g3 ea1 s23
  refine ⟨_,rfl,_,rfl,_,rfl,p,_,rfl,s23 _ _ ep2,λp2 H5 s5 e5=>⟨p2,_,rfl,.inr (SqT.of e5),λa2 ha2 =>?_⟩⟩
  rw[r9 _ (by rw[lz];lia), <- G3]
  have g5:=af ha2 (.lst ((Z.take k).map V.int))
  have ea2:upd H5 a2 (.lst ((Z.take k).map V.int)) a2=some (.lst ((Z.take k).map V.int)):=ah
  have s25:=s23.trans (s5.trans g5)
  have ea1':=g5 _ _ (s5 _ _ ea1)
  generalize upd H5 a2 (.lst ((Z.take k).map V.int))=H6 at g5 ea2 s25 ea1'
  have lr:(rot Z k).length=Z.length:=y7 Z k
  refine ⟨a1,a2,_,_,rfl,rfl,SqL.of ea1',SqL.of ea2,by rw[BK,BK,Dt,Di];exact small (by lia),λtu1 htu =>?_⟩
  rw[<- B5,show Z.drop k++Z.take k=rot Z k from rfl]
  have g7:=af htu (.lst ((rot Z k).map V.int))
  have etu:upd H6 tu1 (.lst ((rot Z k).map V.int)) tu1=some (.lst ((rot Z k).map V.int)):=ah
  have s27:=s25.trans g7
  generalize upd H6 tu1 (.lst ((rot Z k).map V.int))=H7 at g7 etu s27
  have el7:=s27 _ _ el2
  have hl7:H l=none:=hl
  refine ⟨_,rfl,.inl ⟨rfl,_,SqL.of el7⟩,_,rfl,tu1,_,rfl,.inl ⟨SqL.of etu,λt1 ht1 =>?_⟩⟩
  have g8:=af ht1 (.tup ((rot Z k).map V.int))
  have et1:upd H7 t1 (.tup ((rot Z k).map V.int)) t1=some (.tup ((rot Z k).map V.int)):=ah
  have s28:=s27.trans g8
  have el8:=g8 _ _ el7
  have etu8:=g8 _ _ etu
  generalize upd H7 t1 (.tup ((rot Z k).map V.int))=H8 at g8 et1 s28 el8 etu8
  have lus:us.length=2*k:=by rw[<- oR Z k, <- eu,BK]
  refine ⟨l,_,_,rfl,rfl,el8,by rw[BK];exact bA (by lia),?_⟩
  have tu8:TT (upd H8 l (.lst (us.map (λu=>V.ref u.1)++[.ref t1]))) (us++[(t1,rot Z k)]):=((tu.same s28).snoc et1).put el8
  have el9:upd H8 l (.lst (us.map (λu=>V.ref u.1)++[.ref t1])) l=some (.lst ((us++[(t1,rot Z k)]).map λu =>.ref u.1)):=by rw[ah,B5];rfl
  have s9:=aD.cE (s2.trans s28) hl7 (.lst (us.map (λu=>V.ref u.1)++[.ref t1]))
  have etu9:upd H8 l (.lst (us.map (λu=>V.ref u.1)++[.ref t1])) tu1=some (.lst ((rot Z k).map V.int)):=by rw[aE (Dq (aB (s25 _ _ el2) htu))];exact etu8
  generalize upd H8 l (.lst (us.map (λu=>V.ref u.1)++[.ref t1]))=H9 at tu8 el9 s9 etu9
  have er:=k8 (BO hk)
  generalize Z.drop (k+1)++Z.take k=rest at er
  rw[er] at etu9 lr
  have lrest:rest.length+1=Z.length:=lr
  refine ⟨_,rfl,.inl ⟨rfl,_,SqL.of el9⟩,_,rfl,tu1,_,0,.int Z[k],rfl,rfl,SqL.of etu9,dz (j:=0) rfl,(by show 1<=B4;decide),λb1 hb1 =>?_⟩
  have g10:=af hb1 (.lst [.int Z[k]])
  have eb1:upd H9 b1 (.lst [.int Z[k]]) b1=some (.lst [.int Z[k]]):=ah
  have etu10:=g10 _ _ etu9
  generalize upd H9 b1 (.lst [.int Z[k]])=H10 at g10 eb1 etu10
  refine ⟨_,rfl,1,rfl,tu1,_,rfl,SqL.of etu10,λb2 hb2 =>?_⟩
  rw[show fE ((Z[k] :: rest).map V.int) (some 1) none=((Z[k] :: rest).map V.int).drop 1 from k7 (k:=1) _ (by simp), <- FG,show (Z[k] :: rest).drop 1=rest from rfl]
  have g11:=af hb2 (.lst (rest.map V.int))
  have eb2:upd H10 b2 (.lst (rest.map V.int)) b2=some (.lst (rest.map V.int)):=ah
  have eb1':=g11 _ _ eb1
  generalize upd H10 b2 (.lst (rest.map V.int))=H11 at g11 eb2 eb1'
  refine ⟨b2,_,rfl,SqL.of eb2,by rw[BK];lia,λb3 hb3 =>?_⟩
  rw[<- Kh]
  have g12:=af hb3 (.lst (rest.reverse.map V.int))
  have eb3:upd H11 b3 (.lst (rest.reverse.map V.int)) b3=some (.lst (rest.reverse.map V.int)):=ah
  have eb1'':=g12 _ _ eb1'
  generalize upd H11 b3 (.lst (rest.reverse.map V.int))=H12 at g12 eb3 eb1''
  refine ⟨b1,b3,_,_,rfl,rfl,SqL.of eb1'',SqL.of eb3,by rw[BK,DJ];exact small (by show 1+_<=_;lia),λb4 hb4 =>?_⟩
  rw[show ([V.int Z[k]]++rest.reverse.map V.int:List V)=(turn (rot Z k)).map V.int by rw[er];rfl]
  have g13:=af hb4 (.lst ((turn (rot Z k)).map V.int))
  have eb4:upd H12 b4 (.lst ((turn (rot Z k)).map V.int)) b4=some (.lst ((turn (rot Z k)).map V.int)):=ah
  generalize upd H12 b4 (.lst ((turn (rot Z k)).map V.int))=H13 at g13 eb4
  refine ⟨b4,_,rfl,.inl ⟨SqL.of eb4,λt2 ht2 =>?_⟩⟩
  have g14:=af ht2 (.tup ((turn (rot Z k)).map V.int))
  have et2:upd H13 t2 (.tup ((turn (rot Z k)).map V.int)) t2=some (.tup ((turn (rot Z k)).map V.int)):=ah
  have s14:=g10.trans (g11.trans (g12.trans (g13.trans g14)))
  generalize upd H13 t2 (.tup ((turn (rot Z k)).map V.int))=H14 at g14 et2 s14
  have el14:=s14 _ _ el9
  refine ⟨l,_,_,rfl,rfl,el14,by rw[BK,BR];exact bA (by show _+1<=_;lia),⟨_,_,rfl⟩,aD.cE (s9.trans s14) hl7 _,us++[(t1,rot Z k)]++[(t2,turn (rot Z k))],by rw[ah,B5,B5,B5];rfl,((tu8.same s14).snoc et2).put el14,?_⟩
  rw[B5,B5,eu,qH,Cy];rfl
 ·rintro σ H2 ⟨⟨c2,c3,rfl⟩,s2,us,el2,tu,eu⟩
  have lus:us.length=2*Z.length:=by rw[<- oR Z Z.length, <- eu,BK]
  refine ⟨_,rfl,l,us,rfl,SqL.of el2,λu hu=>SqT.of (tu u hu),λz =>?_,λu hu mn =>?_⟩
  ·have:=Eo.mpr C.ne
   rw[z] at lus;simp at lus;lia
  ·have:u.2=Z:=xC C (by rw[<- eu];exact Dw (f:=(·.2)) hu) λq hq=>by
    rw[<- eu] at hq
    obtain ⟨v,hv,rfl⟩:=Cv.mp hq
    exact mn v hv
   exact q u.1 H2 s2 (by rw[<- this];exact tu u hu)
end
open PySem L2
theorem qM:di []:=λpre t post e=>by cases pre <;> cases e
theorem nA {E:List (List Int)}(w:di E){a b:Int}(h:¬ Con E a b):di (E++[[a,b]]):=λpre t post e x y et c=>by
 rcases GO post with z | ⟨post',l,z⟩
 ·subst z
  obtain ⟨e1,e2⟩:=Ki e rfl
  cases e2
  cases et
  rw[e1] at h
  exact h c
 ·rw[GP] at z
  subst z
  have e':E++[[a,b]]=(pre++t :: post')++[l]:=by rw[e];simp
  obtain ⟨e1,_⟩:=Ki e' rfl
  exact w pre t post' e1 x y et c
abbrev t4:Sp:=λvs H Q _=>∃(r:Addr) (m:Nat) (ts:List (Addr×List Int)),vs=[.ref r]/\Wb H r m ts/\m<=200/\∀(H':Hp) (b:Bool),aD H H'->(b=true↔di (ts.map (·.2)))->Q (.bl b) H'
@[irreducible] def lq:Sp:=t4
theorem fz {vs:List V}{H:Hp}{Q:VK}{E:XK}:lq vs H Q E↔t4 vs H Q E:=by
 delta lq
 exact Eg
section
variable  {P:Ca}{w:CJ}{K:BP}{mg:Str->Option BM}{base:Heap}{f T:Addr}{fd:De}
theorem eM:aK ["web", "group", "one", "other"] ["web"] (aA kR):=⟨rfl,rfl,rfl,by decide +kernel,rfl,by decide +kernel,by decide +kernel⟩
theorem da:(["mark", "group", "other", "one"]:List Str).Nodup:=by decide +kernel
theorem vp (F:Fun K "_law_is_wood" "_law_is_wood" kR f fd)(B:Blt mg):bM P w K mg base CX0 1 f fd ["web"] lq:=by
 refine F.ok eM (λvs H Q E h =>?_) (λcdv A outer s H vs Q E hr h =>?_)
 ·obtain ⟨_,_,_,rfl,_⟩:=fz.mp h
  rfl
 obtain ⟨r,m,ts,rfl,W,m2,q⟩:=fz.mp h
 refine ⟨_,(@ai _ _ _ _ _ (@aM _ _ 1 _ _ _ _ eM.nd rfl (Or.inr rfl) (aG (rV hr.hd) rfl B.b_list jD (@aa _ _ _ _ _ (aG jm rfl B.b_range ql (@aa _ _ _ _ _ (@aS _ _ _ _ _ _ _ aV (pv 0) ak (λ_ _=>rfl)) ag rfl)) ag rfl)) rfl (by first | exact .inl rfl | exact .inr rfl | assumption))
  (@ai _ _ _ _ _ (@bP _ _ _ _ _ _ _ _ CL rfl (@eR _ _ _ _ (@aS _ _ _ _ _ _ _ aV (pv 0) ak (λ_ _=>rfl))) (bo rfl (az (aq (i:=2) eM.nd rfl (Or.inr rfl)) (az (aq (i:=3) eM.nd rfl (Or.inr rfl)) aT)))
   (@ai _ _ _ _ _ (@bE _ _ _ _ _ _ _ _ (aJ du (@aS _ _ _ _ _ _ _ cC (pv 1) (pv 2) (λ_ _=>rfl)) (@aS _ _ _ _ _ _ _ cC (pv 1) (pv 3) (λ_ _=>rfl)) (aU _)) (@au _ _ _ (@aH _ _ _ _ gF)) aO)
   (@au _ _ _ (@aM _ _ 1 _ _ _ _ eM.nd rfl (Or.inr rfl) (bG ["mark", "group", "other", "one"] [none,some 1,some 3,some 2] rfl (@bO _ _ _ _ (pv 1)) rfl (λ_ _ _ _ _=>(aq (i:=0) da rfl (Or.inl rfl))) (λ_ _ _ _ _=>cu) (λ_ _ _ _ _=>(vE (aJ du (pv 0) (@aS _ _ _ _ _ _ _ (pq (K:=K)) (pv 1) (pv 2) (λ_ _=>rfl)) (aU _)) (@aS _ _ _ _ _ _ _ (pq (K:=K)) (pv 1) (pv 3) (λ_ _=>rfl)) (pv 0)))) rfl (by first | exact .inl rfl | exact .inr rfl | assumption)))) (λ_=>rfl))
  (@au _ _ _ (@aH _ _ _ _ gF)))),?_⟩
 obtain ⟨t,e1,e2⟩:=W.at'
 have O:=qA W
 refine ⟨_,rfl,r,_,0,_,rfl,rfl,SqT.of e1,rfl,m,rfl,λra hra=>⟨ra,m,rfl,ah,by lia,λgl hgl =>?_⟩⟩
 have g1:=(af hra (.rng 0 m)).trans (af hgl (.lst ((Dl m).map λi:Nat=>V.int (i:Int))))
 have egl:upd (upd H ra (.rng 0 m)) gl (.lst ((Dl m).map λi:Nat=>V.int (i:Int))) gl=some (.lst ((rgI m).map V.int)):=by rw[ah];unfold rgI;rw[GK];rfl
 generalize upd (upd H ra (.rng 0 m)) gl (.lst ((Dl m).map λi:Nat=>V.int (i:Int)))=H1 at g1 egl
 let W0:Nat->St->Hp->Prop:=λi σ H'=>∃(gl:Addr) (G:List Int) (c2 c3:Option V),σ=[some (.ref r),some (.ref gl),c2,c3]/\aD H H'/\H' gl=some (.lst (G.map V.int))/\Grp m ((ts.take i).map (·.2)) G/\di ((ts.take i).map (·.2))
 refine ⟨_,rfl,r,_,1,_,rfl,rfl,SqT.of (g1 _ _ e1),rfl,t,rfl,⟨_,SqT.of (g1 _ _ e2)⟩,sq (xs:=ts.map λu =>.ref u.1) W0 ⟨gl,_,_,_,rfl,g1,egl,Grp.start m,qM⟩ (λi σ H' _ z =>?_) ?_ ?_⟩
 ·obtain ⟨_,_,_,_,_,s',_⟩:=z
  exact SqT.of (s' _ _ e2)
 ·rintro i x σ H2 hx ⟨gl,G,c2,c3,rfl,s2,eg,hG,wd⟩
  obtain ⟨u,eu,rfl⟩:=item hx
  have mu:=BV eu
  obtain ⟨a,b,ab2,a0,ab,bm⟩:=W.pr u mu
  have hu:=W.tup u mu
  rw[ab2] at hu
  have hu':=s2 _ _ hu
  have lG:G.length=m:=hG.len
  have tk:(ts.take (i+1)).map (·.2)=(ts.take i).map (·.2)++[[a,b]]:=by rw[take_snoc (f:=(·.2)) eu,ab2]
  have at':∀v:Int,0<=v/\v<m->atI (G.map V.int) v=some (.int (gt G v)):=λv hv=>by
   obtain ⟨k,rfl⟩:∃k:Nat,v=k:=⟨v.toNat,by lia⟩
   have:=BG lG hv
   rw[EI] at this
   exact dz (by rw[B7,this];rfl)
  have ra:0<=a/\a<m:=⟨a0,by lia⟩
  have rb:0<=b/\b<m:=⟨by lia,bm⟩
  refine ⟨u.1,_,rfl,SqT.of hu',rfl,_,_,rfl,_,_,rfl,rfl,_,rfl,_,rfl,gl,_,a,_,rfl,rfl,SqL.of eg,at' a ra,_,rfl,_,rfl,gl,_,b,_,rfl,rfl,SqL.of eg,at' b rb,rfl,_,rfl,?_⟩
  by_cases c:gt G a=gt G b
  ·rw[decide_eq_true (by rw[c])]
   refine bQ (q H2 false s2 ⟨λh=>by (cases h),λw =>?_⟩)
   refine (w ((ts.take i).map (·.2)) [a,b] ((ts.drop (i+1)).map (·.2)) ?_ a b rfl ((hG.iff a b ra rb).mp c)).elim
   have ei:i<ts.length:=(B1.mp eu).1
   have gi:ts[i]=u:=(B1.mp eu).2
   have:=congrArg (List.map (λu:Addr×List Int=>u.2)) (DG i ts)
   rw[EY ei,gi,B5,CC,ab2] at this
   exact this.symm
  ·rw[decide_eq_false (by intro z;injection z with z;exact c z)]
   refine bT ⟨_,rfl,gl,rfl,⟨_,SqL.of eg⟩,bV (xs:=G.map V.int) (λj ys H'=>H'=H2/\ys=(((G.take j).map λx=>if x=gt G b then gt G a else x)).map V.int) ⟨rfl,rfl⟩ (by rw[BK];exact small (by lia)) (λj ys H' _ z=>by rw[z.1];exact SqL.of eg) ?_ ?_⟩
   ·rintro j x ys H' hx hy ⟨eH,rfl⟩ R1 R0 r1 r0
    obtain ⟨v,ev,rfl⟩:=gc hx
    have eg4:SqL K H' gl (G.map V.int):=by rw[eH];exact SqL.of eg
    refine bQ ⟨_,rfl,_,rfl,_,rfl,gl,_,b,_,rfl,rfl,eg4,at' b rb,rfl,_,rfl,?_⟩
    by_cases d:v=gt G b
    ·rw[decide_eq_true (by rw[d])]
     refine bQ ⟨_,rfl,_,rfl,gl,_,a,_,rfl,rfl,eg4,at' a ra,r1 _ _ ⟨eH,?_⟩⟩
     rw[take_snoc (f:=λx=>if x=gt G b then gt G a else x) ev,B5,if_pos d];rfl
    ·rw[decide_eq_false (by intro z;injection z with z;exact d z)]
     refine bT ⟨_,rfl,r1 _ _ ⟨eH,?_⟩⟩
     rw[take_snoc (f:=λx=>if x=gt G b then gt G a else x) ev,B5,if_neg d];rfl
   ·rintro ys H' hy ⟨eH,rfl⟩ l hl
    rw[eH] at hl ⊢
    rw[BK,B9 (BS _)]
    have g5:=af hl (.lst ((mrg G a b).map V.int))
    refine ⟨l,mrg G a b,_,_,rfl,s2.trans g5,ah,?_,?_⟩
    ·rw[tk]
     refine hG.add (λt ht=>O t ?_) a0 ab bm
     obtain ⟨v,hv,rfl⟩:=Cv.mp ht
     exact Dw (f:=(·.2)) (Ef hv)
    ·rw[tk]
     exact nA wd λz=>c ((hG.iff a b ra rb).mpr z)
 ·rintro σ H2 ⟨gl,G,c2,c3,rfl,s2,eg,hG,wd⟩
  rw[BK,B9 (BS _)] at wd
  exact q H2 true s2 ⟨λ_=>wd,λ_=>rfl⟩
end
abbrev nB:Sp:=λvs H Q _=>∃(p:Addr) (Z:List Int),vs=[.ref p]/\(H p=some (.lst (Z.map V.int))\/H p=some (.tup (Z.map V.int)))/\Z.length<=500/\∀H',aD H H'->Q (.bl true) H'
@[irreducible] def iH:Sp:=nB
theorem dE {vs:List V}{H:Hp}{Q:VK}{E:XK}:iH vs H Q E↔nB vs H Q E:=by
 delta iH
 exact Eg
section
variable  {P:Ca}{w:CJ}{K:BP}{mg:Str->Option BM}{base:Heap}{f T:Addr}{fd:De}
theorem vq:aK ["found"] ["found"] (aA kS):=⟨rfl,rfl,rfl,by decide +kernel,rfl,by decide +kernel,by decide +kernel⟩
theorem lW:(["one"]:List Str).Nodup:=by decide +kernel
theorem vt (F:Fun K "_law_wholes" "_law_wholes" kS f fd)(B:Blt mg):bM P w K mg base CX0 1 f fd ["found"] iH:=by
 refine F.ok vq (λvs H Q E h =>?_) (λcdv A outer s H vs Q E hr h =>?_)
 ·obtain ⟨_,_,rfl,_⟩:=dE.mp h
  rfl
 obtain ⟨p,Z,rfl,ep,l2,q⟩:=dE.mp h
 refine ⟨_,(@au _ _ _ (@aH _ _ _ _ (av (j6 rfl) rfl B.b_all rY (@aa _ _ _ _ _ (bG ["one"] [none] rfl (Am (pv 0)) rfl (λ_ _ _ _ _=>(aq (i:=0) lW rfl (Or.inl rfl))) (λ_ _ _ _ _=>cu) (λ_ _ _ _ _=>(qR (av (fj (K:=K)) rfl B.b_isinstance bI (@aa _ _ _ _ _ (pv 0) (@aa _ _ _ _ _ (gj (v :=.ty "int") rfl B.b_int oy rfl) ag rfl) rfl)) (qQ (zN (av (fj (K:=K)) rfl B.b_isinstance bI (@aa _ _ _ _ _ (pv 0) (@aa _ _ _ _ _ (gj (v :=.ty "bool") rfl B.b_bool yP rfl) ag rfl) rfl))))))) ag rfl)))),?_⟩
 refine ⟨_,rfl,p,rfl,uI (xs:=Z.map V.int) (λi ys H'=>H'=H/\ys=((Z.take i).map λ_=>true).map V.bl) ep ⟨rfl,rfl⟩ (by rw[BK];exact small (by lia)) (λi ys H' z=>by rw[z.1]) ?_ ?_⟩
 ·rintro i x ys H3 hx hy ⟨eH,rfl⟩ R1 R0 r1 r0
  obtain ⟨v,ev,rfl⟩:=gc hx
  refine bQ ⟨_,rfl,.int v, "int",_,true,rfl,.int v,rfl,_,rfl,bQ ⟨_,rfl,.int v, "bool",_,false,rfl,.int v,rfl,_,rfl,r1 _ _ ⟨eH,?_⟩⟩⟩
  rw[take_snoc (f:=λ_:Int=>true) ev,B5];rfl
 rintro ys H3 hy ⟨eH,rfl⟩ l hl
 rw[eH] at hl ⊢
 rw[BK,B9 (BS _)]
 have g4:=af hl (.lst ((Z.map λ_=>true).map V.bl))
 refine ⟨l,_,rfl,SqL.of ah,?_⟩
 rw[show (Z.map λ_=>true).all id=true by simp]
 exact q _ g4
end
open PySem L2
theorem y9 {m:Nat}{E:List (List Int)}{a b:Int}(O:Ok m (E++[[a,b]]))[Decidable (Con E a b)]:(E++[[a,b]]).length+(ba (E++[[a,b]]) m m).length=E.length+(ba E m m).length+if Con E a b then 1 else 0:=by
 have er:(E++[[a,b]]).reverse=[a,b] :: E.reverse:=by rw[Ff];rfl
 have O':Ok m ([a,b] :: E.reverse):=λt ht=>O t (by rw[<- er] at ht;exact GY.mp ht)
 have c:=yW O'
 rw[<- er,xp,DJ,DJ,xp] at c
 rw[c]
 have cc:Con E.reverse a b↔Con E a b:=⟨λz=>z.up λt ht=>GY.mp ht,λz=>z.up λt ht=>GY.mpr ht⟩
 by_cases h:Con E a b
 ·rw[if_pos h,if_pos (cc.mpr h)]
 ·rw[if_neg h,if_neg λz=>h (cc.mp z)]
open Classical in
theorem t5 {m:Nat}:∀(n:Nat) (E:List (List Int)),E.length=n->Ok m E->m<=E.length+(ba E m m).length/\(di E↔E.length+(ba E m m).length=m)
 | 0,E,hn,_=>by
  have:=Fg.mp hn
  subst this
  have:=AL m
  exact ⟨by rw[this];show m<=0+m;lia,λ_=>by rw[this];show 0+m=m;lia,λ_=>qM⟩
 | n+1,E,hn,O=>by
  rcases GO E with h | ⟨E',t,h⟩
  ·rw[h] at hn;cases hn
  rw[GP] at h
  subst h
  obtain ⟨a,b,rfl,a0,ab,bm⟩:=O t (by simp)
  have O':Ok m E':=λt ht=>O t (CH _ ht)
  obtain ⟨ge,iff⟩:=t5 n E' (by rw[BR] at hn;exact Nat.succ.inj hn) O'
  have s:=y9 O
  have down:di (E'++[[a,b]])->di E'/\¬ Con E' a b:=λw=>⟨λpre t post e a' b' et=>w pre t (post++[[a,b]]) (by rw[e];simp) a' b' et,w E' [a,b] [] rfl a b rfl⟩
  by_cases c:Con E' a b
  ·rw[if_pos c] at s
   exact ⟨by lia,λw=>absurd c (down w).2,λz=>by lia⟩
  ·rw[if_neg c] at s
   refine ⟨by lia,λw =>?_,λz=>nA (iff.mpr (by lia)) c⟩
   have:=iff.mp (down w).1
   lia
abbrev xH:Sp:=λvs H Q _=>∃(r p:Addr) (m:Nat) (ts:List (Addr×List Int)) (R:List Int),vs=[.ref r,.ref p]/\Wb H r m ts/\m<=200/\H p=some (.tup (R.map V.int))/\∀(H':Hp) (b:Bool),aD H H'->(b=true↔di ((ts.map (·.2)).filter (off R)))->Q (.bl b) H'
@[irreducible] def t6:Sp:=xH
theorem gB {vs:List V}{H:Hp}{Q:VK}{E:XK}:t6 vs H Q E↔xH vs H Q E:=by
 delta t6
 exact Eg
section
variable  {P:Ca}{w:CJ}{K:BP}{mg:Str->Option BM}{base:Heap}{f T:Addr}{fd:De}
theorem qN:aK ["web", "places"] ["web", "places"] (aA gO):=⟨rfl,rfl,rfl,by decide +kernel,rfl,by decide +kernel,by decide +kernel⟩
theorem qO (F:Fun K "clears_web" "clears_web" gO f fd)(B:Blt mg)(cSpareTies:Cal P w K mg base 3 "spare_ties" ["web"] jG)(cCutWeb:Cal P w K mg base 1 "cut_web" ["web", "places"] ju):bM P w K mg base CX0 4 f fd ["web", "places"] t6:=by
 refine F.ok qN (λvs H Q E h =>?_) (λcdv A outer s H vs Q E hr h =>?_)
 ·obtain ⟨_,_,_,_,_,rfl,_⟩:=gB.mp h
  rfl
 obtain ⟨r,p,m,ts,R,rfl,W,m4,hp,q⟩:=gB.mp h
 refine ⟨_,(@au _ _ _ (@aH _ _ _ _ (gm du (aN cSpareTies hr (by decide) rfl (@aa _ _ _ _ _ (aN cCutWeb hr (by decide) rfl (@aa _ _ _ _ _ (pv 0) (@aa _ _ _ _ _ (pv 1) ag rfl) rfl)) ag rfl)) ak (aU _)))),?_⟩
 refine ⟨_,rfl,_,rfl,cJ.mpr ⟨r,p,m,ts,R,rfl,W,.inr hp,λz us H1 s1 W1 e1 =>?_⟩⟩
 refine fZ.mpr ⟨z,m,us,rfl,W1,by lia,λH2 s2=>⟨rfl,?_⟩⟩
 have l1:us.length=((ts.map (·.2)).filter (off R)).length:=by rw[<- e1,BK]
 rw[e1,l1]
 have ws:=(t5 _ ((ts.map (·.2)).filter (off R)) rfl (tY (qA W) R)).2
 refine q _ _ (s1.trans s2) ?_
 rw[ws,decide_eq_true_iff]
 refine ⟨λh =>?_,λh =>?_⟩
 ·injection h with h;lia
 ·congr 1;lia
end
open PySem L2
section
variable  {P:Ca}{w:CJ}{K:BP}{mg:Str->Option BM}{base:Heap}{f T:Addr}{fd:De}
theorem AQ:aK ["web", "places"] ["web", "places"] (aA wZ):=⟨rfl,rfl,rfl,by decide +kernel,rfl,by decide +kernel,by decide +kernel⟩
theorem AR (F:Fun K "_law_cut" "_law_cut" wZ f fd)(B:Blt mg):bM P w K mg base CX0 1 f fd ["web", "places"] ju:=by
 refine F.ok AQ (λvs H Q E h =>?_) (λcdv A outer s H vs Q E hr h =>?_)
 ·obtain ⟨a,b,c,d,e,rfl,_⟩:=cJ.mp h
  rfl
 obtain ⟨r,p,m,ts,ps,rfl,W,hp,q⟩:=cJ.mp h
 obtain ⟨t,e1,e2⟩:=W.at'
 refine ⟨_,au (aH (bp (aa (aS aV (pv 0) ak (λ_ _=>rfl)) (aa (aG aR rfl B.b_tuple Ep (aa (bG ["tie", "places"] [none,some 1] rfl (eR (aS aV (pv 0) ak (λ_ _=>rfl))) rfl (λ_ _ _ _ _=>aq (i:=0) zA rfl (Or.inl rfl))
  (λ_ _ _ _ _=>gM (PW.pt (nH (aJ (eC (K:=K)) (aS (gp (K:=K)) (pv 0) ak (λ_ _=>rfl)) (pv 1) rfl) (jA (aJ (eC (K:=K)) (aS (gp (K:=K)) (pv 0) ak (λ_ _=>rfl)) (pv 1) rfl)))))
  (λ_ _ _ _ _=>pv 0)) ag)) ag)))),?_⟩
 refine ⟨_,rfl,r,_,0,_,rfl,rfl,SqT.of e1,rfl,_,rfl,r,_,1,_,rfl,rfl,SqT.of e1,rfl,t,rfl,⟨_,SqT.of e2⟩,cF (xs:=ts.map λu =>.ref u.1) (λi ys H'=>H'=H/\ys=((ts.take i).filter λu=>off ps u.2).map λu =>.ref u.1) ⟨rfl,rfl⟩ (by rw[BK];exact small (by have:=W.len;lia)) (λi ys H' _ z=>by rw[z.1];exact SqT.of e2) ?_ ?_⟩
 ·rintro i x ys H3 hx hy ⟨rfl,ey⟩ R1 R0 r1 r0
  obtain ⟨u,eu,rfl⟩:=item hx
  have hu:=W.tup u (BV eu)
  obtain ⟨a,b,e3,_⟩:=W.pr u (BV eu)
  rw[e3] at hu
  have bb:off ps u.2=(!decide (a∈ps) && !decide (b∈ps)):=by rw[e3];rfl
  have g1:off ps u.2=true->R1 (.ref u.1) H3:=λec=>r1 _ _ ⟨rfl,by rw[cK eu,if_pos ec,ey]⟩
  have g0:off ps u.2=false->R0 H3:=λec=>r0 _ ⟨rfl,by rw[cK eu,if_neg (by rw[ec];exact B6),ey,CK]⟩
  refine ⟨_,rfl,u.1,_,0,_,rfl,rfl,SqT.of hu,rfl,_,rfl,p,_,rfl,(hp.elim (λz =>.inl (SqL.of z)) (λz =>.inr (SqT.of z))),rfl,cZ ps,_,rfl,?_⟩
  show if (if true=true then !inV (.int a) (ps.map V.int) else _)=true then _ else _
  rw[if_pos rfl,dh]
  by_cases ha:a∈ps
  ·rw[decide_eq_true ha] at bb ⊢
   exact bT (bT (g0 bb))
  ·rw[decide_eq_false ha] at bb ⊢
   refine bQ ⟨_,rfl,u.1,_,1,_,rfl,rfl,SqT.of hu,rfl,_,rfl,p,_,rfl,(hp.elim (λz =>.inl (SqL.of z)) (λz =>.inr (SqT.of z))),rfl,cZ ps,_,rfl,?_⟩
   show if (if true=true then !inV (.int b) (ps.map V.int) else _)=true then _ else _
   rw[if_pos rfl,dh]
   by_cases hb:b∈ps
   ·rw[decide_eq_true hb] at bb ⊢
    exact bT (g0 bb)
   ·rw[decide_eq_false hb] at bb ⊢
    exact bQ ⟨_,rfl,g1 bb⟩
 ·rintro ys H3 hy ⟨rfl,ey⟩ l hl
  rw[BK,B9 (BS _)] at ey
  refine ⟨l,_,rfl,.inl ⟨SqL.of ah,λl2 hl2=>⟨(by show 2<=B4;decide),λz hz =>?_⟩⟩⟩
  subst ey
  have g1:=af hl (.lst ((ts.filter λu=>off ps u.2).map λu=>V.ref u.1))
  have g2:=af hl2 (.tup ((ts.filter λu=>off ps u.2).map λu=>V.ref u.1))
  have g3:=af hz (.tup [.int m,.ref l2])
  have g:=(g1.trans g2).trans g3
  refine q z (ts.filter λu=>off ps u.2) _ g ⟨⟨l2,ah,g3 _ _ ah⟩,λu hu=>g _ _ (W.tup u (Dc.mp hu).1),λu hu=>W.pr u (Dc.mp hu).1,?_⟩ ?_
  ·exact CP (Fy _ _) W.len
  ·rw[Kt];rfl
end
def less (p:Int)(ps:List Int):List Int:=ps.filter λo=>decide (o≠p)
theorem nC {p:Int}{ps:List Int}{i:Nat}{x:Int}(e:ps[i]? = some x):(less p (ps.take (i+1))).map V.int=(less p (ps.take i)).map V.int++if x≠p then [.int x] else []:=by
 unfold less
 rw[Dp,e,Gs,B5]
 congr 1
 by_cases c:x=p
 ·rw[if_neg (by simpa using c)];simp[c]
 ·rw[if_pos c];simp[c]
abbrev t8:Sp:=λvs H Q _=>∃(q:Addr) (p:Int) (ps:List Int),vs=[.ref q,.int p]/\H q=some (.tup (ps.map V.int))/\ps.length<=500/\∀(z:Addr) (H':Hp),aD H H'->H' z=some (.tup ((less p ps).map V.int))->Q (.ref z) H'
@[irreducible] def lA:Sp:=t8
theorem fA {vs:List V}{H:Hp}{Q:VK}{E:XK}:lA vs H Q E↔t8 vs H Q E:=by
 delta lA
 exact Eg
section
variable  {P:Ca}{w:CJ}{K:BP}{mg:Str->Option BM}{base:Heap}{f T:Addr}{fd:De}
theorem lB:aK ["places", "place"] ["places", "place"] (aA d9):=⟨rfl,rfl,rfl,by decide +kernel,rfl,by decide +kernel,by decide +kernel⟩
theorem dR:(["other", "place"]:List Str).Nodup:=by decide +kernel
theorem lC (F:Fun K "without_place" "without_place" d9 f fd)(B:Blt mg):bM P w K mg base CX0 1 f fd ["places", "place"] lA:=by
 refine F.ok lB (λvs H Q E h =>?_) (λcdv A outer s H vs Q E hr h =>?_)
 ·obtain ⟨_,_,_,rfl,_⟩:=fA.mp h
  rfl
 obtain ⟨q,p,ps,rfl,eq,l5,k⟩:=fA.mp h
 refine ⟨_,(@au _ _ _ (@aH _ _ _ _ (aG aR rfl B.b_tuple cA (@aa _ _ _ _ _ (bG ["other", "place"] [none,some 1] rfl (@eR _ _ _ _ (pv 0)) rfl (λ_ _ _ _ _=>(aq (i:=0) dR rfl (Or.inl rfl))) (λ_ _ _ _ _=>(gM (aJ o4 (pv 0) (pv 1) (aU _)))) (λ_ _ _ _ _=>(pv 0))) ag rfl)))),?_⟩
 refine ⟨_,rfl,q,rfl,⟨_,SqT.of eq⟩,cF (xs:=ps.map V.int) (λi ys H'=>H'=H/\ys=(less p (ps.take i)).map V.int) ⟨rfl,rfl⟩ (by rw[BK];exact small (by lia)) (λi ys H' _ z=>by rw[z.1];exact SqT.of eq) ?_ ?_⟩
 ·rintro i x ys H3 hx hy ⟨eH,rfl⟩ R1 R0 r1 r0
  obtain ⟨v,ev,rfl⟩:=gc hx
  refine ⟨_,rfl,_,rfl,rfl,_,rfl,?_⟩
  by_cases c:v=p
  ·exact vT (by rw[c]) (r0 _ ⟨eH,by rw[nC ev,if_neg (by simpa using c),CK]⟩)
  ·rw[decide_eq_false (by intro z;injection z with z;exact c z)]
   exact bQ ⟨_,rfl,r1 _ _ ⟨eH,by rw[nC ev,if_pos c]⟩⟩
 rintro ys H3 hy ⟨eH,rfl⟩ l hl
 rw[eH] at hl ⊢
 rw[BK,B9 (BS _)]
 have g4:=af hl (.lst ((less p ps).map V.int))
 exact ⟨l,_,rfl,.inl ⟨SqL.of ah,λz hz=>k z _ (g4.trans (af hz _)) ah⟩⟩
end
theorem eO {p x:Int}{ps:List Int}:x∈less p ps↔x∈ps/\x≠p:=by unfold less;rw[Dc];simp
abbrev xI:Sp:=λvs H Q _=>∃(r q:Addr) (m:Nat) (p:Int) (ts:List (Addr×List Int)) (ps:List Int),vs=[.ref r,.ref q,.int p]/\Wb H r m ts/\m<=400/\H q=some (.tup (ps.map V.int))/\ps.length<=500/\(∀H',aD H H'->(∀a b,[a,b]∈(ts.map (·.2)).filter (off (less p ps))->p=a\/p=b->qz ((ts.map (·.2)).filter (off (less p ps))) a b)->Q .non H')/\∀(z:Addr) (H':Hp) (Z:List Int) (M:Int),aD H H'->H' z=some (.tup ((frm Z M).map V.int))->M∈Z->(∀b∈Z,M<=b)->(∃a b,[a,b]∈(ts.map (·.2)).filter (off (less p ps))/\(p=a\/p=b)/\Al ((ts.map (·.2)).filter (off (less p ps))) a b Z)->Q (.ref z) H'
@[irreducible] def t9:Sp:=xI
theorem i8 {vs:List V}{H:Hp}{Q:VK}{E:XK}:t9 vs H Q E↔xI vs H Q E:=by
 delta t9
 exact Eg
section
variable  {P:Ca}{w:CJ}{K:BP}{mg:Str->Option BM}{base:Heap}{f T:Addr}{fd:De}
theorem vv:aK ["web", "places", "place"] ["web", "places", "place"] (aA kO):=⟨rfl,rfl,rfl,by decide +kernel,rfl,by decide +kernel,by decide +kernel⟩
theorem vw (F:Fun K "own_ring" "own_ring" kO f fd)(B:Blt mg)(cRingAt:Cal P w K mg base 5 "ring_at" ["web", "place"] iG)(cCutWeb:Cal P w K mg base 1 "cut_web" ["web", "places"] ju)(cWithoutPlace:Cal P w K mg base 1 "without_place" ["places", "place"] lA):bM P w K mg base CX0 6 f fd ["web", "places", "place"] t9:=by
 refine F.ok vv (λvs H Q E h =>?_) (λcdv A outer s H vs Q E hr h =>?_)
 ·obtain ⟨_,_,_,_,_,_,rfl,_⟩:=i8.mp h
  rfl
 obtain ⟨r,q,m,p,ts,ps,rfl,W,m4,eq,l5,q0,q1⟩:=i8.mp h
 refine ⟨_,(@au _ _ _ (@aH _ _ _ _ (aN cRingAt hr (by decide) rfl (@aa _ _ _ _ _ (aN cCutWeb hr (by decide) rfl (@aa _ _ _ _ _ (pv 0) (@aa _ _ _ _ _ (aN cWithoutPlace hr (by decide) rfl (@aa _ _ _ _ _ (pv 1) (@aa _ _ _ _ _ (pv 2) ag rfl) rfl)) ag rfl) rfl)) (@aa _ _ _ _ _ (pv 2) ag rfl) rfl)))),?_⟩
 refine ⟨_,rfl,_,rfl,_,rfl,fA.mpr ⟨q,p,ps,rfl,eq,l5,λz H1 s1 ez=>cJ.mpr ⟨r,z,m,ts,less p ps,rfl,W.same s1,.inr ez,λc us H2 s2 Wc eu =>?_⟩⟩⟩
 refine ⟨_,rfl,fw.mpr ⟨c,m,p,us,rfl,Wc,m4,λH3 s3 no=>q0 H3 (s1.trans (s2.trans s3)) ?_,λz H3 Z M s3 ez hM mM hx=>q1 z H3 Z M (s1.trans (s2.trans s3)) ez hM mM ?_⟩⟩
 ·rw[eu] at no;exact no
 ·rw[eu] at hx;exact hx
end
theorem vx {l:List Int}{k:Int}(h:l.Pairwise (· < ·))(b:∀v∈l,v<k):(l++[k]).Pairwise (· < ·):=by
 rw[Dx]
 exact ⟨h,Ea _ _,λa ha c hc=>by rw[BU] at hc;subst hc;exact b a ha⟩
abbrev uc:Sp:=λvs H Q _=>∃(n:Int) (r:Addr) (m:Nat) (ts:List (Addr×List Int)),vs=[.int n,.ref r]/\0<=n/\Wb H r m ts/\m<=200/\∀(p q:Addr) (n':Int) (ps:List Int) (H':Hp),aD H H'->H' p=some (.tup [.ref q,.int n'])->H' q=some (.tup (ps.map V.int))->(∀v∈ps,0<=v/\v<m)->ps.Pairwise (· < ·)->Q (.ref p) H'
@[irreducible] def oU:Sp:=uc
theorem hJ {vs:List V}{H:Hp}{Q:VK}{E:XK}:oU vs H Q E↔uc vs H Q E:=by
 delta oU
 exact Eg
theorem BH {d:Int}(h0:0<=d)(h1:d<4):∃e:Int,0<e/\e<=4/\atI [V.int 2,.int 4,.int 2,.int 3] d=some (.int e):=by
 rcases (show d=0\/d=1\/d=2\/d=3 by lia) with z | z | z | z <;> subst z <;> exact ⟨_,by decide,by decide,rfl⟩
section
variable  {P:Ca}{w:CJ}{K:BP}{mg:Str->Option BM}{base:Heap}{f T:Addr}{fd:De}
theorem fB:aK ["number", "web", "way", "places", "place", "bit"] ["number", "web"] (aA rX):=⟨rfl,rfl,rfl,by decide +kernel,rfl,by decide +kernel,by decide +kernel⟩
theorem zc (F:Fun K "_law_some" "_law_some" rX f fd)(B:Blt mg):bM P w K mg base CX0 1 f fd ["number", "web"] oU:=by
 refine F.ok fB (λvs H Q E h =>?_) (λcdv A outer s H vs Q E hr h =>?_)
 ·obtain ⟨_,_,_,_,rfl,_⟩:=hJ.mp h
  rfl
 obtain ⟨n,r,m,ts,rfl,n0,W,m4,q⟩:=hJ.mp h
 refine ⟨_,(@ai _ _ _ _ _ (@bD _ _ _ _ _ _ (av aF rfl B.b_divmod aP (@aa _ _ _ _ _ (pv 0) (@aa _ _ _ _ _ ak ag rfl) rfl)) (bo rfl (az (aq (i:=0) fB.nd rfl (Or.inl rfl)) (az (aq (i:=2) fB.nd rfl (Or.inl rfl)) aT))) rfl rfl rfl)
  (@ai _ _ _ _ _ (@aM _ _ 3 _ _ _ _ fB.nd rfl (Or.inl rfl) (@bY _ _ _ _ ag) rfl (by first | exact .inl rfl | exact .inr rfl | assumption))
  (@ai _ _ _ _ _ (@bP _ _ _ _ _ _ _ _ CL rfl (bJ rfl B.b_range (@aa _ _ _ _ _ (@aS _ _ _ _ _ _ _ aV (pv 1) ak (λ_ _=>rfl)) ag rfl)) (aq (i:=4) fB.nd rfl (Or.inl rfl))
   (@ai _ _ _ _ _ (@bD _ _ _ _ _ _ (av aF rfl B.b_divmod aP (@aa _ _ _ _ _ (pv 0) (@aa _ _ _ _ _ (@aS _ _ _ _ _ _ _ cC (@bY _ _ _ _ (@aa _ _ _ _ _ ak (@aa _ _ _ _ _ ak (@aa _ _ _ _ _ ak (@aa _ _ _ _ _ ak ag rfl) rfl) rfl) rfl)) (pv 2) (λ_ _=>rfl)) ag rfl) rfl)) (bo rfl (az (aq (i:=0) fB.nd rfl (Or.inl rfl)) (az (aq (i:=5) fB.nd rfl (Or.inl rfl)) aT))) rfl rfl rfl)
   (@au _ _ _ (@bE _ _ _ _ _ _ _ _ (aJ du (pv 5) ak (aU _)) (@au _ _ _ (bN (cS Cr CU CV bL (pv 3) (@aa _ _ _ _ _ (pv 4) ag rfl)))) aO))) (λ_=>rfl))
  (@au _ _ _ (@aH _ _ _ _ (@bp _ _ _ _ _ (@aa _ _ _ _ _ (aG aR rfl B.b_tuple cA (@aa _ _ _ _ _ (pv 3) ag rfl)) (@aa _ _ _ _ _ (pv 0) ag rfl) rfl))))))),?_⟩
 obtain ⟨t,e1,e2⟩:=W.at'
 obtain ⟨q0,x0,x1⟩:=dmN (j:=4) n0 (by decide)
 refine ⟨_,rfl,n,4,rfl,⟨by decide,by decide⟩,λp hp=>⟨p,_,rfl,SqT.of ah,rfl,_,_,rfl,_,_,rfl,rfl,?_⟩⟩
 have s1:=af hp (.tup [.int (n/4),.int (n%4)])
 generalize upd H p (.tup [.int (n/4),.int (n%4)])=H1 at s1
 generalize n/4=n1 at q0
 generalize n%4=wy at x0 x1
 refine ⟨(by show 0<=B4;decide),λl hl =>?_⟩
 have hl0:=s1.free hl
 have s2:=s1.trans (af hl (.lst []))
 have el:upd H1 l (.lst []) l=some (.lst (([]:List Int).map V.int)):=ah
 generalize upd H1 l (.lst [])=H2 at s2 el
 obtain ⟨e,e0,e4,ae⟩:=BH x0 x1
 refine ⟨_,rfl,r,_,0,_,rfl,rfl,SqT.of (s2 _ _ e1),rfl,m,rfl,by lia,by lia,?_⟩
 let W0:Nat->St->Hp->Prop:=λk σ H'=>∃(nn:Int) (c5 c6:Option V) (ps:List Int),σ=[some (.int nn),some (.ref r),some (.int wy),some (.ref l),c5,c6]/\0<=nn/\aD H H'/\H' l=some (.lst (ps.map V.int))/\(∀v∈ps,0<=v/\v<k)/\ps.Pairwise (· < ·)/\ps.length<=k
 refine bK (n:=m) W0 ⟨n1,_,_,[],rfl,q0,s2,el,λv h=>(by cases h),List.Pairwise.nil,BS _⟩ ?_ ?_
 ·rintro k σ H3 hk ⟨nn,c5,c6,ps,rfl,nn0,s3,el3,rg,nd,lp⟩
  obtain ⟨q1,y0,y1⟩:=dmN nn0 e0
  refine ⟨_,rfl,(by show 4<=B4;decide),λl4 hl4 =>?_⟩
  have g4:=af hl4 (.lst [.int 2,.int 4,.int 2,.int 3])
  have el4:upd H3 l4 (.lst [.int 2,.int 4,.int 2,.int 3]) l4=some (.lst [.int 2,.int 4,.int 2,.int 3]):=ah
  generalize upd H3 l4 (.lst [.int 2,.int 4,.int 2,.int 3])=H4 at g4 el4
  refine ⟨_,rfl,l4,_,wy,_,rfl,rfl,SqL.of el4,ae,nn,e,rfl,⟨e0,by lia⟩,λp hp=>⟨p,_,rfl,SqT.of ah,rfl,_,_,rfl,_,_,rfl,rfl,?_⟩⟩
  have g5:=af hp (.tup [.int (nn/e),.int (nn%e)])
  have s5:=s3.trans (g4.trans g5)
  have el5:=g5 _ _ (g4 _ _ el3)
  generalize upd H4 p (.tup [.int (nn/e),.int (nn%e)])=H5 at s5 el5
  refine ⟨_,rfl,rfl,_,rfl,gL (λz =>?_) λz =>?_⟩
  ·refine ⟨_,rfl,.inl ⟨rfl,_,SqL.of el5⟩,_,rfl,l,_,_,rfl,rfl,el5,by rw[BK];exact bA (by lia),nn/e,_,_,ps++[(k:Int)],rfl,q1,aD.cE s5 hl0 _,by rw[ah,B5,Ho];rfl,λv hv =>?_,vx nd (λv hv=>(rg v hv).2),by rw[BR];show _+1<=_;lia⟩
   rcases B0.mp hv with z | z
   ·have:=rg v z;lia
   ·rw[BU] at z;subst z;lia
  ·exact ⟨nn/e,_,_,ps,rfl,q1,s5,el5,λv hv=>by have:=rg v hv;lia,nd,by lia⟩
 ·rintro σ H3 ⟨nn,c5,c6,ps,rfl,nn0,s3,el3,rg,nd,lp⟩
  refine ⟨_,rfl,l,_,rfl,.inl ⟨SqL.of el3,λq1 hq1=>⟨_,rfl,(by show 2<=B4;decide),λp1 hp1 =>?_⟩⟩⟩
  have g4:=af hq1 (.tup (ps.map V.int))
  have g5:=af hp1 (.tup [.ref q1,.int nn])
  exact q p1 q1 nn ps _ (s3.trans (g4.trans g5)) ah (g5 _ _ ah) rg nd
end
section
variable  {P:Ca}{w:CJ}{K:BP}{mg:Str->Option BM}{base:Heap}{f T:Addr}{fd:De}
theorem i9:aK ["number", "way"] ["number"] (aA kP):=⟨rfl,rfl,rfl,by decide +kernel,rfl,by decide +kernel,by decide +kernel⟩
theorem vy (F:Fun K "_law_any_web" "_law_any_web" kP f fd)(B:Blt mg)(cLWeb:Cal P w K mg base 1 "_law_web" ["number", "most"] oD)(cLWide:Cal P w K mg base 1 "_law_wide" ["number"] fV)(cLDense:Cal P w K mg base 1 "_law_dense" ["number"] fV):bM P w K mg base CX0 2 f fd ["number"] fV:=by
 refine F.ok i9 (λvs H Q E h =>?_) (λcdv A outer s H vs Q E hr h =>?_)
 ·obtain ⟨_,rfl,_⟩:=cf.mp h
  rfl
 obtain ⟨n,rfl,n0,q⟩:=cf.mp h
 refine ⟨_,(@ai _ _ _ _ _ (@bD _ _ _ _ _ _ (av aF rfl B.b_divmod aP (@aa _ _ _ _ _ (pv 0) (@aa _ _ _ _ _ ak ag rfl) rfl)) (bo rfl (az (aq (i:=0) i9.nd rfl (Or.inl rfl)) (az (aq (i:=1) i9.nd rfl (Or.inl rfl)) aT))) rfl rfl rfl)
  (@ai _ _ _ _ _ (@bE _ _ _ _ _ _ _ _ (aJ du (pv 1) ak (aU _)) (@au _ _ _ (@aH _ _ _ _ (aN cLWide hr (by decide) rfl (@aa _ _ _ _ _ (pv 0) ag rfl)))) aO)
  (@ai _ _ _ _ _ (@bE _ _ _ _ _ _ _ _ (aJ du (pv 1) ak (aU _)) (@au _ _ _ (@aH _ _ _ _ (aN cLDense hr (by decide) rfl (@aa _ _ _ _ _ (pv 0) ag rfl)))) aO)
  (@au _ _ _ (@aH _ _ _ _ (aN cLWeb hr (by decide) rfl (@aa _ _ _ _ _ (pv 0) (@aa _ _ _ _ _ ak ag rfl) rfl))))))),?_⟩
 obtain ⟨q0,x0,x1⟩:=dmN (j:=8) n0 (by decide)
 refine ⟨_,rfl,n,8,rfl,⟨by decide,by decide⟩,λp hp=>⟨p,_,rfl,SqT.of ah,rfl,_,_,rfl,_,_,rfl,rfl,?_⟩⟩
 have s1:=af hp (.tup [.int (n/8),.int (n%8)])
 generalize upd H p (.tup [.int (n/8),.int (n%8)])=H1 at s1
 generalize n/8=n1 at q0
 generalize n%8=wy at x0 x1
 refine ⟨_,rfl,rfl,_,rfl,gL (λz =>?_) λz =>?_⟩
 ·exact ⟨_,rfl,cf.mpr ⟨n1,rfl,q0,λp b n' m ts H' s=>q p b n' m ts H' (s1.trans s)⟩⟩
 refine ⟨_,rfl,rfl,_,rfl,gL (λz =>?_) λz =>?_⟩
 ·exact ⟨_,rfl,cf.mpr ⟨n1,rfl,q0,λp b n' m ts H' s=>q p b n' m ts H' (s1.trans s)⟩⟩
 exact ⟨_,rfl,gR.mpr ⟨n1,7,rfl,q0,by decide,by decide,λp b n' m ts H' s ep Wb m0 m7=>q p b n' m ts H' (s1.trans s) ep Wb m0 (by lia)⟩⟩
end
open PySem L2
structure Exs (K:BP)(mg:Str->Option BM)(c_WebError c_BadWeb c_NoStep c_NoText c_TooMany c_NoTie c_NoRing c_NotClear c_NotThree c_BadBoard c_NoRow c_NoBack:Addr):Prop where
 x_WebError:mg "WebError" = some (.ref c_WebError)
 x_BadWeb:mg "BadWeb" = some (.ref c_BadWeb)
 x_NoStep:mg "NoStep" = some (.ref c_NoStep)
 x_NoText:mg "NoText" = some (.ref c_NoText)
 x_TooMany:mg "TooMany" = some (.ref c_TooMany)
 x_NoTie:mg "NoTie" = some (.ref c_NoTie)
 x_NoRing:mg "NoRing" = some (.ref c_NoRing)
 x_NotClear:mg "NotClear" = some (.ref c_NotClear)
 x_NotThree:mg "NotThree" = some (.ref c_NotThree)
 x_BadBoard:mg "BadBoard" = some (.ref c_BadBoard)
 x_NoRow:mg "NoRow" = some (.ref c_NoRow)
 x_NoBack:mg "NoBack" = some (.ref c_NoBack)
 n_ex:PySem.W.excIn K c_NotClear wN "ValueError.__new__" = true
 n_i:ExI K c_NotClear
 n_m:PySem.W.exmOne K (.ref c_NotClear) (.ref c_WebError)=some true
 n_v:PySem.W.kitOne K (.ref c_NotClear) (.type "ValueError")=some true
 n_odd:PySem.W.kitAny K (.ref c_NotClear) [.ref c_BadBoard,.ref c_BadWeb,.ref c_NoBack,.ref c_NoRing,.ref c_NoRow,.ref c_NoStep,.ref c_NoText,.ref c_NoTie,.ref c_NotThree,.ref c_TooMany]=some false
 n_n:PySem.W.kitOne K (.ref c_NotClear) (.ref c_NotClear)=some true
theorem xJ {m:Nat}{ns:List (List Int)}(O:Ok m ns){p u v:Int}(no:∀a b,[a,b]∈ns->p=a\/p=b->qz ns a b)(tu:nrm p u∈ns)(tv:nrm p v∈ns)(c:Con (ns.filter (off [p])) u v):u=v:=by
 apply FW
 intro ne
 have nl:∀o,nrm p o∈ns->p≠o:=λo ho eo=>by
  subst eo
  rw[cv (Int.le_refl p)] at ho
  exact (no p p ho (.inl rfl)).1 rfl
 have pu:=nl u tu
 have pv:=nl v tv
 rcases JX p u with c2 | c2
 ·rw[cv c2] at tu
  have w:Wk (stp ns p u) p 1 v :=.st .z ⟨(gX O).mpr ⟨pv,tv⟩,.inr (Dq ne)⟩
  obtain ⟨n,w'⟩:=qJ O (.inl rfl) (c.symm (oT O _)) w
  exact (no p u tu (.inl rfl)).2.2 n w'
 ·rw[dO,cv c2] at tu
  obtain ⟨n,w'⟩:=qJ (s:=u) (g:=p) O (.inr rfl) c .z
  exact (no u p tu (.inr rfl)).2.2 (n+1) (.st w' ⟨(gX O).mpr ⟨Dq pv,Td.symm _ _ tv⟩,.inl (Dq ne)⟩)
theorem xK {m:Nat}{ns:List (List Int)}(O:Ok m ns){p a v:Int}(ha:a≠p)(c:Con ns a v) :
  (v≠p->Con (ns.filter (off [p])) a v\/∃x y,nrm p x∈ns/\nrm p y∈ns/\Con (ns.filter (off [p])) a x/\Con (ns.filter (off [p])) y v)/\(v=p->∃x,nrm p x∈ns/\Con (ns.filter (off [p])) a x):=by
 induction c with
 | refl=>exact ⟨λ_ =>.inl (.refl _),λe=>absurd e ha⟩
 | step c aj ih =>
  rename_i y z
  obtain ⟨ne,td⟩:=(gX O).mp aj
  refine ⟨λhz =>?_,λhz =>?_⟩
  ·by_cases hy:y=p
   ·subst hy
    obtain ⟨x,tx,cx⟩:=ih.2 rfl
    exact .inr ⟨x,z,tx,td,cx,.refl _⟩
   ·rcases ih.1 hy with h | ⟨x1,y1,t1,t2,h1,h2⟩
    ·exact .inl (.step h (qI O aj hy hz))
    ·exact .inr ⟨x1,y1,t1,t2,h1,.step h2 (qI O aj hy hz)⟩
  ·subst hz
   rcases ih.1 ne with h | ⟨x1,y1,t1,_,h1,_⟩
   ·exact ⟨y,Td.symm _ _ td,h⟩
   ·exact ⟨x1,t1,h1⟩
theorem vz {m:Nat}{E:List (List Int)}(O:Ok m E){p:Int}(no:∀a b,[a,b]∈E->p=a\/p=b->qz E a b)(w:di (E.filter (off [p]))):di E:=by
 intro pre t post e a b et c
 subst et
 have hin:[a,b]∈E:=by rw[e];simp
 have Op:Ok m pre:=λt ht=>O t (by rw[e];exact CH _ ht)
 have sub:∀t∈pre,t∈E:=λt ht=>by rw[e];exact CH _ ht
 by_cases hp:p=a\/p=b
 ·have nal:=no a b hin hp
  obtain ⟨_,_,ee,a0,ab,bm⟩:=O _ hin
  cases ee
  have np:[a,b]∉pre:=λhp=>by
   have:=nal.2.1
   rw[e,List.count_append,List.count_cons_self] at this
   have:=Jx.mpr hp
   lia
  have:∀{v:Int},Con pre a v->∃n,Wk (stp E a b) a n v:=λ{v} c=>by
   induction c with
   | refl=>exact ⟨0,.z⟩
   | step cc aj ih =>
    rename_i y z
    obtain ⟨n,w⟩:=ih
    obtain ⟨ne,td⟩:=(gX Op).mp aj
    refine ⟨n+1,.st w ⟨(gX O).mpr ⟨ne,sub _ td⟩,?_⟩⟩
    by_cases h1:y=a
    ·right;intro h2;subst h1;subst h2
     unfold Td at td
     rw[cv ab] at td
     exact np td
    ·exact .inl h1
  obtain ⟨n,w⟩:=this c
  exact nal.2.2 n w
 have ha:a≠p:=λz=>hp (.inl z.symm)
 have hb:b≠p:=λz=>hp (.inr z.symm)
 have ob:off [p] [a,b]=true:=by unfold off;simp[ha,hb]
 have key:¬ Con (pre.filter (off [p])) a b:=w (pre.filter (off [p])) [a,b] (post.filter (off [p])) (by rw[e,Gs,Gu ob]) a b rfl
 rcases (xK Op ha c).1 hb with h | ⟨x,y,tx,ty,hx,hy⟩
 ·exact key h
 have up:∀t∈pre.filter (off [p]),t∈E.filter (off [p]):=λt ht=>Dc.mpr ⟨sub _ (Dc.mp ht).1,(Dc.mp ht).2⟩
 by_cases xy:x=y
 ·subst xy
  exact key (hx.trans hy)
 have O':=oT O [p]
 have aj:Con (E.filter (off [p])) a b:=by
  by_cases ab:a=b
  ·rw[ab];exact .refl _
  ·obtain ⟨_,_,ee,a0,le,bm⟩:=O _ hin
   cases ee
   exact .step (.refl _) ((gX O').mpr ⟨ab,by unfold Td;rw[cv le];exact Dc.mpr ⟨hin,ob⟩⟩)
 have cxy:Con (E.filter (off [p])) x y:=(((hx.up up).symm O').trans aj).trans ((hy.up up).symm O')
 exact xy (xJ O no (sub _ tx) (sub _ ty) cxy)
theorem zd {ps:List Int}{p:Int}(hp:p∈ps)(E:List (List Int)):(E.filter (off (less p ps))).filter (off [p])=E.filter (off ps):=by
 rw[Jy]
 refine E6 λt _ =>?_
 have k:∀v:Int,(v∈ps↔v∈[p]\/v∈less p ps):=λv=>by
  rw[BU,eO]
  by_cases e:v=p
  ·rw[e];simp[hp]
  ·simp[e]
 unfold off
 generalize t.getD 0 0=x
 generalize t.getD 1 0=y
 have:=k x
 have:=k y
 by_cases a1:x∈[p] <;> by_cases a2:x∈less p ps <;> by_cases b1:y∈[p] <;> by_cases b2:y∈less p ps <;> simp_all
theorem vA {E:List (List Int)}{ps qs:List Int}(h:∀v∈ps,v∈qs)(w:di (E.filter (off ps))):di (E.filter (off qs)):=by
 have:E.filter (off qs)=(E.filter (off ps)).filter (off qs):=by
  rw[Jy]
  refine E6 λt _ =>?_
  unfold off
  have h1:∀v,v∉qs->v∉ps:=λv hv hp=>hv (h v hp)
  generalize t.getD 0 0=x
  generalize t.getD 1 0=y
  by_cases a1:x∈qs
  ·simp[a1]
  ·by_cases b1:y∈qs
   ·simp[b1]
   ·simp[a1,b1,h1 x a1,h1 y b1]
 rw[this]
 exact qK w _
open PySem L2
structure Rws (H:Hp)(m:Nat)(E:List (List Int))(ps:List Int)(ks:List (Addr×Int×Addr×List Int)):Prop where
 row:∀k∈ks,H k.1=some (.tup [.int k.2.1,.ref k.2.2.1])/\H k.2.2.1=some (.tup (k.2.2.2.map V.int))/\Ring m E k.2.2.2/\xw k.2.2.2/\k.2.1∈k.2.2.2/\∀v∈k.2.2.2,v∈ks.map (·.2.1)->v=k.2.1
 sub:(ks.map (·.2.1)).Sublist ps
 wd:di (E.filter (off (ks.map (·.2.1))))
theorem xM (p:Int)(ps:List Int):(less p ps).Sublist ps:=by unfold less;exact Jh
theorem ze {ps:List Int}{u v:Int}(h:off ps (nrm u v)=true):u∉ps/\v∉ps:=by
 rcases JX u v with c | c
 ·rw[cv c] at h;unfold off at h;simpa using h
 ·rw[dO,cv c] at h;unfold off at h;simpa [and_comm] using h
@[irreducible] def iI (C:Addr):Sp:=λvs H Q E=>∃(r q:Addr) (m:Nat) (ts:List (Addr×List Int)) (ps:List Int),vs=[.ref r,.ref q]/\Wb H r m ts/\m<=200/\H q=some (.tup (ps.map V.int))/\ps.Pairwise (· < ·)/\ps.length<=400/\(∀v∈ps,0<=v/\v<m)/\(di ((ts.map (·.2)).filter (off ps))->∀(l:Addr) (ks:List (Addr×Int×Addr×List Int)) (H':Hp),H l=none->aD H H'->H' l=some (.lst (ks.map λk =>.ref k.1))->Rws H' m (ts.map (·.2)) ps ks->Q (.ref l) H')/\(¬ di ((ts.map (·.2)).filter (off ps))->∀H',aD H H'->E (.ref C) none H')
theorem dY {C:Addr}{vs:List V}{H:Hp}{Q:VK}{E:XK}:iI C vs H Q E↔∃(r q:Addr) (m:Nat) (ts:List (Addr×List Int)) (ps:List Int),vs=[.ref r,.ref q]/\Wb H r m ts/\m<=200/\H q=some (.tup (ps.map V.int))/\ps.Pairwise (· < ·)/\ps.length<=400/\(∀v∈ps,0<=v/\v<m)/\(di ((ts.map (·.2)).filter (off ps))->∀(l:Addr) (ks:List (Addr×Int×Addr×List Int)) (H':Hp),H l=none->aD H H'->H' l=some (.lst (ks.map λk =>.ref k.1))->Rws H' m (ts.map (·.2)) ps ks->Q (.ref l) H')/\(¬ di ((ts.map (·.2)).filter (off ps))->∀H',aD H H'->E (.ref C) none H'):=by
 delta iI
 exact Eg
section
variable  {P:Ca}{w:CJ}{K:BP}{mg:Str->Option BM}{base:Heap}{f:Addr}{fd:De}{c_WebError c_BadWeb c_NoStep c_NoText c_TooMany c_NoTie c_NoRing c_NotClear c_NotThree c_BadBoard c_NoRow c_NoBack:Addr}
theorem cP:aK ["web", "places", "needed", "place", "fewer"] ["web", "places"] (aA fS):=⟨rfl,rfl,rfl,by decide +kernel,rfl,by decide +kernel,by decide +kernel⟩
theorem dk:(["place", "web", "needed"]:List Str).Nodup:=by decide +kernel
theorem oV (F:Fun K "thinned_cut" "thinned_cut" fS f fd)(B:Blt mg)(Z:Exs K mg c_WebError c_BadWeb c_NoStep c_NoText c_TooMany c_NoTie c_NoRing c_NotClear c_NotThree c_BadBoard c_NoRow c_NoBack)(cClearsWeb:Cal P w K mg base 4 "clears_web" ["web", "places"] t6)(cWithoutPlace:Cal P w K mg base 1 "without_place" ["places", "place"] lA)(cOwnRing:Cal P w K mg base 6 "own_ring" ["web", "places", "place"] t9):bM P w K mg base (CX1 P w) 7 f fd ["web", "places"] (iI c_NotClear):=by
 refine F.okX cP (λvs H Q E h =>?_) (λcdv A outer s H vs Q E hr h =>?_)
 ·obtain ⟨_,_,_,_,_,rfl,_⟩:=dY.mp h
  rfl
 obtain ⟨r,q,m,ts,ps,rfl,W,m2,eq,rise,l4,rg,q1,q2⟩:=dY.mp h
 refine ⟨_,(@ai _ _ _ _ _ (@bE _ _ _ _ _ _ _ _ (dr (cN (aN cClearsWeb hr (by decide) rfl (@aa _ _ _ _ _ (pv 0) (@aa _ _ _ _ _ (pv 1) ag rfl) rfl)))) (@au _ _ _ (wO (x := "NotClear") Bv ⟨Z.n_ex,Z.x_NotClear⟩ hr.hd rfl (@aa _ _ _ _ _ zM ag rfl))) aO)
  (PSs.nox (@ai _ _ _ _ _ (@aM _ _ 2 _ _ _ _ cP.nd rfl (Or.inr rfl) (pv 1) rfl (by first | exact .inl rfl | exact .inr rfl | assumption))
  (@ai _ _ _ _ _ (@bP _ _ _ _ _ _ _ _ CL rfl (@eR _ _ _ _ (pv 1)) (aq (i:=3) cP.nd rfl (Or.inl rfl))
   (@ai _ _ _ _ _ (@aM _ _ 4 _ _ _ _ cP.nd rfl (Or.inl rfl) (aN cWithoutPlace hr (by decide) rfl (@aa _ _ _ _ _ (pv 2) (@aa _ _ _ _ _ (pv 3) ag rfl) rfl)) rfl (by first | exact .inl rfl | exact .inr rfl | assumption))
   (@au _ _ _ (@bE _ _ _ _ _ _ _ _ (cN (aN cClearsWeb hr (by decide) rfl (@aa _ _ _ _ _ (pv 0) (@aa _ _ _ _ _ (pv 4) ag rfl) rfl))) (@au _ _ _ (@aM _ _ 2 _ _ _ _ cP.nd rfl (Or.inr rfl) (pv 4) rfl (by first | exact .inl rfl | exact .inr rfl | assumption))) aO))) (λ_=>rfl))
  (@au _ _ _ (@aH _ _ _ _ (bG ["place", "web", "needed"] [none,some 0,some 2] rfl (@eR _ _ _ _ (pv 2)) rfl (λ_ _ _ _ _=>(aq (i:=0) dk rfl (Or.inl rfl))) (λ_ _ _ _ _=>cu) (λ_ _ _ _ _=>(@bp _ _ _ _ _ (@aa _ _ _ _ _ (pv 0) (@aa _ _ _ _ _ (aN cOwnRing hr (by decide) rfl (@aa _ _ _ _ _ (pv 1) (@aa _ _ _ _ _ (pv 2) (@aa _ _ _ _ _ (pv 0) ag rfl) rfl) rfl)) ag rfl) rfl)))))))))),?_⟩
 have O:=qA W
 have nd:ps.Nodup:=rise.imp λ{a b} h=>by lia
 refine ⟨_,rfl,_,rfl,gB.mpr ⟨r,q,m,ts,ps,rfl,W,m2,eq,λH1 b1 s1 h1=>⟨_,rfl,?_⟩⟩⟩
 by_cases w0:di ((ts.map (·.2)).filter (off ps))
 rotate_left
 ·have:b1=false:=by
   cases b1 with
   | false=>rfl
   | true=>exact absurd (h1.mp rfl) w0
  subst this
  exact bQ ⟨(by show 1<=B4;decide),q2 w0 H1 s1⟩
 have:b1=true:=h1.mpr w0
 subst this
 refine bT ?_
 have q1:=q1 w0
 refine ⟨_,rfl,?_⟩
 let W0:Nat->St->Hp->Prop:=λi σ H'=>∃(nq:Addr) (ns:List Int) (c3 c4:Option V),σ=[some (.ref r),some (.ref q),some (.ref nq),c3,c4]/\aD H H'/\H' nq=some (.tup (ns.map V.int))/\ns.Sublist ps/\di ((ts.map (·.2)).filter (off ns))/\∀p∈ps.take i,p∈ns->¬ di ((ts.map (·.2)).filter (off (less p ns)))
 refine ⟨_,rfl,q,rfl,⟨_,SqT.of (s1 _ _ eq)⟩,sq (xs:=ps.map V.int) W0 ⟨q,ps,_,_,rfl,s1,s1 _ _ eq,List.Sublist.refl _,w0,λp hp=>by simp at hp⟩ (λi σ H' _ h=>by obtain ⟨_,_,_,_,_,s',_⟩:=h;exact SqT.of (s' _ _ eq)) ?_ ?_⟩
 ·rintro i x σ H2 hx ⟨nq,ns,c3,c4,rfl,s2,en,sn,wn,nn⟩
  obtain ⟨p,ep,rfl⟩:=gc hx
  refine ⟨_,rfl,_,rfl,fA.mpr ⟨nq,p,ns,rfl,en,by have:=sn.length_le;lia,λz H3 s3 ez =>?_⟩⟩
  refine ⟨_,rfl,_,rfl,gB.mpr ⟨r,z,m,ts,less p ns,rfl,W.same (s2.trans s3),m2,ez,λH4 b4 s4 h4=>⟨_,rfl,?_⟩⟩⟩
  have s24:=s2.trans (s3.trans s4)
  have tk:∀v∈ps.take (i+1),v∈ps.take i\/v=p:=λv hv=>by
   rw[Dp,ep] at hv
   rcases B0.mp hv with y | y
   ·exact .inl y
   ·exact .inr (by simpa using y)
  cases b4 with
  | true =>
   refine bQ ⟨_,rfl,z,less p ns,_,_,rfl,s24,s4 _ _ ez,(xM p ns).trans sn,h4.mp rfl,λv hv hm w =>?_⟩
   obtain ⟨hm1,hm2⟩:=eO.mp hm
   rcases tk v hv with y | y
   ·refine nn v y hm1 (vA (λu hu =>?_) w)
    obtain ⟨h1,h2⟩:=eO.mp hu
    exact eO.mpr ⟨(eO.mp h1).1,h2⟩
   ·exact hm2 y
  | false =>
   refine bT ⟨nq,ns,_,_,rfl,s24,s4 _ _ (s3 _ _ en),sn,wn,λv hv hm w =>?_⟩
   rcases tk v hv with y | y
   ·exact nn v y hm w
   ·subst y
    exact B6 (h4.mpr w)
 ·rintro σ H2 ⟨nq,ns,c3,c4,rfl,s2,en,sn,wn,nn⟩
  rw[BK,B9 (BS _)] at nn
  have ln:=sn.length_le
  let W1:Nat->List V->Hp->Prop:=λi ys H'=>aD H2 H'/\∃ks:List (Addr×Int×Addr×List Int),ys=(ks.map λk =>.ref k.1)/\ks.map (·.2.1)=ns.take i/\∀k∈ks,H' k.1=some (.tup [.int k.2.1,.ref k.2.2.1])/\H' k.2.2.1=some (.tup (k.2.2.2.map V.int))/\Ring m (ts.map (·.2)) k.2.2.2/\xw k.2.2.2/\k.2.1∈k.2.2.2/\∀v∈k.2.2.2,v∈ns->v=k.2.1
  refine ⟨_,rfl,nq,rfl,⟨_,SqT.of en⟩,cF (xs:=ns.map V.int) W1 ⟨aD.refl _,[],rfl,rfl,λk hk=>by cases hk⟩ (by rw[BK];exact small (by lia)) (λi ys H' _ z=>SqT.of (z.1 _ _ en)) ?_ ?_⟩
  ·rintro i x ys H3 hx hy ⟨s3,ks,rfl,ek,rk⟩ R1 R0 r1 r0
   obtain ⟨p,ep,rfl⟩:=gc hx
   have hp:p∈ns:=BV ep
   have O':=tY O (less p ns)
   refine bQ ⟨_,rfl,_,rfl,_,rfl,_,rfl,i8.mpr ⟨r,nq,m,p,ts,ns,rfl,W.same (s2.trans s3),by lia,s3 _ _ en,by lia,λH4 s4 no =>?_,λz H4 Y M s4 ez hM mM hx =>?_⟩⟩
   ·exact absurd (vz O' no (by rw[zd hp];exact wn)) (nn p (sn.subset hp) hp)
   ·obtain ⟨a,b,hab,pab,al⟩:=hx
    have R:=al.ring O' hab
    have pY:p∈Y:=by
     rcases pab with rfl | rfl
     ·exact al.has.1
     ·exact al.has.2
    have fp:=qG hM
    refine ⟨(by show 2<=B4;decide),λy hy2 =>?_⟩
    have g5:=af hy2 (.tup [.int p,.ref z])
    refine r1 _ _ ⟨s3.trans (s4.trans g5),ks++[(y,p,z,frm Y M)],by rw[B5];rfl,?_,λk hk =>?_⟩
    ·rw[B5,ek,Dp,ep];rfl
    ·rcases B0.mp hk with c | c
     ·obtain ⟨h1,h2,h3⟩:=rk k c
      exact ⟨g5 _ _ (s4 _ _ h1),g5 _ _ (s4 _ _ h2),h3⟩
     ·rw[BU] at c
      subst c
      refine ⟨ah,g5 _ _ ez,(R.frm hM).mono (sg _ _),xB R.nd hM mM,fp.mem_iff.mpr pY,λv hv hvn =>?_⟩
      obtain ⟨u,hu⟩:=R.tied (fp.mem_iff.mp hv)
      have nv:=(ze (Dc.mp hu).2).2
      exact FW λe=>nv (eO.mpr ⟨hvn,e⟩)
  ·rintro ys H3 hy ⟨s3,ks,rfl,ek,rk⟩ l hl
   rw[BK,B9 (BS _)] at ek
   have g4:=af hl (.lst (ks.map λk =>.ref k.1))
   refine q1 l ks _ ((s2.trans s3).free hl) (s2.trans (s3.trans g4)) ah ⟨λk hk =>?_,by rw[ek];exact sn,by rw[ek];exact wn⟩
   obtain ⟨h1,h2,h3,h4,h5,h6⟩:=rk k hk
   exact ⟨g4 _ _ h1,g4 _ _ h2,h3,h4,h5,λv hv hm=>h6 v hv (by rw[ek] at hm;exact hm)⟩
end
open PySem L2
abbrev ud:Sp:=λvs H Q _=>∃(r q:Addr) (m:Nat) (ts:List (Addr×List Int)) (ps:List Int),vs=[.ref r,.ref q]/\Wb H r m ts/\m<=200/\H q=some (.tup (ps.map V.int))/\ps.Pairwise (· < ·)/\ps.length<=400/\(∀v∈ps,0<=v/\v<m)/\di ((ts.map (·.2)).filter (off ps))/\∀(l:Addr) (ks:List (Addr×Int×Addr×List Int)) (H':Hp),H l=none->aD H H'->H' l=some (.lst (ks.map λk =>.ref k.1))->Rws H' m (ts.map (·.2)) ps ks->Q (.ref l) H'
@[irreducible] def lD:Sp:=ud
theorem hW {vs:List V}{H:Hp}{Q:VK}{E:XK}:lD vs H Q E↔ud vs H Q E:=by
 delta lD
 exact Eg
theorem vB {C:Addr}:∀vs H Q E,lD vs H Q E->iI C vs H Q E0:=λvs H Q E h=>by
 obtain ⟨r,q,m,ts,ps,e,W,m2,eq,rs,l4,rg,w,k⟩:=hW.mp h
 exact dY.mpr ⟨r,q,m,ts,ps,e,W,m2,eq,rs,l4,rg,λ_=>k,λz=>absurd w z⟩
abbrev xN:Sp:=λvs H Q _=>∃(r q:Addr) (m:Nat) (ts:List (Addr×List Int)) (ps:List Int),vs=[.ref r,.ref q]/\Wb H r m ts/\m<=200/\H q=some (.tup (ps.map V.int))/\ps.Pairwise (· < ·)/\ps.length<=400/\(∀v∈ps,0<=v/\v<m)/\¬ di ((ts.map (·.2)).filter (off ps))/\∀H',aD H H'->Q (.bl true) H'
@[irreducible] def ue:Sp:=xN
theorem ja {vs:List V}{H:Hp}{Q:VK}{E:XK}:ue vs H Q E↔xN vs H Q E:=by
 delta ue
 exact Eg
theorem zf {a1 a2 a3 a4 a5 a6 a7 a8 a9 a10:Addr}:∀c∈([.ref a1,.ref a2,.ref a3,.ref a4,.ref a5,.ref a6,.ref a7,.ref a8,.ref a9,.ref a10]:List V),qh c=true:=by
 intro c hc
 simp only[Cg,ET,or_false] at hc
 rcases hc with rfl | rfl | rfl | rfl | rfl | rfl | rfl | rfl | rfl | rfl <;> rfl
section
variable  {P:Ca}{w:CJ}{K:BP}{mg:Str->Option BM}{base:Heap}{f:Addr}{fd:De}{c_WebError c_BadWeb c_NoStep c_NoText c_TooMany c_NoTie c_NoRing c_NotClear c_NotThree c_BadBoard c_NoRow c_NoBack:Addr}
theorem fC:aK ["web", "places", "kind", "e"] ["web", "places"] (aA iW):=⟨rfl,rfl,rfl,by decide +kernel,rfl,by decide +kernel,by decide +kernel⟩
theorem sk (F:Fun K "_law_refused" "_law_refused" iW f fd)(B:Blt mg)(Z:Exs K mg c_WebError c_BadWeb c_NoStep c_NoText c_TooMany c_NoTie c_NoRing c_NotClear c_NotThree c_BadBoard c_NoRow c_NoBack)(xThin:vg P w K mg base 7 "thinned_cut" ["web", "places"] (iI c_NotClear)):bM P w K mg base CX0 8 f fd ["web", "places"] ue:=by
 refine F.ok fC (λvs H Q E h =>?_) (λcdv A outer s H vs Q E hr h =>?_)
 ·obtain ⟨_,_,_,_,_,rfl,_⟩:=ja.mp h
  rfl
 obtain ⟨r,q,m,ts,ps,rfl,W,m2,eq,rs,l4,rg,nw,k⟩:=ja.mp h
 refine ⟨_,(@ai _ _ _ _ _ (@aM _ _ 2 _ _ _ _ fC.nd rfl (Or.inl rfl) gJ rfl (by first | exact .inl rfl | exact .inr rfl | assumption))
  (@ai _ _ _ _ _ (AA (i:=3) (n := "e") (x := "WebError") rfl rfl fC.nd rfl rfl rfl Z.x_WebError (yM (wQ xThin hr (by decide) rfl (@aa _ _ _ _ _ (pv 0) (@aa _ _ _ _ _ (pv 1) ag rfl) rfl))) (λ_=>(@au _ _ _ (@aM _ _ 2 _ _ _ _ fC.nd rfl (Or.inl rfl) (pv 3) rfl (by first | exact .inl rfl | exact .inr rfl | assumption)))))
  (@ai _ _ _ _ _ (@bE _ _ _ _ _ _ _ _ (cN (av (vh (K:=K)) rfl B.b_isinstance bI (@aa _ _ _ _ _ (pv 2) (@aa _ _ _ _ _ (@bp _ _ _ _ _ (@aa _ _ _ _ _ (cM (v :=.ref c_BadBoard) rfl Z.x_BadBoard rfl) (@aa _ _ _ _ _ (cM (v :=.ref c_BadWeb) rfl Z.x_BadWeb rfl) (@aa _ _ _ _ _ (cM (v :=.ref c_NoBack) rfl Z.x_NoBack rfl) (@aa _ _ _ _ _ (cM (v :=.ref c_NoRing) rfl Z.x_NoRing rfl) (@aa _ _ _ _ _ (cM (v :=.ref c_NoRow) rfl Z.x_NoRow rfl) (@aa _ _ _ _ _ (cM (v :=.ref c_NoStep) rfl Z.x_NoStep rfl) (@aa _ _ _ _ _ (cM (v :=.ref c_NoText) rfl Z.x_NoText rfl) (@aa _ _ _ _ _ (cM (v :=.ref c_NoTie) rfl Z.x_NoTie rfl) (@aa _ _ _ _ _ (cM (v :=.ref c_NotThree) rfl Z.x_NotThree rfl) (@aa _ _ _ _ _ (cM (v :=.ref c_TooMany) rfl Z.x_TooMany rfl) ag rfl) rfl) rfl) rfl) rfl) rfl) rfl) rfl) rfl) rfl)) ag rfl) rfl))) (@au _ _ _ (@aH _ _ _ _ gF)) aO)
  (@au _ _ _ (@aH _ _ _ _ (qR (av (qi (K:=K)) rfl B.b_isinstance bI (@aa _ _ _ _ _ (pv 2) (@aa _ _ _ _ _ (cM (v :=.ref c_NotClear) rfl Z.x_NotClear rfl) ag rfl) rfl)) (qQ (av (qi (K:=K)) rfl B.b_isinstance bI (@aa _ _ _ _ _ (pv 2) (@aa _ _ _ _ _ (gj (v :=.ty "ValueError") rfl B.b_ValueError lT rfl) ag rfl) rfl))))))))),?_⟩
 refine ⟨_,rfl,_,rfl,dY.mpr ⟨r,q,m,ts,ps,rfl,W,m2,eq,rs,l4,rg,λw=>absurd w nw,λ_ H1 s1 =>?_⟩⟩
 refine ⟨Z.n_m,λea he =>?_⟩
 have s2:=s1.trans (af he (ou ea (.ref c_NotClear)))
 have ee:upd H1 ea (ou ea (.ref c_NotClear)) ea=some (ou ea (.ref c_NotClear)):=ah
 generalize upd H1 ea (ou ea (.ref c_NotClear))=H2 at s2 ee
 refine ⟨_,rfl,_,rfl,(by show 10<=B4;decide),λtp ht =>?_⟩
 have s3:=af ht (.tup [.ref c_BadBoard,.ref c_BadWeb,.ref c_NoBack,.ref c_NoRing,.ref c_NoRow,.ref c_NoStep,.ref c_NoText,.ref c_NoTie,.ref c_NotThree,.ref c_TooMany])
 have ee3:=s3 _ _ ee
 refine ⟨ea,c_NotClear,tp,_,false,rfl,ee3,Z.n_i,ah,zf,Z.n_odd,_,rfl,bT ?_⟩
 exact ⟨_,rfl,ea,c_NotClear,_,true,rfl,ee3,Z.n_i,rfl,Z.n_n,_,rfl,bQ ⟨_,rfl,ea,c_NotClear,_,true,rfl,ee3,Z.n_i,rfl,Z.n_v,k _ (s2.trans s3)⟩⟩
end
open PySem L2
abbrev zD:Sp:=λvs H Q _=>∃(b pl l:Addr) (m:Nat) (ts:List (Addr×List Int)) (ps:List Int) (ks:List (Addr×Int×Addr×List Int)),vs=[.ref b,.ref pl,.ref l]/\Wb H b m ts/\m<=200/\H pl=some (.tup (ps.map V.int))/\ps.Pairwise (· < ·)/\ps.length<=200/\H l=some (.lst (ks.map λk =>.ref k.1))/\Rws H m (ts.map (·.2)) ps ks/\∀H',aD H H'->Q (.bl true) H'
@[irreducible] def zg:Sp:=zD
theorem iJ {vs:List V}{H:Hp}{Q:VK}{E:XK}:zg vs H Q E↔zD vs H Q E:=by
 delta zg
 exact Eg
section
variable  {P:Ca}{w:CJ}{K:BP}{mg:Str->Option BM}{base:Heap}{f T:Addr}{fd:De}
theorem dF:aK ["web", "places", "rows", "kept", "place", "ring"] ["web", "places", "rows"] (aA fT):=⟨rfl,rfl,rfl,by decide +kernel,rfl,by decide +kernel,by decide +kernel⟩
theorem eP:(["row"]:List Str).Nodup:=by decide +kernel
theorem dU:(["place", "places"]:List Str).Nodup:=by decide +kernel
theorem eQ:(["other", "kept"]:List Str).Nodup:=by decide +kernel
theorem oW (F:Fun K "_law_rows_right" "_law_rows_right" fT f fd)(B:Blt mg)(cLIsWood:Cal P w K mg base 1 "_law_is_wood" ["web"] lq)(cLCut:Cal P w K mg base 1 "_law_cut" ["web", "places"] ju)(cLWholes:Cal P w K mg base 1 "_law_wholes" ["found"] iH)(cLIsRing:Cal P w K mg base 2 "_law_is_ring" ["web", "ring"] tZ)(cLForm:Cal P w K mg base 1 "_law_form" ["ring"] jJ):bM P w K mg base CX0 3 f fd ["web", "places", "rows"] zg:=by
 refine F.ok dF (λvs H Q E h =>?_) (λcdv A outer s H vs Q E hr h =>?_)
 ·obtain ⟨_,_,_,_,_,_,_,rfl,_⟩:=iJ.mp h
  rfl
 obtain ⟨b,pl,l,m,ts,ps,ks,rfl,W,m2,ep,rs,l4,el,R,q⟩:=iJ.mp h
 refine ⟨_,(@ai _ _ _ _ _ (@bE _ _ _ _ _ _ _ _ (PW.pt (ia (dr (cN (av fI rfl B.b_isinstance bI (@aa _ _ _ _ _ (pv 2) (@aa _ _ _ _ _ (gj (v :=.ty "list") rfl B.b_list jD rfl) ag rfl) rfl)))) (iK (dr (cN (av (j6 rfl) rfl B.b_all rY (@aa _ _ _ _ _ (bG ["row"] [none] rfl (@bO _ _ _ _ (pv 2)) rfl (λ_ _ _ _ _=>(aq (i:=0) eP rfl (Or.inl rfl))) (λ_ _ _ _ _=>cu) (λ_ _ _ _ _=>(qR (av (fj (K:=K)) rfl B.b_isinstance bI (@aa _ _ _ _ _ (pv 0) (@aa _ _ _ _ _ (gj (v :=.ty "tuple") rfl B.b_tuple cA rfl) ag rfl) rfl)) (qQ (gm du (av (uz (K:=K)) rfl B.b_len fU (@aa _ _ _ _ _ (pv 0) ag rfl)) ak (aU _)))))) ag rfl))))))) cU aO)
  (@ai _ _ _ _ _ (@aM _ _ 3 _ _ _ _ dF.nd rfl (Or.inr rfl) (bG ["row"] [none] rfl (@bO _ _ _ _ (pv 2)) rfl (λ_ _ _ _ _=>(aq (i:=0) eP rfl (Or.inl rfl))) (λ_ _ _ _ _=>cu) (λ_ _ _ _ _=>(@aS _ _ _ _ _ _ _ (gp (K:=K)) (pv 0) ak (λ_ _=>rfl)))) rfl (by first | exact .inl rfl | exact .inr rfl | assumption))
  (@ai _ _ _ _ _ (@bE _ _ _ _ _ _ _ _ (PW.pt (ia (dr (cN (aN cLWholes hr (by decide) rfl (@aa _ _ _ _ _ (pv 3) ag rfl)))) (ia (aJ (om hr) (pv 3) (av (kA (w:=w) rfl hr.hd) rfl B.b_sorted cI (@aa _ _ _ _ _ (aG (kz (w:=w) rfl hr.hd) rfl B.b_set rZ (@aa _ _ _ _ _ (pv 3) ag rfl)) ag rfl)) (aU _)) (iK (aJ (om hr) (bG ["place", "places"] [none,some 1] rfl (@bO _ _ _ _ (pv 3)) rfl (λ_ _ _ _ _=>(aq (i:=0) dU rfl (Or.inl rfl))) (λ_ _ _ _ _=>(gM (aJ (eC (K:=K)) (pv 0) (pv 1) rfl))) (λ_ _ _ _ _=>(pv 0))) (@bY _ _ _ _ ag) (aU _)))))) cU aO)
  (@ai _ _ _ _ _ (@bP _ _ _ _ _ _ _ _ CL rfl (@bO _ _ _ _ (pv 2)) (bo rfl (az (aq (i:=4) dF.nd rfl (Or.inl rfl)) (az (aq (i:=5) dF.nd rfl (Or.inl rfl)) aT)))
   (@ai _ _ _ _ _ (@bE _ _ _ _ _ _ _ _ (PW.pt (ia (dr (cN (av fI rfl B.b_isinstance bI (@aa _ _ _ _ _ (pv 5) (@aa _ _ _ _ _ (gj (v :=.ty "tuple") rfl B.b_tuple cA rfl) ag rfl) rfl)))) (ia (dr (cN (aN cLWholes hr (by decide) rfl (@aa _ _ _ _ _ (pv 5) ag rfl)))) (iK (dr (cN (aN cLIsRing hr (by decide) rfl (@aa _ _ _ _ _ (pv 0) (@aa _ _ _ _ _ (pv 5) ag rfl) rfl)))))))) cU aO)
   (@au _ _ _ (@bE _ _ _ _ _ _ _ _ (PW.pt (ia (aJ (yH hr) (pv 5) (aN cLForm hr (by decide) rfl (@aa _ _ _ _ _ (pv 5) ag rfl)) (aU _)) (iK (aJ (om hr) (bG ["other", "kept"] [none,some 3] rfl (@eR _ _ _ _ (pv 5)) rfl (λ_ _ _ _ _=>(aq (i:=0) eQ rfl (Or.inl rfl))) (λ_ _ _ _ _=>(gM (aJ (vV (K:=K)) (pv 0) (pv 1) rfl))) (λ_ _ _ _ _=>(pv 0))) (@bY _ _ _ _ (@aa _ _ _ _ _ (pv 4) ag rfl)) (aU _))))) cU aO))) (λ_=>rfl))
  (@au _ _ _ (@aH _ _ _ _ (aN cLIsWood hr (by decide) rfl (@aa _ _ _ _ _ (aN cLCut hr (by decide) rfl (@aa _ _ _ _ _ (pv 0) (@aa _ _ _ _ _ (pv 3) ag rfl) rfl)) ag rfl)))))))),?_⟩
 have lk:ks.length<=200:=by have:=R.sub.length_le;rw[BK] at this;lia
 have rK:(ks.map (·.2.1)).Pairwise (· < ·):=rs.sublist R.sub
 have itK:∀{i:Nat} {x:V},(ks.map λk=>V.ref k.1)[i]? = some x->∃k,ks[i]? = some k/\x = .ref k.1:=λ{i x} e=>by
  rw[B7] at e
  cases z:ks[i]? with
  | none=>rw[z] at e;cases e
  | some k=>rw[z] at e;exact ⟨k,rfl,(Cw e).symm⟩
 refine ⟨_,rfl,.ref l, "list",_,true,rfl,.lst el,rfl,_,rfl,bT ?_⟩
 refine ⟨_,rfl,l,rfl,⟨_,SqL.of el⟩,bV (xs:=ks.map λk =>.ref k.1) (λi ys H'=>H'=H/\ys=(CG i true).map V.bl) ⟨rfl,rfl⟩ (by rw[BK];exact small (by lia)) (λi ys H' _ z=>by rw[z.1];exact SqL.of el) ?_ ?_⟩
 ·rintro i x ys H3 hx hy ⟨eH,rfl⟩ R1 R0 r1 r0
  obtain ⟨k,ek,rfl⟩:=itK hx
  have hk:=(R.row k (BV ek)).1
  rw[<- eH] at hk
  refine bQ ⟨_,rfl,.ref k.1, "tuple",_,true,rfl,.tup hk,rfl,_,rfl,bQ ⟨_,rfl,k.1,_,rfl,.inr (SqT.of hk),rfl,?_⟩⟩
  have e2:decide (V.int (([V.int k.2.1,V.ref k.2.2.1].length:Nat):Int)=V.int 2)=true:=decide_eq_true rfl
  rw[e2]
  exact r1 _ _ ⟨eH,by rw[List.replicate_succ',B5];rfl⟩
 rintro ys H3 hy ⟨eH,rfl⟩ l1 hl1
 rw[eH] at hl1 ⊢
 rw[BK]
 have s1:=af hl1 (.lst ((CG ks.length true).map V.bl))
 have el1:upd H l1 (.lst ((CG ks.length true).map V.bl)) l1=some (.lst ((CG ks.length true).map V.bl)):=ah
 generalize upd H l1 (.lst ((CG ks.length true).map V.bl))=H1 at s1 el1
 refine ⟨l1,_,rfl,SqL.of el1,?_⟩
 rw[y6]
 refine ⟨_,rfl,bT ?_⟩
 have el0:=el
 have el:=s1 _ _ el
 refine ⟨_,rfl,l,rfl,⟨_,SqL.of el⟩,bV (xs:=ks.map λk =>.ref k.1) (λi ys H'=>H'=H1/\ys=((ks.take i).map (·.2.1)).map V.int) ⟨rfl,rfl⟩ (by rw[BK];exact small (by lia)) (λi ys H' _ z=>by rw[z.1];exact SqL.of el) ?_ ?_⟩
 ·rintro i x ys H3 hx hy ⟨eH,rfl⟩ R1 R0 r1 r0
  obtain ⟨k,ek,rfl⟩:=itK hx
  have hk:=s1 _ _ (R.row k (BV ek)).1
  rw[<- eH] at hk
  refine bQ ⟨_,rfl,k.1,_,0,_,rfl,rfl,SqT.of hk,rfl,r1 _ _ ⟨eH,?_⟩⟩
  rw[Dp,ek,B5,B5];rfl
 rintro ys H3 hy ⟨eH,rfl⟩ kl hkl
 rw[eH] at hkl ⊢
 rw[BK,B9 (BS _)]
 generalize hK:ks.map (·.2.1)=Ks at *
 have lK:Ks.length<=200:=by rw[<- hK,BK];exact lk
 have s2:=s1.trans (af hkl (.lst (Ks.map V.int)))
 have ek2:upd H1 kl (.lst (Ks.map V.int)) kl=some (.lst (Ks.map V.int)):=ah
 generalize upd H1 kl (.lst (Ks.map V.int))=H2 at s2 ek2
 clear el1 s1 eH hy
 refine ⟨_,rfl,dE.mpr ⟨kl,Ks,rfl,.inl ek2,by lia,λH3 s3=>⟨_,rfl,bT ?_⟩⟩⟩
 have ek3:=s3 _ _ ek2
 refine ⟨_,rfl,_,rfl,kl,Ks,rfl,.inl (SqL.of ek3),by lia,λsa us hsa mu nu lu =>?_⟩
 have g4:=af hsa (cQ w sa (us.map V.int))
 have esa:upd H3 sa (cQ w sa (us.map V.int)) sa=some (cQ w sa (us.map V.int)):=ah
 generalize upd H3 sa (cQ w sa (us.map V.int))=H4 at g4 esa
 refine ⟨sa,us,rfl,esa,by lia,λl5 out hl5 po so =>?_⟩
 have ndK:Ks.Nodup:=rK.imp λ{a b} h=>by lia
 have pu:us.Perm Ks:=(Hl nu ndK).mpr mu
 have eo:out=Ks:=(po.trans pu).eq_of_pairwise (λa b _ _ h1 h2=>Int.le_antisymm h1 h2) so (rK.imp λ{a b} h=>Int.le_of_lt h)
 rw[eo]
 have g5:=af hl5 (.lst (Ks.map V.int))
 have s5:=s2.trans (s3.trans (g4.trans g5))
 have ek5:=g5 _ _ (g4 _ _ ek3)
 refine ⟨kl,l5,Ks,Ks,rfl,rfl,SqL.of ek5,SqL.of ah,_,rfl,?_⟩
 rw[decide_eq_true (rfl:Ks=Ks)]
 refine bT ?_
 generalize upd H4 l5 (.lst (Ks.map V.int))=H5 at g5 s5 ek5
 have ep5:=s5 _ _ ep
 refine ⟨_,rfl,kl,rfl,⟨_,SqL.of ek5⟩,bV (xs:=Ks.map V.int) (λi ys H'=>H'=H5/\ys=([]:List Int).map V.int) ⟨rfl,rfl⟩ (by rw[BK];exact small (by lia)) (λi ys H' _ z=>by rw[z.1];exact SqL.of ek5) ?_ ?_⟩
 ·rintro i x ys H6 hx hy ⟨eH,rfl⟩ R1 R0 r1 r0
  obtain ⟨v,ev,rfl⟩:=gc hx
  refine ⟨_,rfl,_,rfl,pl,_,rfl,.inr (SqT.of (by rw[eH];exact ep5)),rfl,cZ ps,_,rfl,?_⟩
  show if (if true=true then !inV (.int v) (ps.map V.int) else _)=true then _ else _
  rw[if_pos rfl,dh,decide_eq_true (R.sub.subset (by rw[hK];exact BV ev))]
  exact bT (r0 _ ⟨eH,rfl⟩)
 rintro ys H6 hy ⟨eH,rfl⟩ l6 hl6
 rw[eH] at hl6 ⊢
 have g6:=af hl6 (.lst (([]:List Int).map V.int))
 have el6:upd H5 l6 (.lst (([]:List Int).map V.int)) l6=some (.lst (([]:List Int).map V.int)):=ah
 generalize upd H5 l6 (.lst (([]:List Int).map V.int))=H6 at g6 el6
 refine ⟨(by show 0<=B4;decide),λl7 hl7 =>?_⟩
 have g7:=af hl7 (.lst [])
 have s7:=s5.trans (g6.trans g7)
 have ek7:=g7 _ _ (g6 _ _ ek5)
 refine ⟨l6,l7,[],[],rfl,rfl,SqL.of (g7 _ _ el6),SqL.of ah,_,rfl,?_⟩
 rw[decide_eq_true (rfl:([]:List Int)=[])]
 refine bT ?_
 generalize upd H6 l7 (.lst [])=H7 at g7 s7 ek7
 have el7:=s7 _ _ (show H l=some (.lst (ks.map λk =>.ref k.1)) from el0)
 let W0:Nat->St->Hp->Prop:=λi σ H'=>(∃c4 c5,σ=[some (.ref b),some (.ref pl),some (.ref l),some (.ref kl),c4,c5])/\aD H7 H'
 refine ⟨_,rfl,l,rfl,⟨_,SqL.of el7⟩,dJ (xs:=ks.map λk =>.ref k.1) W0 ⟨⟨_,_,rfl⟩,aD.refl _⟩ (λi σ H' _ h=>SqL.of (h.2 _ _ el7)) ?_ ?_⟩
 ·rintro i x σ Ha hx ⟨⟨c4,c5,rfl⟩,sa⟩
  obtain ⟨k,ek,rfl⟩:=itK hx
  obtain ⟨h1,h2,hR,hC,hp,ho⟩:=R.row k (BV ek)
  have s7a:=s7.trans sa
  have lF:=cB hR.nd hR.rng
  obtain ⟨y,p,z,F⟩:=k
  simp only at h1 h2 hR hC hp ho lF
  refine ⟨y,_,rfl,SqT.of (s7a _ _ h1),rfl,_,_,rfl,_,_,rfl,rfl,?_⟩
  refine ⟨_,rfl,.ref z, "tuple",_,true,rfl,.tup (s7a _ _ h2),rfl,_,rfl,bT ?_⟩
  refine ⟨_,rfl,dE.mpr ⟨z,F,rfl,.inr (s7a _ _ h2),by lia,λHb sb=>⟨_,rfl,bT ?_⟩⟩⟩
  have s7b:=s7a.trans sb
  refine ⟨_,rfl,_,rfl,i7.mpr ⟨b,z,m,ts,F,rfl,W.same s7b,m2,s7b _ _ h2,hR,λHc sc=>⟨_,rfl,bT ?_⟩⟩⟩
  have s7c:=s7b.trans sc
  refine ⟨_,rfl,_,rfl,gh.mpr ⟨z,F,rfl,s7c _ _ h2,hC,by lia,λz2 Hd sd2 ez2=>⟨z,z2,F,F,rfl,rfl,SqT.of (sd2 _ _ (s7c _ _ h2)),SqT.of ez2,_,rfl,?_⟩⟩⟩
  rw[decide_eq_true (rfl:F=F)]
  refine bT ?_
  have s7d:=s7c.trans sd2
  have sad:=sb.trans (sc.trans sd2)
  have hz:=s7d _ _ h2
  have ekd:=sad _ _ (sa _ _ ek7)
  refine ⟨_,rfl,z,rfl,⟨_,SqT.of hz⟩,cF (xs:=F.map V.int) (λi ys H'=>H'=Hd/\ys=((F.take i).filter λv=>decide (v∈Ks)).map V.int) ⟨rfl,rfl⟩ (by rw[BK];exact small (by lia)) (λi ys H' _ z=>by rw[z.1];exact SqT.of hz) ?_ ?_⟩
  ·rintro j x ys He hx hy ⟨eH,rfl⟩ R1 R0 r1 r0
   obtain ⟨v,ev,rfl⟩:=gc hx
   refine ⟨_,rfl,_,rfl,kl,_,rfl,.inl (SqL.of (by rw[eH];exact ekd)),rfl,cZ Ks,_,rfl,?_⟩
   show if (if false=true then _ else inV (.int v) (Ks.map V.int))=true then _ else _
   rw[if_neg B6,dh]
   by_cases d:v∈Ks
   ·rw[decide_eq_true d]
    exact bQ ⟨_,rfl,r1 _ _ ⟨eH,by rw[cK ev,if_pos (by simp[d])]⟩⟩
   ·rw[decide_eq_false d]
    exact bT (r0 _ ⟨eH,by rw[cK ev,if_neg (by simp[d]),CK]⟩)
  rintro ys He hy ⟨eH,rfl⟩ l8 hl8
  rw[eH] at hl8 ⊢
  have pK:p∈Ks:=by rw[<- hK];exact Dw (f:=λk:Addr×Int×Addr×List Int=>k.2.1) (BV ek)
  rw[BK,B9 (BS _),sj (p:=p) (q:=λv=>decide (v∈Ks)) hR.nd hp λv hv=>(by
   rw[decide_eq_true_iff]
   exact ⟨λh=>ho v hv (by rw[hK];exact h),λh=>by rw[h];exact pK⟩)]
  have g8:=af hl8 (.lst (([p]:List Int).map V.int))
  have el8:upd Hd l8 (.lst (([p]:List Int).map V.int)) l8=some (.lst (([p]:List Int).map V.int)):=ah
  generalize upd Hd l8 (.lst (([p]:List Int).map V.int))=Hf at g8 el8
  refine ⟨_,rfl,(by show 1<=B4;decide),λl9 hl9 =>?_⟩
  have g9:=af hl9 (.lst [.int p])
  refine ⟨l8,l9,[p],[p],rfl,rfl,SqL.of (g9 _ _ el8),SqL.of ah,_,rfl,?_⟩
  rw[decide_eq_true (rfl:[p]=[p])]
  exact bT ⟨⟨_,_,rfl⟩,sa.trans (sad.trans (g8.trans g9))⟩
 ·rintro σ Ha ⟨⟨c4,c5,rfl⟩,sa⟩
  have s7a:=s7.trans sa
  refine ⟨_,rfl,_,rfl,cJ.mpr ⟨b,kl,m,ts,Ks,rfl,W.same s7a,.inl (sa _ _ ek7),λz us Hb sb Wz eu =>?_⟩⟩
  refine fz.mpr ⟨z,m,us,rfl,Wz,m2,λHc bb sc hb =>?_⟩
  rw[eu] at hb
  have:bb=true:=hb.mpr (by rw[<- hK];exact R.wd)
  subst this
  exact q _ (s7a.trans (sb.trans sc))
end
open PySem L2
def qP (K:BP):Sp:=λvs H Q _=>∃(a:Addr) (ns:List Int),vs=[.ref a]/\SqL K H a (ns.map V.int)/\ns.length<=63/\∀H',Q (.bl true) H'
theorem nD {K:BP}{vs:List V}{H:Hp}{Q:VK}{E:XK}:qP K vs H Q E↔∃(a:Addr) (ns:List Int),vs=[.ref a]/\SqL K H a (ns.map V.int)/\ns.length<=63/\∀H',Q (.bl true) H':=Eg
theorem xO:∀m:Nat,(rgI m).Pairwise (· < ·):=λm=>by
 unfold rgI
 rw[Dh]
 exact (Gz (n:=m)).imp λ{a b} h=>by lia
section
variable  {P:Ca}{w:CJ}{K:BP}{mg:Str->Option BM}{base:Heap}{f T:Addr}{fd:De}
theorem jv:aK ["script", "web", "number", "cell", "places", "rows"] ["script"] (aA qk):=⟨rfl,rfl,rfl,by decide +kernel,rfl,by decide +kernel,by decide +kernel⟩
theorem BI (F:Fun K "law" "law" qk f fd)(B:Blt mg)(cLAnyWeb:Cal P w K mg base 2 "_law_any_web" ["number"] fV)(cLDeal:Cal P w K mg base 1 "_law_deal" ["cell", "salt"] oB)(cLSome:Cal P w K mg base 1 "_law_some" ["number", "web"] oU)(cThinnedCut:Cal P w K mg base 7 "thinned_cut" ["web", "places"] lD)(cLCell:Cal P w K mg base 1 "_law_cell" ["script", "k"] (oz K))(cLIsWood:Cal P w K mg base 1 "_law_is_wood" ["web"] lq)(cLRowsRight:Cal P w K mg base 3 "_law_rows_right" ["web", "places", "rows"] zg)(cLCut:Cal P w K mg base 1 "_law_cut" ["web", "places"] ju)(cLRefused:Cal P w K mg base 8 "_law_refused" ["web", "places"] ue):bM P w K mg base CX0 9 f fd ["script"] (qP K):=by
 refine F.ok jv (λvs H Q E h =>?_) (λcdv A outer s H vs Q E hr h =>?_)
 ·obtain ⟨_,_,rfl,_⟩:=nD.mp h
  rfl
 obtain ⟨a,nn,rfl,hS,h63,q⟩:=nD.mp h
 have TA:∃t,PSs (lH CX0 P w K mg base ["script", "web", "number", "cell", "places", "rows"] "law" (aA qk) f cdv A outer s H E).nox ((yI ((bS qk).getD 1 (.Pass ⟨0,0,0,0⟩))).drop 2) t/\∀(D:Ends) (b q2:Addr) (m:Nat) (ts:List (Addr×List Int)) (R:List Int) (H':Hp) (c2 c3 c5:Option V),Wb H' b m ts->m<=40->H' q2=some (.tup (R.map V.int))->R.Pairwise (· < ·)->(∀v∈R,0<=v/\v<m)->(∀σ' H'',(∃c2 c3 c4 c5,σ'=[some (.ref a),some (.ref b),c2,c3,c4,c5])->aD H' H''->D.nx σ' H''/\D.ct σ' H'')->t D [some (.ref a),some (.ref b),c2,c3,some (.ref q2),c5] H':=by
  refine ⟨_,(@ai _ _ _ _ _ (@bE _ _ _ _ _ _ _ _ (dr (cN (aN cLIsWood hr (by decide) rfl (@aa _ _ _ _ _ (aN cLCut hr (by decide) rfl (@aa _ _ _ _ _ (pv 1) (@aa _ _ _ _ _ (pv 4) ag rfl) rfl)) ag rfl)))) (@ai _ _ _ _ _ (@bE _ _ _ _ _ _ _ _ (dr (cN (aN cLRefused hr (by decide) rfl (@aa _ _ _ _ _ (pv 1) (@aa _ _ _ _ _ (pv 4) ag rfl) rfl)))) cU aO)
    (@au _ _ _ oZ)) aO)
   (@ai _ _ _ _ _ (@aM _ _ 5 _ _ _ _ jv.nd rfl (Or.inl rfl) (aN cThinnedCut hr (by decide) rfl (@aa _ _ _ _ _ (pv 1) (@aa _ _ _ _ _ (pv 4) ag rfl) rfl)) rfl (by first | exact .inl rfl | exact .inr rfl | assumption))
   (@ai _ _ _ _ _ (@bE _ _ _ _ _ _ _ _ (dr (cN (aN cLRowsRight hr (by decide) rfl (@aa _ _ _ _ _ (pv 1) (@aa _ _ _ _ _ (pv 4) (@aa _ _ _ _ _ (pv 5) ag rfl) rfl) rfl)))) cU aO)
   (@ai _ _ _ _ _ (bN (cS Cr CU CV bL (pv 5) (@aa _ _ _ _ _ (@bp _ _ _ _ _ (@aa _ _ _ _ _ ak (@aa _ _ _ _ _ (@bp _ _ _ _ _ ag) ag rfl) rfl)) ag rfl)))
   (@au _ _ _ (@bE _ _ _ _ _ _ _ _ (dr (cN (aN cLRowsRight hr (by decide) rfl (@aa _ _ _ _ _ (pv 1) (@aa _ _ _ _ _ (pv 4) (@aa _ _ _ _ _ (aN cThinnedCut hr (by decide) rfl (@aa _ _ _ _ _ (pv 1) (@aa _ _ _ _ _ (pv 4) ag rfl) rfl)) ag rfl) rfl) rfl)))) cU aO)))))),?_⟩
  intro D b q2 m ts R H' c2 c3 c5 W m40 eq rs rg nx
  have nR:R.Nodup:=rs.imp λ{a b} h=>by lia
  have lR:=cB nR rg
  refine ⟨_,rfl,_,rfl,cJ.mpr ⟨b,q2,m,ts,R,rfl,W,.inr eq,λcw us H1 s1 Wc eu =>?_⟩⟩
  refine fz.mpr ⟨cw,m,us,rfl,Wc,by lia,λH2 cl s2 hcl =>?_⟩
  rw[eu] at hcl
  have s12:=s1.trans s2
  cases cl with
  | false =>
   have nw:¬ di ((ts.map (·.2)).filter (off R)):=λw=>B6 (hcl.mpr w)
   refine ⟨_,rfl,bQ ⟨_,rfl,_,rfl,ja.mpr ⟨b,q2,m,ts,R,rfl,W.same s12,by lia,s12 _ _ eq,rs,by lia,rg,nw,λH3 s3=>⟨_,rfl,bT ?_⟩⟩⟩⟩
   exact (nx _ _ ⟨_,_,_,_,rfl⟩ (s12.trans s3)).2
  | true =>
   have w:=hcl.mp rfl
   refine ⟨_,rfl,bT ⟨_,rfl,_,rfl,hW.mpr ⟨b,q2,m,ts,R,rfl,W.same s12,by lia,s12 _ _ eq,rs,by lia,rg,w,λl ks H3 hl s3 el Rk =>?_⟩⟩⟩
   have s13:=s12.trans s3
   refine ⟨_,rfl,_,rfl,_,rfl,iJ.mpr ⟨b,q2,l,m,ts,R,ks,rfl,W.same s13,by lia,s13 _ _ eq,rs,by lia,el,Rk,λH4 s4=>⟨_,rfl,bT ?_⟩⟩⟩
   have s14:=s13.trans s4
   have el4:=s4 _ _ el
   have hl0:H' l=none:=s12.free hl
   have lk:ks.length<=200:=by have:=Rk.sub.length_le;rw[BK] at this;lia
   refine ⟨_,rfl,.inl ⟨rfl,_,SqL.of el4⟩,(by show 0<=B4;decide),λe he=>⟨(by show 2<=B4;decide),λp hp =>?_⟩⟩
   have g5:=(af he (.tup [])).trans (af hp (.tup [.int 0,.ref e]))
   have el5:=g5 _ _ el4
   generalize upd (upd H4 e (.tup [])) p (.tup [.int 0,.ref e])=H5 at g5 el5
   refine ⟨l,_,_,rfl,rfl,el5,by rw[BK];exact bA (by lia),?_⟩
   have s15:=aD.cE (s14.trans g5) hl0 (.lst ((ks.map λk =>.ref k.1)++[.ref p]))
   generalize upd H5 l (.lst ((ks.map λk =>.ref k.1)++[.ref p]))=H6 at s15
   refine ⟨_,rfl,_,rfl,_,rfl,_,rfl,hW.mpr ⟨b,q2,m,ts,R,rfl,W.same s15,by lia,s15 _ _ eq,rs,by lia,rg,w,λl2 ks2 H7 hl2 s7 el7 Rk2 =>?_⟩⟩
   have s17:=s15.trans s7
   refine iJ.mpr ⟨b,q2,l2,m,ts,R,ks2,rfl,W.same s17,by lia,s17 _ _ eq,rs,by lia,el7,Rk2,λH8 s8=>⟨_,rfl,bT ?_⟩⟩
   exact (nx _ _ ⟨_,_,_,_,rfl⟩ (s17.trans s8)).1
 obtain ⟨tA,pA,gA⟩:=TA
 refine ⟨_,(@ai _ _ _ _ _ (@bD _ _ _ _ _ _ (aN cLAnyWeb hr (by decide) rfl (@aa _ _ _ _ _ (aN cLDeal hr (by decide) rfl (@aa _ _ _ _ _ (aN cLCell hr (by decide) rfl (@aa _ _ _ _ _ (pv 0) (@aa _ _ _ _ _ ak ag rfl) rfl)) (@aa _ _ _ _ _ ak ag rfl) rfl)) ag rfl)) (bo rfl (az (aq (i:=1) jv.nd rfl (Or.inl rfl)) (az (aq (i:=2) jv.nd rfl (Or.inl rfl)) aT))) rfl rfl rfl)
  (@ai _ _ _ _ _ (@bP _ _ _ _ _ _ _ _ CL rfl (@bO _ _ _ _ (@aQ _ _ _ _ _ _ _ _ nN (@bY _ _ _ _ (@aa _ _ _ _ _ ak ag rfl)) (df sH (pv 0) (dy ak) (dy (@aS _ _ _ _ _ _ _ cC (@bY _ _ _ _ (@aa _ _ _ _ _ ak (@aa _ _ _ _ _ ak ag rfl) rfl)) (aG iM rfl B.b_int oy (@aa _ _ _ _ _ (gm zi (@aS _ _ _ _ _ _ _ aV (pv 1) ak (λ_ _=>rfl)) ak (aU _)) ag rfl)) (λ_ _=>rfl)))))) (aq (i:=3) jv.nd rfl (Or.inl rfl))
   (@ai _ _ _ _ _ (@bD _ _ _ _ _ _ (aN cLSome hr (by decide) rfl (@aa _ _ _ _ _ (aN cLDeal hr (by decide) rfl (@aa _ _ _ _ _ (pv 3) (@aa _ _ _ _ _ ak ag rfl) rfl)) (@aa _ _ _ _ _ (pv 1) ag rfl) rfl)) (bo rfl (az (aq (i:=4) jv.nd rfl (Or.inl rfl)) (az (aq (i:=2) jv.nd rfl (Or.inl rfl)) aT))) rfl rfl rfl)
   (@ai _ _ _ _ _ (@bE _ _ _ _ _ _ _ _ (aJ du (@aQ _ _ _ _ _ _ _ _ eV (pv 2) ak) ak (aU _)) (@au _ _ _ (@aM _ _ 4 _ _ _ _ jv.nd rfl (Or.inl rfl) (aG (pW hr.hd) rfl B.b_tuple cA (@aa _ _ _ _ _ (aG jm rfl B.b_range ql (@aa _ _ _ _ _ (@aS _ _ _ _ _ _ _ aV (pv 1) ak (λ_ _=>rfl)) ag rfl)) ag rfl)) rfl (by first | exact .inl rfl | exact .inr rfl | assumption))) aO)
   pA)) (λ_=>rfl))
  (@au _ _ _ (@aH _ _ _ _ gF)))),?_⟩
 refine ⟨_,rfl,gP.mpr ⟨a,nn,0,rfl,hS,by decide,λc0 =>?_⟩⟩
 refine fq.mpr ⟨c0,1,rfl,by decide,by decide,λn n0=>cf.mpr ⟨n,rfl,n0,λp b n' mI ts H1 s1 ep W mI0 m40 n'0 =>?_⟩⟩
 obtain ⟨m,rfl⟩:∃m:Nat,mI=m:=⟨mI.toNat,by lia⟩
 obtain ⟨t,e1,e2⟩:=W.at'
 refine ⟨p,_,rfl,SqT.of ep,rfl,_,_,rfl,_,_,rfl,rfl,(by show 1<=B4;decide),λl0 hl0 =>?_⟩
 have g2:=af hl0 (.lst [.int 0])
 have el0:upd H1 l0 (.lst [.int 0]) l0=some (.lst [.int 0]):=ah
 generalize upd H1 l0 (.lst [.int 0])=H2 at g2 el0
 refine ⟨_,rfl,1,rfl,(by show 2<=B4;decide),λl1 hl1 =>?_⟩
 have g3:=af hl1 (.lst [.int 11,.int 3])
 have el1:upd H2 l1 (.lst [.int 11,.int 3]) l1=some (.lst [.int 11,.int 3]):=ah
 generalize upd H2 l1 (.lst [.int 11,.int 3])=H3 at g3 el1
 have g13:=g2.trans g3
 obtain ⟨v,ev⟩:∃v:Int,atI [V.int 11,V.int 3] (if decide (7<(m:Int))=true then 1 else 0)=some (.int v):=by
  cases decide (7<(m:Int)) <;> exact ⟨_,rfl⟩
 refine ⟨_,rfl,b,_,0,_,rfl,rfl,SqT.of (g13 _ _ e1),rfl,_,_,rfl,rfl,.inr ⟨_,rfl,l1,_,_,_,rfl,rfl,SqL.of el1,ev,v,rfl,a,_,rfl,(s1.trans g13).seq hS,λl2 hl2 =>?_⟩⟩
 obtain ⟨cs,ecs,lcs⟩:∃cs:List Int,fE (nn.map V.int) (some 1) (some v)=cs.map V.int/\cs.length<=63:=by
  unfold fE
  refine ⟨(nn.drop _).take _,(by rw[G3,FG]),?_⟩
  rw[Di,Dt];lia
 rw[ecs]
 have g4:=af hl2 (.lst (cs.map V.int))
 have el2:upd H3 l2 (.lst (cs.map V.int)) l2=some (.lst (cs.map V.int)):=ah
 generalize upd H3 l2 (.lst (cs.map V.int))=H4 at g4 el2
 refine ⟨l0,l2,_,_,rfl,rfl,SqL.of (g4 _ _ (g3 _ _ el0)),SqL.of el2,by rw[BK];exact small (by show 1+_<=_;lia),λS hS =>?_⟩
 rw[show ([V.int 0]++cs.map V.int:List V)=(0 :: cs).map V.int from rfl]
 have g5:=af hS (.lst ((0 :: cs).map V.int))
 have eS:upd H4 S (.lst ((0 :: cs).map V.int)) S=some (.lst ((0 :: cs).map V.int)):=ah
 have s5:=g13.trans (g4.trans g5)
 generalize upd H4 S (.lst ((0 :: cs).map V.int))=H5 at g5 eS s5
 refine ⟨S,rfl,⟨_,SqL.of eS⟩,dJ (xs:=(0 :: cs).map V.int) (λi σ H'=>(∃c2 c3 c4 c5,σ=[some (.ref a),some (.ref b),c2,c3,c4,c5])/\aD H5 H') ⟨⟨_,_,_,_,rfl⟩,aD.refl _⟩ (λi σ H' _ z=>SqL.of (z.2 _ _ eS)) ?_ (λσ H' _=>q _)⟩
 rintro i x σ H6 hx ⟨⟨c2,c3,c4,c5,rfl⟩,s6⟩
 obtain ⟨cell,ec,rfl⟩:=gc hx
 have W6:=W.same (s5.trans s6)
 refine ⟨_,rfl,fq.mpr ⟨cell,2,rfl,by decide,by decide,λn2 n20=>⟨_,rfl,hJ.mpr ⟨n2,b,m,ts,rfl,n20,W6,by lia,λp2 q2 n3 R H7 s7 ep2 eq2 rR nR =>?_⟩⟩⟩⟩
 have W7:=W6.same s7
 refine ⟨p2,_,rfl,SqT.of ep2,rfl,_,_,rfl,_,_,rfl,rfl,?_⟩
 refine ⟨_,rfl,_,_,rfl,rfl,(by show (0:Int)<3;decide),rfl,_,rfl,gL (λz =>?_) λz =>?_⟩
 ·obtain ⟨t7,e71,e72⟩:=W7.at'
  refine ⟨_,rfl,b,_,0,_,rfl,rfl,SqT.of e71,rfl,(m:Int),rfl,λa0 ha0 =>?_⟩
  have g8:=af ha0 (.rng 0 (m:Int))
  have ea0:upd H7 a0 (.rng 0 (m:Int)) a0=some (.rng 0 (m:Int)):=ah
  generalize upd H7 a0 (.rng 0 (m:Int))=H8 at g8 ea0
  refine ⟨a0,m,rfl,ea0,by lia,λl9 hl9 =>?_⟩
  have em9:(Dl m).map (λi:Nat=>V.int (i:Int))=(rgI m).map V.int:=by unfold rgI;rw[GK];rfl
  rw[em9]
  have g9:=g8.trans (af hl9 (.tup ((rgI m).map V.int)))
  exact gA _ b l9 m ts (rgI m) _ _ _ _ (W7.same g9) (by lia) ah (xO m) (λv hv=>iB.mp hv) λσ' H10 hσ s10=>⟨⟨hσ,s6.trans (s7.trans (g9.trans s10))⟩,⟨hσ,s6.trans (s7.trans (g9.trans s10))⟩⟩
 ·exact gA _ b q2 m ts R _ _ _ _ W7 (by lia) eq2 nR rR λσ' H10 hσ s10=>⟨⟨hσ,s6.trans (s7.trans s10)⟩,⟨hσ,s6.trans (s7.trans s10)⟩⟩
end
open PySem L2
theorem all_mk {l:PySem.W.OpenLaw}{w:CJ}{K:BP}{h:Heap}{mg:Str->Option BM}{fa:Addr}(X:K.In h)(G:h.Ns Cz mg)(hfa:mg "law" = some (.ref fa))
  (h1:b7 K "tie_of" wV) (h2:b7 K "near_lists" kK) (h3:b7 K "tied_times" kM) (h4:b7 K "cut_web" tF) (h5:b7 K "reached_from" iz) (h6:b7 K "hanging_parts" gI) (h7:b7 K "spare_ties" kN) (h8:b7 K "ring_form" iV) (h9:b7 K "way_about" eI) (h10:b7 K "ring_along" gN) (h11:b7 K "shortest_of" fQ) (h12:b7 K "least_along" fR) (h13:b7 K "ring_at" ow) (h14:b7 K "clears_web" gO) (h15:b7 K "without_place" d9) (h16:b7 K "own_ring" kO) (h17:b7 K "thinned_cut" fS) (h18:b7 K "_law_cell" wW) (h19:b7 K "_law_deal" wX) (h20:b7 K "_law_web" zu) (h21:b7 K "_law_wide" wY) (h22:b7 K "_law_dense" tG) (h23:b7 K "_law_any_web" kP) (h24:b7 K "_law_times" ox) (h25:b7 K "_law_is_ring" kQ) (h26:b7 K "_law_form" rW) (h27:b7 K "_law_is_wood" kR) (h28:b7 K "_law_cut" wZ) (h29:b7 K "_law_some" rX) (h30:b7 K "_law_wholes" kS) (h31:b7 K "_law_refused" iW) (h32:b7 K "_law_rows_right" fT) (h33:b7 K "law" qk)
  (y_all:CZ K Cz "all" = some none) (y_bool:CZ K Cz "bool" = some none) (y_divmod:CZ K Cz "divmod" = some none) (y_int:CZ K Cz "int" = some none) (y_isinstance:CZ K Cz "isinstance" = some none) (y_len:CZ K Cz "len" = some none) (y_list:CZ K Cz "list" = some none) (y_max:CZ K Cz "max" = some none) (y_min:CZ K Cz "min" = some none) (y_range:CZ K Cz "range" = some none) (y_reversed:CZ K Cz "reversed" = some none) (y_set:CZ K Cz "set" = some none) (y_sorted:CZ K Cz "sorted" = some none) (y_tuple:CZ K Cz "tuple" = some none) (y_ValueError:CZ K Cz "ValueError" = some none)
  {c_WebError:Addr} (e_WebError:CZ K Cz "WebError" = some (some (.ref c_WebError)))
  {c_BadWeb:Addr} (e_BadWeb:CZ K Cz "BadWeb" = some (some (.ref c_BadWeb)))
  {c_NoStep:Addr} (e_NoStep:CZ K Cz "NoStep" = some (some (.ref c_NoStep)))
  {c_NoText:Addr} (e_NoText:CZ K Cz "NoText" = some (some (.ref c_NoText)))
  {c_TooMany:Addr} (e_TooMany:CZ K Cz "TooMany" = some (some (.ref c_TooMany)))
  {c_NoTie:Addr} (e_NoTie:CZ K Cz "NoTie" = some (some (.ref c_NoTie)))
  {c_NoRing:Addr} (e_NoRing:CZ K Cz "NoRing" = some (some (.ref c_NoRing)))
  {c_NotClear:Addr} (e_NotClear:CZ K Cz "NotClear" = some (some (.ref c_NotClear)))
  {c_NotThree:Addr} (e_NotThree:CZ K Cz "NotThree" = some (some (.ref c_NotThree)))
  {c_BadBoard:Addr} (e_BadBoard:CZ K Cz "BadBoard" = some (some (.ref c_BadBoard)))
  {c_NoRow:Addr} (e_NoRow:CZ K Cz "NoRow" = some (some (.ref c_NoRow)))
  {c_NoBack:Addr} (e_NoBack:CZ K Cz "NoBack" = some (some (.ref c_NoBack)))
  (n_ex:PySem.W.excIn K c_NotClear wN "ValueError.__new__" = true)
  (n_ga:PySem.W.findIn K (.ref c_NotClear) "__getattribute__" = some (some (.builtin "BaseException.__getattribute__")))
  (n_gt:PySem.W.findIn K (.ref c_NotClear) "__getattr__" = some none)
  (n_cl:PySem.W.findIn K (.ref c_NotClear) "__class__" = some (some (.builtin "object.__class__")))
  (n_mo:PySem.W.subIn K (.ref c_NotClear) (.type "object")=some true)
  (n_sb:PySem.W.subIn K (.ref c_NotClear) (.type "BaseException")=some true)
  (n_it:(PySem.W.clsIn K c_NotClear).isSome=true)
  (n_m:PySem.W.exmOne K (.ref c_NotClear) (.ref c_WebError)=some true)
  (n_v:PySem.W.kitOne K (.ref c_NotClear) (.type "ValueError")=some true)
  (n_odd:PySem.W.kitAny K (.ref c_NotClear) [.ref c_BadBoard,.ref c_BadWeb,.ref c_NoBack,.ref c_NoRing,.ref c_NoRow,.ref c_NoStep,.ref c_NoText,.ref c_NoTie,.ref c_NotThree,.ref c_TooMany]=some false)
  (n_n:PySem.W.kitOne K (.ref c_NotClear) (.ref c_NotClear)=some true)
  : ∃fd:De,(∀(s:BQ) (v:BM),BindsTo s fd ⟨[v],[]⟩ [("script",v)])/\∀base:Heap,K.In base->base.Ns Cz mg->bM l.prog w K mg base CX0 9 fa fd ["script"] (qP K):=by
 obtain ⟨fl,od,an,sl,oc,kV,dc,pm,cd,ct,al,ll,cl,kl⟩:=h33
 have e:=hfa.symm.trans (DP X G al)
 cases e
 have F33:=qY ll cl kl
 have z_all:=Df X G y_all
 have z_bool:=Df X G y_bool
 have z_divmod:=Df X G y_divmod
 have z_int:=Df X G y_int
 have z_isinstance:=Df X G y_isinstance
 have z_len:=Df X G y_len
 have z_list:=Df X G y_list
 have z_max:=Df X G y_max
 have z_min:=Df X G y_min
 have z_range:=Df X G y_range
 have z_reversed:=Df X G y_reversed
 have z_set:=Df X G y_set
 have z_sorted:=Df X G y_sorted
 have z_tuple:=Df X G y_tuple
 have z_ValueError:=Df X G y_ValueError
 refine ⟨PySem.W.fnOf "law" "law" (dA qk) (bS qk) (aA qk) .none kV dc pm an cd ct,λs v =>.of_eq rfl,λbase kb nb =>?_⟩
 have B:Blt mg:=⟨z_all,z_bool,z_divmod,z_int,z_isinstance,z_len,z_list,z_max,z_min,z_range,z_reversed,z_set,z_sorted,z_tuple,z_ValueError⟩
 have x_WebError:=DP X G e_WebError
 have x_BadWeb:=DP X G e_BadWeb
 have x_NoStep:=DP X G e_NoStep
 have x_NoText:=DP X G e_NoText
 have x_TooMany:=DP X G e_TooMany
 have x_NoTie:=DP X G e_NoTie
 have x_NoRing:=DP X G e_NoRing
 have x_NotClear:=DP X G e_NotClear
 have x_NotThree:=DP X G e_NotThree
 have x_BadBoard:=DP X G e_BadBoard
 have x_NoRow:=DP X G e_NoRow
 have x_NoBack:=DP X G e_NoBack
 have Z:Exs K mg c_WebError c_BadWeb c_NoStep c_NoText c_TooMany c_NoTie c_NoRing c_NotClear c_NotThree c_BadBoard c_NoRow c_NoBack:=⟨x_WebError,x_BadWeb,x_NoStep,x_NoText,x_TooMany,x_NoTie,x_NoRing,x_NotClear,x_NotThree,x_BadBoard,x_NoRow,x_NoBack,n_ex,⟨n_ga,n_gt,n_cl,n_mo,n_sb,n_it⟩,n_m,n_v,n_odd,n_n⟩
 have cLWeb:=h20.cal l.prog w base X G (λF=>AH F B) λ_ _ _ _ _ _ us hl=>match us,hl with | [_,_],_=>rfl
 have cLWide:=h21.cal l.prog w base X G (λF=>AI F B) λ_ _ _ _ _ _ us hl=>match us,hl with | [_],_=>rfl
 have cLDense:=h22.cal l.prog w base X G (λF=>yQ F B) λ_ _ _ _ _ _ us hl=>match us,hl with | [_],_=>rfl
 have cLAnyWeb:=h23.cal l.prog w base X G (λF=>vy F B cLWeb cLWide cLDense) λ_ _ _ _ _ _ us hl=>match us,hl with | [_],_=>rfl
 have cLDeal:=h19.cal l.prog w base X G (λF=>AF F B) λ_ _ _ _ _ _ us hl=>match us,hl with | [_,_],_=>rfl
 have cLSome:=h29.cal l.prog w base X G (λF=>zc F B) λ_ _ _ _ _ _ us hl=>match us,hl with | [_,_],_=>rfl
 have cNearLists:=h2.cal l.prog w base X G (λF=>yR F z_range z_set z_sorted) λ_ _ _ _ _ _ us hl=>match us,hl with | [_],_=>rfl
 have cReachedFrom:=h5.cal l.prog w base X G (λF=>yT F z_sorted) λ_ _ _ _ _ _ us hl=>match us,hl with | [_,_],_=>rfl
 have cHangingParts:=h6.cal l.prog w base X G (λF=>AK F B cNearLists cReachedFrom) λ_ _ _ _ _ _ us hl=>match us,hl with | [_],_=>rfl
 have cSpareTies:=h7.cal l.prog w base X G (λF=>yV F B cHangingParts) λ_ _ _ _ _ _ us hl=>match us,hl with | [_],_=>rfl
 have cCutWeb:=h4.cal l.prog w base X G (λF=>BD F B) λ_ _ _ _ _ _ us hl=>match us,hl with | [_,_],_=>rfl
 have cClearsWeb:=h14.cal l.prog w base X G (λF=>qO F B cSpareTies cCutWeb) λ_ _ _ _ _ _ us hl=>match us,hl with | [_,_],_=>rfl
 have cWithoutPlace:=h15.cal l.prog w base X G (λF=>lC F B) λ_ _ _ _ _ _ us hl=>match us,hl with | [_,_],_=>rfl
 have cShortestOf:=h11.cal l.prog w base X G (λF=>oP F B) λ_ _ _ _ _ _ us hl=>match us,hl with | [_],_=>rfl
 have cRingForm:=h8.cal l.prog w base X G (λF=>sd F B) λ_ _ _ _ _ _ us hl=>match us,hl with | [_],_=>rfl
 have cWayAbout:=h9.cal l.prog w base X G (λF=>sf F B) λ_ _ _ _ _ _ us hl=>match us,hl with | [_,_,_],_=>rfl
 have cTieOf:=h1.cal l.prog w base X G (λF=>BF F z_max z_min) λ_ _ _ _ _ _ us hl=>match us,hl with | [_,_],_=>rfl
 have cTiedTimes:=h3.cal l.prog w base X G (λF=>yY F cTieOf) λ_ _ _ _ _ _ us hl=>match us,hl with | [_,_,_],_=>rfl
 have cRingAlong:=h10.cal l.prog w base X G (λF=>qD F B cWayAbout cTiedTimes) λ_ _ _ _ _ _ us hl=>match us,hl with | [_,_,_],_=>rfl
 have cLeastAlong:=h12.cal l.prog w base X G (λF=>oQ F B cNearLists cShortestOf cRingForm cRingAlong) λ_ _ _ _ _ _ us hl=>match us,hl with | [_,_],_=>rfl
 have cRingAt:=h13.cal l.prog w base X G (λF=>xv F B cLeastAlong) λ_ _ _ _ _ _ us hl=>match us,hl with | [_,_],_=>rfl
 have cOwnRing:=h16.cal l.prog w base X G (λF=>vw F B cRingAt cCutWeb cWithoutPlace) λ_ _ _ _ _ _ us hl=>match us,hl with | [_,_,_],_=>rfl
 have xThin:=h17.calX l.prog w base X G (λF=>oV F B Z cClearsWeb cWithoutPlace cOwnRing) λ_ _ _ _ _ _ us hl=>match us,hl with | [_,_],_=>rfl
 have cThinnedCut:Cal l.prog w K mg base 7 "thinned_cut" ["web", "places"] lD:=xThin.calm vB
 have cLCell:=h18.cal l.prog w base X G (λF=>AE F B) λ_ _ _ _ _ _ us hl=>match us,hl with | [_,_],_=>rfl
 have cLIsWood:=h27.cal l.prog w base X G (λF=>vp F B) λ_ _ _ _ _ _ us hl=>match us,hl with | [_],_=>rfl
 have cLCut:=h28.cal l.prog w base X G (λF=>AR F B) λ_ _ _ _ _ _ us hl=>match us,hl with | [_,_],_=>rfl
 have cLWholes:=h30.cal l.prog w base X G (λF=>vt F B) λ_ _ _ _ _ _ us hl=>match us,hl with | [_],_=>rfl
 have cLTimes:=h24.cal l.prog w base X G (λF=>xF F B) λ_ _ _ _ _ _ us hl=>match us,hl with | [_,_,_],_=>rfl
 have cLIsRing:=h25.cal l.prog w base X G (λF=>vo F B cLTimes) λ_ _ _ _ _ _ us hl=>match us,hl with | [_,_],_=>rfl
 have cLForm:=h26.cal l.prog w base X G (λF=>y8 F B) λ_ _ _ _ _ _ us hl=>match us,hl with | [_],_=>rfl
 have cLRowsRight:=h32.cal l.prog w base X G (λF=>oW F B cLIsWood cLCut cLWholes cLIsRing cLForm) λ_ _ _ _ _ _ us hl=>match us,hl with | [_,_,_],_=>rfl
 have cLRefused:=h31.cal l.prog w base X G (λF=>sk F B Z xThin) λ_ _ _ _ _ _ us hl=>match us,hl with | [_,_],_=>rfl
 exact BI F33 B cLAnyWeb cLDeal cLSome cThinnedCut cLCell cLIsWood cLRowsRight cLCut cLRefused
theorem walk {l:PySem.W.OpenLaw}{q:Ca}{loose:List Str}{XP:(Str->Option BM)->Heap->Prop}{YP:CJ->Heap->Prop}{d:DefRec}{K:Params->BP}(hn:l.most=some 63)(hdf:d.params.defaults=[])
  (hY:∀(w:CJ) (h:Heap),YP w h->(K w.params).In h)
  (F:∀(w:CJ) (mg:Str->Option BM) (fa:Addr) (h:Heap),(K w.params).In h->h.Ns Cz mg->mg d.name=some (.ref fa) →
   ∃fd:De,(∀(s:BQ) (u:BM),BindsTo s fd ⟨[u],[]⟩ [("script",u)])/\∀base:Heap,(K w.params).In base->base.Ns Cz mg->bM l.prog w (K w.params) mg base CX0 9 fa fd ["script"] (qP (K w.params))) :
  PySem.W.WalkO q loose XP YP l.row.toRowW d [] (λf vs=>PySem.call f vs) :=
 L2.x9 (n:=63) (k:=9) (x := "script") (CX:=λ_=>CX0) (sp:=λw=>qP (K w.params)) hn (by decide) hdf ⟨rfl,by decide,by decide⟩ hY F (λ_ _ a ns hl _ hS=>⟨a,ns,rfl,hS,hl,λ_=>rfl⟩) λ_ _ _ _ _ z=>z
end K15
def PySem.W.Fast.tw5728282335849667462:Nat:=0
def PySem.W.Fast.tw15432739481008986418:Nat:=0
def PySem.W.Fast.tw6752739766150792679:Nat:=0
def PySem.W.Fast.tw2366940090596653295:Nat:=0
def PySem.W.Fast.tw15275769970610677086:Nat:=0
def PySem.W.Fast.tw1127628908830444232:Nat:=0
def PySem.W.Fast.tw13031029498898394215:Nat:=0
def PySem.W.Fast.tw15616957611552350399:Nat:=0
def PySem.W.Fast.tw11637911641343043771:Nat:=0
def PySem.W.Fast.tw7325961090965587560:Nat:=0
def PySem.W.Fast.tw17385777593864802197:Nat:=0
def PySem.W.Fast.tw6913686072220876632:Nat:=0
def PySem.W.Fast.tw12126066585314314578:Nat:=0
def PySem.W.Fast.tw6744729927536750019:Nat:=0
def PySem.W.Fast.tw9226846765850223776:Nat:=0
def PySem.W.Fast.tw17675661586058362310:Nat:=0
def PySem.W.Fast.tw13985110051140613800:Nat:=0
def PySem.W.Fast.tw9556301199128335823:Nat:=0
def PySem.W.Fast.tw7906757057319376871:Nat:=0
def PySem.W.Fast.tw11503689810395050903:Nat:=0
def PySem.W.Fast.tw3288510977409610666:Nat:=0
def PySem.W.Fast.tw6154633053599086726:Nat:=0
def PySem.W.Fast.tw15265195862356735291:Nat:=0
def PySem.W.Fast.tw141318501602575294:Nat:=0
def PySem.W.Fast.tw7582785101367678370:Nat:=0
def PySem.W.Fast.tw11356286682338613613:Nat:=0
def PySem.W.Fast.tw1171465958041401337:Nat:=0
def PySem.W.Fast.tw13588088204393686088:Nat:=0
def PySem.W.Fast.tw5215227492563045833:Nat:=0
def PySem.W.Fast.tw1860904591196282026:Nat:=0
def PySem.W.Fast.tw16150381002427704610:Nat:=0
def PySem.W.Fast.tw13185623294204029998:Nat:=0
def PySem.W.Fast.tw18099879292279866443:Nat:=0
def PySem.W.Fast.tw12732077340497208236:Nat:=0
def PySem.W.Fast.tw4288657359924893924:Nat:=0
def PySem.W.Fast.tw17173432888119407443:Nat:=0
def PySem.W.Fast.tw10593982849850119952:Nat:=0
def PySem.W.Fast.tw597562185416901204:Nat:=0
def PySem.W.Fast.tw8309380897116951693:Nat:=0
def PySem.W.Fast.tw5176544076470880229:Nat:=0
def PySem.W.Fast.tw611300405136307629:Nat:=0
def PySem.W.Fast.tw16145379076462089346:Nat:=0
def PySem.W.Fast.tw2892014153307764222:Nat:=0
def PySem.W.Fast.tw3935740551612748379:Nat:=0
def PySem.W.Fast.tw1766094750721996669:Nat:=0
def PySem.W.Fast.tw15499299420625485831:Nat:=0
def PySem.W.Fast.tw12047252094150102247:Nat:=0
def PySem.W.Fast.tw2346221635659054985:Nat:=0
def PySem.W.Fast.tw10589077431529908257:Nat:=0
def PySem.W.Fast.tw8221929183126230351:Nat:=0
def PySem.W.Fast.tw9700423020975645254:Nat:=0
def PySem.W.Fast.tw2282367265241342249:Nat:=0
def PySem.W.Fast.tw7139667186913554170:Nat:=0
def PySem.W.Fast.tw2937737004794421410:Nat:=0
def PySem.W.Fast.tw8560940155587955074:Nat:=0
def PySem.W.Fast.tw16766632852215977479:Nat:=0
def PySem.W.Fast.tw17240768574882039540:Nat:=0
def PySem.W.Fast.tw3171980906593845019:Nat:=0
def PySem.W.Fast.tw6849375282529192883:Nat:=0
def PySem.W.Fast.tw12328000094265359804:Nat:=0
def PySem.W.Fast.tw17120441601112291852:Nat:=0
def PySem.W.Fast.tw6118281415216349771:Nat:=0
def PySem.W.Fast.tw9563975638920796839:Nat:=0
def PySem.W.Fast.tw10627361686986117569:Nat:=0
def PySem.W.Fast.tw9777602681913618600:Nat:=0
def PySem.W.Fast.tw16190648976182969351:Nat:=0
def PySem.W.Fast.tw1543823868291303917:Nat:=0
def PySem.W.Fast.tw2334495278905815606:Nat:=0
def PySem.W.Fast.tw7828275445628301386:Nat:=0
def PySem.W.Fast.tw11903385306671493049:Nat:=0
def PySem.W.Fast.tw14620594789794681725:Nat:=0
def PySem.W.Fast.tw16018182012731307715:Nat:=0
def PySem.W.Fast.tw7618018804678838824:Nat:=0
def PySem.W.Fast.tw17433649651192024626:Nat:=0
def PySem.W.Fast.tw11545998871566672786:Nat:=0
def PySem.W.Fast.tw10610043099913915827:Nat:=0
def PySem.W.Fast.tw9481892321034348388:Nat:=0
def PySem.W.Fast.tw9642556669169237716:Nat:=0
def PySem.W.Fast.tw13637887571122049179:Nat:=0
def PySem.W.Fast.tw14519605097611595437:Nat:=0
def PySem.W.Fast.tw16531520340213081605:Nat:=0
def PySem.W.Fast.tw1045191787902839023:Nat:=0
def PySem.W.Fast.tw1609115865791683056:Nat:=0
def PySem.W.Fast.tw17859502722259534349:Nat:=0
def PySem.W.Fast.tw10108765307321349243:Nat:=0
def PySem.W.Fast.tw3218742944571630910:Nat:=0
def PySem.W.Fast.tw6574444613634035091:Nat:=0
def PySem.W.Fast.tw12426382834327709380:Nat:=0
def PySem.W.Fast.tw18225324391712319545:Nat:=0
def PySem.W.Fast.tw10700631338976569851:Nat:=0
def PySem.W.Fast.tw5669650174323402885:Nat:=0
def PySem.W.Fast.tw2671898313424690249:Nat:=0
def PySem.W.Fast.tw17456207715349263261:Nat:=0
def PySem.W.Fast.tw6401729695962825602:Nat:=0
def PySem.W.Fast.tw12854483302466960330:Nat:=0
def PySem.W.Fast.tw16549651643722429068:Nat:=0
def PySem.W.Fast.tw11840259362619789100:Nat:=0
def PySem.W.Fast.tw1726824688862992336:Nat:=0
def PySem.W.Fast.tw14784581980132847841:Nat:=0
def PySem.W.Fast.tw12333129644343538681:Nat:=0
def PySem.W.Fast.tw15261433365636574538:Nat:=0
def PySem.W.Fast.tw3616423496379694307:Nat:=0
def PySem.W.Fast.tw6250999364338870666:Nat:=0
def PySem.W.Fast.tw16982616385107955617:Nat:=0
def PySem.W.Fast.tw5431777882513062361:Nat:=0
def PySem.W.Fast.tw13781964397167857138:Nat:=0
def PySem.W.Fast.tw625174430584717510:Nat:=0
def PySem.W.Fast.tw9593618665392474893:Nat:=0
def PySem.W.Fast.tw12522216513520217577:Nat:=0
def PySem.W.Fast.tw86707567644626733:Nat:=0
def PySem.W.Fast.tw17674616052500600479:Nat:=0
def PySem.W.Fast.tw7787286869997305312:Nat:=0
def PySem.W.Fast.tw7682990903990800707:Nat:=0
def PySem.W.Fast.tw16106312621063970968:Nat:=0
def PySem.W.Fast.tw1719982548858495011:Nat:=0
def PySem.W.Fast.tw2514884182200704733:Nat:=0
def PySem.W.Fast.tw4294418490467054209:Nat:=0
def PySem.W.Fast.tw13540969681076693094:Nat:=0
def PySem.W.Fast.tw4842986566138964146:Nat:=0
def PySem.W.Fast.tw10861310295706942215:Nat:=0
def PySem.W.Fast.tw10090111130420531030:Nat:=0
def PySem.W.Fast.tw5154642806268239341:Nat:=0
def PySem.W.Fast.tw12763226307385437644:Nat:=0
def PySem.W.Fast.tw302950478953393652:Nat:=0
def PySem.W.Fast.tw7650249597063191963:Nat:=0
def PySem.W.Fast.tw12009270575314421393:Nat:=0
def PySem.W.Fast.tw17325931839103933605:Nat:=0
def PySem.W.Fast.tw13732171278801858910:Nat:=0
def PySem.W.Fast.tw5841778726700138563:Nat:=0
def PySem.W.Fast.tw5335951434212329635:Nat:=0
def PySem.W.Fast.tw15781469804409371245:Nat:=0
def PySem.W.Fast.tw921468679918459127:Nat:=0
def PySem.W.Fast.tw8267540313504368251:Nat:=0
def PySem.W.Fast.tw14150408862585719588:Nat:=0
def PySem.W.Fast.tw17632777164169026790:Nat:=0
def PySem.W.Fast.tw17453168999250204662:Nat:=0
def PySem.W.Fast.tw13507507275284873077:Nat:=0
def PySem.W.Fast.tw18114166370892651571:Nat:=0
def PySem.W.Fast.tw17736651813512766728:Nat:=0
def PySem.W.Fast.tw2421008959190820293:Nat:=0
def PySem.W.Fast.tw14696688962574095453:Nat:=0
def PySem.W.Fast.tw1788216858813081316:Nat:=0
def PySem.W.Fast.tw4529570480212719793:Nat:=0
def PySem.W.Fast.tw6717572709626614201:Nat:=0
def PySem.W.Fast.tw11970691178611391716:Nat:=0
def PySem.W.Fast.tw4833837700439034739:Nat:=0
def PySem.W.Fast.tw3401998671151381170:Nat:=0
def PySem.W.Fast.tw15796274509932285557:Nat:=0
def PySem.W.Fast.tw11523609616305390142:Nat:=0
def PySem.W.Fast.tw12445762913565013433:Nat:=0
def PySem.W.Fast.tw12479819518217415129:Nat:=0
def PySem.W.Fast.tw1455672396609116221:Nat:=0
def PySem.W.Fast.tw16360532319086530448:Nat:=0
def PySem.W.Fast.tw2666166494118866434:Nat:=0
def PySem.W.Fast.tw13258379108867287336:Nat:=0
def PySem.W.Fast.tw8000869241712212699:Nat:=0
def PySem.W.Fast.tw10300413614597718113:Nat:=0
def PySem.W.Fast.tw13748408088890551597:Nat:=0
def PySem.W.Fast.tw14151109077558088553:Nat:=0
def PySem.W.Fast.tw6292625095432249159:Nat:=0
def PySem.W.Fast.tw5356981230930869270:Nat:=0
def PySem.W.Fast.tw9260213931302812582:Nat:=0
def PySem.W.Fast.tw459291453063075995:Nat:=0
def PySem.W.Fast.tw12297276378731176426:Nat:=0
def PySem.W.Fast.tw1428520069663911302:Nat:=0
def PySem.W.Fast.tw474684050944931744:Nat:=0
def PySem.W.Fast.tw4930476535389660581:Nat:=0
def PySem.W.Fast.tw6207227897821580339:Nat:=0
def PySem.W.Fast.tw1437925909394780215:Nat:=0
def PySem.W.Fast.tw13505329131874823490:Nat:=0
def PySem.W.Fast.tw15573774973385756623:Nat:=0
def PySem.W.Fast.tw8105894969759391985:Nat:=0
def PySem.W.Fast.tw6275221557805975452:Nat:=0
def PySem.W.Fast.tw3471148087971981198:Nat:=0
def PySem.W.Fast.tw7949010795685481766:Nat:=0
def PySem.W.Fast.tw3411491343248763400:Nat:=0
def PySem.W.Fast.tw10302242527322549302:Nat:=0
def PySem.W.Fast.tw3370660928566042131:Nat:=0
def PySem.W.Fast.tw14476808086030344020:Nat:=0
def PySem.W.Fast.tw14957033301079153180:Nat:=0
def PySem.W.Fast.tw11766762180447952685:Nat:=0
def PySem.W.Fast.tw14671410986689941323:Nat:=0
def PySem.W.Fast.tw8498055807628329168:Nat:=0
def PySem.W.Fast.tw8698342703918973998:Nat:=0
def PySem.W.Fast.tw14628078562101673343:Nat:=0
def PySem.W.Fast.tw1408700667730167866:Nat:=0
def PySem.W.Fast.tw5210621160151595931:Nat:=0
def PySem.W.Fast.tw7579334207105657393:Nat:=0
def PySem.W.Fast.tw9684187091663982582:Nat:=0
def PySem.W.Fast.tw12027948836455601119:Nat:=0
def PySem.W.Fast.tw5908462769981835345:Nat:=0
def PySem.W.Fast.tw13256868246921990123:Nat:=0
def PySem.W.Fast.tw11527395738559734950:Nat:=0
def PySem.W.Fast.tw11271223616101182321:Nat:=0
def PySem.W.Fast.tw467248922660767568:Nat:=0
def PySem.W.Fast.tw17499772803765953085:Nat:=0
def PySem.W.Fast.tw8761331920113770580:Nat:=0
def PySem.W.Fast.tw15893889389979428679:Nat:=0
def PySem.W.Fast.tw17853212809776243827:Nat:=0
def PySem.W.Fast.tw14156871413749132173:Nat:=0
def PySem.W.Fast.tw12596501274879565944:Nat:=0
def PySem.W.Fast.tw8615161635861659459:Nat:=0
def PySem.W.Fast.tw10799522974994046173:Nat:=0
def PySem.W.Fast.tw6570781569626832134:Nat:=0
def PySem.W.Fast.tw11689817892724100339:Nat:=0
def PySem.W.Fast.tw16940969314513323739:Nat:=0
def PySem.W.Fast.tw5201308781308458233:Nat:=0
def PySem.W.Fast.tw7653675548263294983:Nat:=0
def PySem.W.Fast.tw11220926300298944804:Nat:=0
def PySem.W.Fast.tw331552069149891017:Nat:=0
def PySem.W.Fast.tw914633543575511324:Nat:=0
def PySem.W.Fast.tw6162600383610850424:Nat:=0
def PySem.W.Fast.tw15642049026108580027:Nat:=0
def PySem.W.Fast.tw1811088125409361590:Nat:=0
def PySem.W.Fast.tw9695341200266785874:Nat:=0
def PySem.W.Fast.tw10567732841210495770:Nat:=0
def PySem.W.Fast.tw1922276613259190101:Nat:=0
def PySem.W.Fast.tw8890710387111498966:Nat:=0
open PySem PySem.W PyProof.Rows
set_option maxRecDepth 100000 in
set_option maxHeartbeats 0 in
theorem PySem.Challenge.cw_ringfell_k15_thinned_holds : PySem.Challenge.rw_ringfell_k15_thinned.Holds := by
 w_on;o_law;k_head;(case hw=>w_witness2)
 k_fill
 refine K15.walk (l:=PySem.Challenge.rw_ringfell_k15_thinned) rfl rfl (λw h Y=>PySem.W.kIn_of Y) ?F
 case F =>
  intro w mg fa h KX G hmg
  refine' K15.all_mk KX G hmg ?_ ?_ ?_ ?_ ?_ ?_ ?_ ?_ ?_ ?_ ?_ ?_ ?_ ?_ ?_ ?_ ?_ ?_ ?_ ?_ ?_ ?_ ?_ ?_ ?_ ?_ ?_ ?_ ?_ ?_ ?_ ?_ ?_ ?_ ?_ ?_ ?_ ?_ ?_ ?_ ?_ ?_ ?_ ?_ ?_ ?_ ?_ ?_ ?_ ?_ ?_ ?_ ?_ ?_ ?_ ?_ ?_ ?_ ?_ ?_ ?_ ?_ ?_ ?_ ?_ ?_ ?_ ?_ ?_ ?_ ?_
  any_goals k_is
  any_goals (refine' L2.b7.mk ?a ?l ?c ?k;(case a=>k_is);(case l=>k_is);(case c=>k_is);(case k=>k_is))
  all_goals kernel_rfl
