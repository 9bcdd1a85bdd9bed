import PyProof.Rows.All
import Wide.All
import OpenK.AllK
import Wide.FinOn
import Lean
import PyProof.EqAt
import PyProof.EqKinds
import PyProof.TupleCall
import KE.KRevIter
import PyProof.ZipIter
import KE.KSortKey
import PyProof.MinMaxWalk
import PySem.Challenge.RW_ringfell_k13_cleared_or_shown
open PySem renaming wpAny_bind → CD,Value → CJ,wpAny_pure → CK,Shared → CN,sizeLine → C6,Program → De,wpAny → Dh,model → DA,wpAny_newObj_type → DM,World → DN,Around → D1,codeAny_builtin → D3,wpAny_holding → D5,starEach → D6,mainGlobals → Ea,bootBuiltins → Ec,FuncData → Eh,plainId_quiet → Ek,wpAny_call_entry → Em,wpAny_ite_split → Ew,wpAny_updateSeq → EB,builtinLookup_eq_fast → EI,wpAny_callSpecial?_slot → EN,wpAny_truthy_bool → ES,compareOp → EV,wpAny_of_eq → E3,wpAny_specialOf → E8,wpAny_seqItems → Fe,isSubtype_type → Ff,wpAny_tryCatch → Fg,wpAny_pyIter_tuple → Fm,wpAny_Call_Name_kw → Fn,wpAny_field → Fo,wpAny_typeOf → Fs,wpAny_mono → FD,wpAny_rule → FE,typeLookup_type → FK,intItems → FO,sizeLine_eq → FQ,wpAny_isInstance → FR,mem_of_lookup → FY,richCompare_meets_room → F3,wpAny_passesOwn → Gv,wpAny_pyIter_list → Gw,wpAny_attempt → GF,wpAny_letGo → GY,rawInt → GZ,codeAny_extend_loopS → Hd,codeAny → He,boot_len → Hi,wpAny_runValue → Hj,wpAny_forIn_list → Hl,codeAny_mono → Hy,call_meets → Hz,backTo → HA,tupleKind_room_in1 → HJ,wpAny_pyIter_slot → HS,holding → HU,wpAny_setField → HW,codeAny_call_builtin → Il,wpAny_standAt → Ip,wpAny_newList → Iq,wpAny_execs_nil → Iz,wpAny_letOwnedTupleGo_enum → IK,wpAny_setField_rec → IU,intKind_is → Jl,noFill_tuple_add → Jw,wpAny_askSetting → Jx,entryFor_of_tree → Jy,wpAny_Call_method_late → JE,wpAny_isTrue_Compare1 → JT,concat_meets → JU,wpAny_eqIsQuiet_tuple → JV,codeAny_of_tree → JW,weight_type_call_type → JX,wpAny_load → JZ,typeIs_int → J0,isSubtype_stop → J8,seqIndex_of → Ki,wpAny_setEntries_of → Kk,intItems_at → Kl,seq_tuple_add → Kz,wpAny_handled → KC,wpAny_eqBool_tuple → KH,signature?_of → KI,call_function_tree → KJ,wpAny_evalAll_cons → KL,wpAny_call → K2,wpAny_sequenceKey → K3,seqIndex_neg → K6,callType_new → K7,wpAny_throw → LF,wpAny_mkInt → LH,wpAny_Name → LU,numAt_eq → L0
open List renaming length_map → CG,getElem?_eq_getElem → CI,length_append → CL,getElem?_eq_some_iff → CP,mem_singleton → CQ,size_toArray → CS,mem_of_getElem? → CT,getElem?_map → CU,mem_append → CW,getD_eq_getElem?_getD → C0,map_append → C2,take_of_length_le → C7,mem_cons → C9,mem_cons_self → Di,mem_cons_of_mem → Dj,mem_append_left → Dn,mem_append_right → Dt,mem_map → Du,getElem?_append_left → Dv,length_cons → Dx,map_cons → Dy,getElem?_eq_none → Dz,getElem?_append_right → DB,mem_iff_getElem? → DC,append_assoc → DD,getElem?_toArray → DR,append_nil → DU,replicate → DV,mem_filter → DX,length_singleton → D2,length_take → Eb,take_add_one → Ee,pairwise_map → Ef,mem_range → Eg,range → Ei,filter_cons_of_pos → En,mem_map_of_mem → Ep,length_drop → Es,getElem?_take → Eu,getElem?_set_self → Ey,take_sublist → Ez,drop_sublist → EA,count_pos_iff → EE,take_append_drop → EF,length_reverse → EM,pairwise_append → ET,length_range → EY,filter_cons_of_neg → EZ,getElem?_set_ne → E2,nodup_cons → E5,getElem?_eq_none_iff → E6,extract_eq_take_drop → E7,ext_getElem? → Fb,nodup_append → Fc,getElem?_cons_succ → Fj,mem_of_mem_take → Fp,replicate_succ → Fw,flatten_cons → Fx,length_pos_iff → FA,length_nil → FH,perm_append_comm → FI,map_map → FJ,pairwise_singleton → FV,length_eq_zero_iff → FW,all_eq_true → F7,length_replicate → Ga,eq_nil_or_concat → Ge,concat_eq_append → Gf,drop_eq_getElem_cons → Gh,pairwise_iff_getElem → Gi,nodup_nil → Gj,length_set → Gn,count_cons → Gr,getElem?_inj → Gu,reverse_append → GA,getElem?_range → GB,getElem_of_mem → GC,getElem_mem → GG,take_append_of_le_length → GH,not_mem_nil → GJ,mem_filterMap → GL,getElem?_drop → GN,filter_append → GO,find?_cons → GU,map_drop → G5,reverse_cons → G6,filter_congr → G7,perm_ext_iff_of_nodup → G9,mem_of_mem_drop → Ha,reverse_reverse → Hb,length_eraseIdx → Hc,take_zero → Hg,lookup_cons → Hk,filter_sublist → Ho,idxOf_lt_length_iff → Ht,mem_of_mem_eraseIdx → Hw,getElem?_replicate → HB,zip_cons_cons → HC,any_cons → HE,eraseIdx_cons_succ → HF,nil_append → HG,pairwise_cons → HI,pairwise_lt_range → HM,eraseIdxIfInBounds_toArray → HN,drop_zero → HV,map_nil → HX,length_filter_le → HZ,one_le_count_iff → Ia,drop_append_of_le_length → Ic,filter_cons → Ih,mem_reverse → Ii,map_take → Io,filterMap_cons → Ir,filter_eq_self → Iw,take_succ_cons → Iy,set_set → IM,getElem?_zip_eq_some → IX,drop_left → IY,find?_range_eq_none → Je,eq_of_mem_replicate → Jk,range'_succ → Jt,mem_flatMap → Jv,drop_eq_nil_of_le → JB,of_mem_zip → JF,foldl_cons → JH,contains_iff_mem → JN,getElem?_reverse → JQ,filterMap_append → JR,dropLast_concat → J4,nodup_iff_count → J5,filterMap_map → Kp,getElem_idxOf → Kx,filter_filter → Ky,reverse_perm → K0,count_append → K1,getElem_inj → Lc,perm_middle → Lg,nodup_range → Li,ext_getElem → Lk,take_length → Lo,map_reverse → Lp,append_inj' → Lq,length_zip → Lu,range_succ → LB,filter_map → LC,drop_drop → LM,take_left → LN,take_succ → LO,all_cons → LV,map_set → L5
open PySem.Heap renaming get?_push_of_some → CH,get?_push_size → CZ,lt_size → C1,get?_update_other → Dl,get?_update_self → DI,size_push → ED,get?_update_ne → Kc
open PySem.W renaming Frag → CM,mg_none_of → D9,nsIn → EJ,kia_one → E4,cellsFrom_some → Jz,kat_nil → JM,kitx_list → KN,kitx_dict → KO,mg_of → LZ
open Nat renaming le_refl → CO,ne_of_lt → Dc,lt_of_lt_of_le → Dm,zero_le → DQ,le_trans → DT,lt_succ_of_lt → DW,lt_irrefl → D4,lt_succ_self → Et,lt_or_ge → Fq,lt_of_succ_lt → Fz,le_add_right → FP,le_sub_one_of_lt → FU,ne_of_gt → F8,eq_zero_or_pos → Gg,le_of_lt_succ → Gq,not_lt_zero → Gs,zero_add → Gx,add_sub_cancel_left → Gz,lt_of_not_le → GI,eq_zero_of_not_pos → GK,le_of_lt → GP,le_antisymm → GS,le_succ_of_le → G1,add_le_add_left → Hm,succ_pos → Hr,lt_of_le_of_lt → HH,mod_lt → HP,lt_trichotomy → HR,le_of_not_lt → Ib,sub_one_lt_of_lt → Ik,le_succ → Iu,min_self → IP,succ_le_succ → Js,sub_zero → JJ,le_of_sub_eq_zero → JK,add_zero → JL,lt_of_le_of_ne → Kr,sub_pos_of_lt → KR,le_of_succ_le → KS,sub_self → K5,le_zero → Lz,add_assoc → LW
open Array renaming length_toList → CV,getElem?_toList → C3,getElem?_eq_getElem → Ds,mem_toList_iff → DH,toList_append → DZ,size_map → D7,getElem?_eq_some_iff → E1,getD_eq_getD_getElem? → Fl,getElem?_eq_none → Ft,toList_push → Fy,toList_extract → FT,toList_reverse → Gm,size_push → Gp,size_append → G3,toList_map → Ie,toList_setIfInBounds → IG,perm_iff_toList_perm → IH,size_setIfInBounds → Jd,getElem?_replicate → Jf,getElem?_map → Ks,forIn_toList → Kt,getElem_mem → KU,toList_inj → Lh
open Bool renaming false_ne_true → C8,false_eq_true → Dg,and_eq_true → EO,not_true → EU,eq_iff_iff → Fh,eq_false_iff → G4,false_and → IV,and_false → IW,or_false → Jp,not_false → J6,and_true → Kv,false_or → LX
open PySem.Value renaming ref → Dd,int → Ex,type → EK,none → EW,isInt_shape → G0
open PyProof.Rows renaming wpS_bind → Df,Keyed → Dp,wpS_pure → Dr,arrOf → Dw,pendingOf → DF,SortSt → DJ,slot_tuple_getitem → Ed,callWith_type1 → Eo,wpS_forRange → EH,IntsAre → FF,wpS_mono → FG,wpS_modify → FX,reverseSlice'_eq → Ij,KeyOrd → IA,wpS_get → Ja,wpS_lift → Jr,subscriptTail_builtinR → JD,args_list_sort → J9,sortedHeap_old → Ka,getElem?_mirror_all → Kj,args_tuple_getitem → KA,listUpdate_at → KD,sortedHeap_at → KG,size_push' → K4,listItems_at → K8,plain_sorted → K9,entry_sorted → La,args_sorted1 → Lb,len_tuple → LD,kind_sorted → LG
open Option.some renaming inj → Dk
open PySem.F renaming plainAttrs_list → Dq,slot_list_append → DK,type_list_append → DL,plain_min_loop → DS,called_set → EX,entry_min_loop → Fv,slot_tuple_count → FN,plain_extend_loop → F0,slot_tuple_iterator_next → F6,slot_enumerate_iter → GQ,slot_enumerate_next → GR,slot_list_pop → GV,type_list_pop → GW,args_tuple_add_2 → Hq,slot_list_extend → Hu,type_list_extend → Hv,type_tuple_count → Hx,entry_tuple_add → HD,slot_tuple_add → HK,plain_list_iadd → HQ,args_tuple_iterator_next_1 → Im,entry_tuple_iterator_next → Iv,args_tuple_count_2 → II,args_object_init_2 → IJ,entry_tuple_count → IZ,plain_extend_loop → I0,plain_min → Jh,entry_min → Ji,slot_tuple_index → Jj,args_enumerate_iter_1 → Jm,plain_list_iadd → Jq,kind_min → Ju,entry_enumerate_iter → JA,typeCall_set_1 → JC,entry_proto_collect → JO,plain_proto_collect → JP,mro_reversed → J3,entry_extend_loop → Ke,entry_type_call → KW,entry_list_iadd → KY,entry_list_pop → Lf,entry_set_init → Lj,args_list_ne_2 → Ll,args_list_eq_2 → Ln,slot_list_pop → Lr,slot_int_rmul → Ls,plain_set_new → Lv,slot_set_iter → Lw,entry_list_ne → Lx,entry_list_eq → Ly
open PySem.PassesOwn renaming never → DE
open PySem.Builtin.List renaming listExtendWith → DG,listLengthHint → Er,listSameRef → EC
open PySem.Around renaming under_plainId → DP,under_plain → Ku
open PyProof.Rows.KeyOrd renaming kle_trans → DY,kle_of_klt → ER,kle_refl → Fi,kle_antisymm → Kb
open Ne renaming symm → D8
open Int renaming toNat_natCast → Ej,emod_lt_of_pos → FL,emod_nonneg → FZ,zero_add → GX,fdiv_eq_ediv_of_nonneg → ID,fmod_eq_emod_of_nonneg → IE,le_total → IS,sub_zero → JS,le_refl → Kh,ediv_nonneg → LA
open List.Nodup renaming length_le_of_subset → EG,sublist → IT
open PySem.Obj renaming mapSeq → EL,data_mapFields → Gd,isFreed_of_fields → HY,cls_mapFields → KQ
open List.Perm renaming append_left → E9,append_right → F1,refl → Hf
open Iff renaming rfl → Fd
open Option renaming map_eq_some_iff → Fu,isSome_iff_exists → Jc,isSome_map → Jg,map_some → JI,getD_none → Ld
open PySem.Pv renaming boot_tuple → FC
open PySem.SeqAt.EqAt renaming int_int → Gb,same → JG,int_str → Km,str_int → Kn,str_str → Kq
open Classical renaming byContradiction → Gk
open PySem.Paired renaming length → Gy,snoc → L8
open PyProof.Rows.F renaming plain_set_update_loop → GD,entry_set_update_loop → Jn
open PySem.SeqAt renaming EqAt → G8,tuple_countAt → Kf
open PySem.Calls renaming call_function_entry → Hh,callWith_builtin → HL,Name_function_global → IC,spliced_cons → IL,spliced_nil → Jb,evalArgs_plain → J1
open PySem.Heap.SameBut renaming update → Hn
open List.Pairwise renaming imp_of_mem → Hs,imp → Ma,and → Mb
open PySem.StrLaws renaming seqIndex_nonneg → Ig
open PySem.Code renaming quiet_builtin → IQ
open PySem.Walks renaming tuple → Jo,list → KP
open Std.Legacy.Range renaming forIn_eq_forIn_range' → JY
open PySem.ItemsOf renaming nil → Kg
open Prod renaming ext → Ko
open PySem.Moved renaming eq_with → Kw,trans → L7
open PySem.SeqAt.RcAt renaming tuples → KZ
open PySem.Heap.ExtBut renaming push → Lm
open PySem.EqMixed renaming eq_bool_str → LI,eq_str_bool → LJ,ne_bool_str → LK,ne_str_bool → LL,eq_int_str → LP,eq_str_int → LQ,ne_int_str → LR,ne_str_int → LS
open PySem.CmpOf renaming ints_lt → LY
open PySem.W.Looks renaming of_pure → L3
open Nat.succ renaming inj → L4
open PySem.W.KatTups renaming cons → L6
open PySem.Heap.IsSliceOf renaming new → L9
set_option Elab.async false
set_option linter.all false
set_option maxRecDepth 100000
namespace L2
open PySem PySem.Spec PyProof.Rows
abbrev Key:=Sum Int Str
def ng:Key->CJ->Bool
 | .inl k,v=>Value.isInt k v
 | .inr x,v=>Value.isStrOf x v
def keyH (w:DN):Key->Int
 | .inl k=>hashInt k
 | .inr x=>hashStr w x
theorem bP:∀{k:Key} {v:CJ},ng k v=true->(∃i t,k=Sum.inl i/\v=Ex i t)\/(∃x t,k=Sum.inr x/\v=Value.str x t)
 | .inl i,v,h=>by
  obtain ⟨t,e⟩:=G0 (k:=i) (v:=v) h
  exact .inl ⟨i,t,rfl,e⟩
 | .inr x,v,h=>by
  obtain ⟨t,e⟩:=Value.isStrOf_shape (x:=x) (v:=v) h
  exact .inr ⟨x,t,rfl,e⟩
theorem va (i:Int)(t:Tok):ng (.inl i) (.int i t)=true:=by simp[ng,Value.isInt]
theorem vb (x:Str)(t:Tok):ng (.inr x) (.str x t)=true:=by simp[ng,Value.isStrOf]
theorem AD (a b:Int):decide ((Sum.inl a:Key)=Sum.inl b)=(a == b):=by
 by_cases e:a=b
 ·subst e;simp
 ·have h:¬ (Sum.inl a:Key)=Sum.inl b:=λq=>e (Sum.inl.inj q)
  rw[decide_eq_false h]
  exact (beq_eq_false_iff_ne.mpr e).symm
theorem AE (a b:Str):decide ((Sum.inr a:Key)=Sum.inr b)=decide (a=b):=by
 by_cases e:a=b
 ·subst e;simp
 ·have h:¬ (Sum.inr a:Key)=Sum.inr b:=λq=>e (Sum.inr.inj q)
  rw[decide_eq_false h,decide_eq_false e]
theorem AF (a:Int)(b:Str):decide ((Sum.inl a:Key)=Sum.inr b)=false:=decide_eq_false (λq=>nomatch q)
theorem AG (a:Str)(b:Int):decide ((Sum.inr a:Key)=Sum.inl b)=false:=decide_eq_false (λq=>nomatch q)
def bQ (prog:De)(w:DN):PySem.KeyKind prog w Key where
 is:=ng
 hash:=keyH w
 inj:=λv a b ha hb=>by
  rcases bP ha with ⟨i,t,rfl,rfl⟩ | ⟨x,t,rfl,rfl⟩
  ·rcases bP hb with ⟨j,u,rfl,e⟩ | ⟨y,u,rfl,e⟩
   ·injection e with e1 _;rw[e1]
   ·exact nomatch e
  ·rcases bP hb with ⟨j,u,rfl,e⟩ | ⟨y,u,rfl,e⟩
   ·exact nomatch e
   ·injection e with e1 _;rw[e1]
 byValue:=λk v h=>by
  rcases bP h with ⟨i,t,rfl,rfl⟩ | ⟨x,t,rfl,rfl⟩ <;> rfl
 pyHash:=λhv h=>by
  rcases bP hv with ⟨i,t,rfl,rfl⟩ | ⟨x,t,rfl,rfl⟩
  ·exact wpAny_pyHash_int h
  ·exact wpAny_pyHash_str h
 eqBool:=λhu hv h=>by
  rcases bP hu with ⟨i,t,rfl,rfl⟩ | ⟨x,t,rfl,rfl⟩
  ·rcases bP hv with ⟨j,u,rfl,rfl⟩ | ⟨y,u,rfl,rfl⟩
   ·rw[AD] at h;exact wpAny_eqBool_int h
   ·rw[AF] at h;exact Km i t y u _ _ _ _ h
  ·rcases bP hv with ⟨j,u,rfl,rfl⟩ | ⟨y,u,rfl,rfl⟩
   ·rw[AG] at h;exact Kn x t j u _ _ _ _ h
   ·rw[AE] at h;exact wpAny_eqBool_str h
 «strs» := λk x t v h=>by
  rcases bP h with ⟨i,u,rfl,e⟩ | ⟨y,u,rfl,e⟩
  ·exact nomatch e
  ·injection e with e1 _
   subst e1
   cases v <;> rfl
theorem qb (prog:De)(w:DN)(i:Int)(t:Tok):(bQ prog w).is (.inl i) (.int i t)=true:=va i t
theorem qc (prog:De)(w:DN)(x:Str)(t:Tok):(bQ prog w).is (.inr x) (.str x t)=true:=vb x t
open PySem PySem.Spec PyProof.Rows
inductive V where
 | non | bl (b:Bool) | int (i:Int) | str (x:Str) | byt (b:Array UInt8) | flt (b:UInt64) | ref (a:Addr) | ty (n:String)
 deriving DecidableEq
def RelV:V->CJ->Prop
 | .non,u=>u=EW
 | .bl b,u=>u=Value.bool b
 | .int i,u=>∃t,u=Ex i t
 | .str x,u=>∃t,u=Value.str x t
 | .byt b,u=>∃t,u=Value.bytes b t
 | .flt b,u=>∃t,u=Value.float b t
 | .ref a,u=>u=Dd a
 | .ty n,u=>u=EK n
abbrev Vals:List V->List CJ->Prop:=Paired RelV
theorem Vals.length {xs:List V}{us:List CJ}(r:Vals xs us):xs.length=us.length:=Gy r
theorem Vals.get:∀{xs:List V} {us:List CJ} {i:Nat} {x:V},Vals xs us->xs[i]? = some x->∃u,us[i]? = some u/\RelV x u
 | _,_,_,_,.nil,e=>by simp at e
 | _,_,0,_,.cons r _,e=>by simp at e;subst e;exact ⟨_,rfl,r⟩
 | _,_,i+1,x,.cons _ t,e=>by
  obtain ⟨u,h1,h2⟩:=Vals.get (i:=i) (x:=x) t (by simpa using e)
  exact ⟨u,by simpa using h1,h2⟩
theorem Vals.set {x:V}{u:CJ}(r:RelV x u):∀{xs:List V} {us:List CJ} (i:Nat),Vals xs us->Vals (xs.set i x) (us.set i u)
 | _,_,_,.nil =>.nil
 | _,_,0,.cons _ t =>.cons r t
 | _,_,i+1,.cons q t =>.cons q (Vals.set r i t)
theorem Vals.append:∀{xs ys:List V} {us ws:List CJ},Vals xs us->Vals ys ws->Vals (xs++ys) (us++ws)
 | _,_,_,_,.nil,s=>s
 | _,_,_,_,.cons r t,s =>.cons r (Vals.append t s)
theorem Vals.take:∀{xs:List V} {us:List CJ} (n:Nat),Vals xs us->Vals (xs.take n) (us.take n)
 | _,_,0,_ =>.nil
 | _,_,_+1,.nil =>.nil
 | _,_,n+1,.cons r t =>.cons r (Vals.take n t)
theorem Vals.drop:∀{xs:List V} {us:List CJ} (n:Nat),Vals xs us->Vals (xs.drop n) (us.drop n)
 | _,_,0,r=>r
 | _,_,_+1,.nil =>.nil
 | _,_,n+1,.cons _ t=>Vals.drop n t
def kJ:Option V->Option CJ->Prop
 | some v,some u=>RelV v u
 | none,none=>True
 | _,_=>False
def KV {κ:Type}:List (κ×V)->List (κ×CJ)->Prop:=Paired λ(p:κ×V) (q:κ×CJ)=>p.1=q.1/\RelV p.2 q.2
def kV:Key->V
 | .inl i =>.int i
 | .inr x =>.str x
inductive HO where
  | lst (xs:List V)
  | tup (xs:List V)
  | dK (kvs:List (Key×V)) | dT (kvs:List (List Key×V))
  | set (S:Int->Bool) (n:Nat)
  | ins (C dx:Addr) (fs:List (Str×V))
  | own (x:Addr)
  | xd (fs:List (Str×V))
  | met (f x:Addr)
  | rng (lo hi:Int)
  | frz (o:Obj) (u:HO)
  | tbl (ps:Array CJ)
  | ext (φ:Heap->Prop)
abbrev Hp:=Addr->Option HO
def upd (H:Hp)(a:Addr)(o:HO):Hp:=λb=>if b=a then some o else H b
theorem ag {H:Hp}{a:Addr}{o:HO}:upd H a o a=some o:=by unfold upd;rw[if_pos rfl]
theorem aD {H:Hp}{a b:Addr}{o:HO}(h:b≠a):upd H a o b=H b:=by unfold upd;rw[if_neg h]
theorem eG {H:Hp}{a b:Addr}{o u:HO}(h:H a=some o)(h':H b=some u)(d:o≠u):a≠b:=by
 intro e;subst e;rw[h] at h';exact d (Dk h')
theorem aB {H:Hp}{a b:Addr}{o:HO}(h:H a=some o)(h':H b=none):a≠b:=by
 intro e;subst e;rw[h] at h';cases h'
def eM (h:Heap)(a:Addr)(items:Array CJ):Prop:=∃o,h.get? a=some o/\(o.cls = .type "tuple" /\ o.dict=none)/\∃n,o.data = .seq items n
theorem eM.tup {h:Heap}{a:Addr}{items:Array CJ}(x:eM h a items):IsTup h a items:=let ⟨o,e,c,n,d⟩:=x;⟨o,e,c.1,n,d⟩
theorem eM.new (h:Heap)(items:Array CJ):eM (h.push { cls :=.type "tuple",data :=.seq items }) h.objs.size items:=⟨_,CZ _ rfl,⟨rfl,rfl⟩,_,rfl⟩
section
variable  (P:De)(w:DN)
def bB (H:Hp)(h:Heap)(a:Addr):HO->Prop
 | .lst xs=>xs.length<=C6/\∃(its:List CJ) (n:Nat),Vals xs its/\h.get? a=some { cls :=.type "list",data :=.seq its.toArray n }
 | .tup xs=>xs.length<=C6/\∃its:List CJ,Vals xs its/\eM h a its.toArray
 | .dK kvs=>kvs.length<=C6/\(a == sysModules)=false/\∃vs,KV kvs vs/\h.DictOf (bQ P w) a vs
 | .dT kvs=>kvs.length<=C6/\(a == sysModules)=false/\∃xs:List (List Key×Addr×CJ),
   Paired (λ(p:List Key×V) (q:List Key×Addr×CJ)=>p.1=q.1/\H q.2.1=some (.tup (p.1.map kV))/\RelV p.2 q.2.2) kvs xs ∧
   ∃o es ep,h.get? a=some o/\o.ExactDict/\o.data = .dict es ep/\es.toList=xs.map (entryOfKey (tupleKind (bQ P w)))/\(xs.map (·.1)).Nodup
 | .set S n=>h.SetOf (intKind P w) a S n
 | .ins C dx fs=>H dx=some (.own a)/\fs.length<=1000/\dx≠a/\h.get? a=some (PySem.W.instObj C dx) ∧
   ∃mA,h.Ns1 dx mA/\(∀f,kJ (fs.lookup f) (mA f))/\PySem.Within mA (fs.map (·.1))
 | .own _=>∃o,h.get? a=some o
 | .xd fs=>∃mA,h.Ns1 a mA/\∀f,kJ (fs.lookup f) (mA f)
 | .rng lo hi=>∃t u v,h.get? a=some { cls :=.type "range",data :=.fields #[.int lo t,.int hi u,.int 1 v] }
 | .frz o u=>h.get? a=some o/\bB H h a u
 | .tbl ps=>h.get? a=some { cls :=.none,data :=.fields ps }
 | .met f x=>h.get? a=some (PySem.W.methodObj (.ref f) (.ref x))
 | .ext φ=>φ h/\(∃o,h.get? a=some o)/\∀h1 h2:Heap, φ h1->(∀o,h1.get? a=some o->h2.get? a=some o) -> φ h2
def HOk (H:Hp)(h:Heap):Prop:=∀a o,H a=some o->bB P w H h a o
end
section
variable  {P:De}{w:DN}{H H':Hp}{h h':Heap}{a:Addr}{o:HO}
theorem bB.lt (x:bB P w H h a o):a<h.objs.size:=by
 cases o with
 | lst xs=>obtain ⟨_,_,_,_,e⟩:=x;exact C1 e
 | tup xs=>obtain ⟨_,_,_,p⟩:=x;exact (eM.tup p).lt
 | dK kvs=>obtain ⟨_,_,_,_,o,_,_,e,_⟩:=x;exact C1 e
 | dT kvs=>obtain ⟨_,_,_,_,o,_,_,e,_⟩:=x;exact C1 e
 | set S n=>obtain ⟨o,_,_,_,e,_⟩:=x;exact C1 e
 | ins C dx fs=>obtain ⟨_,_,_,e,_⟩:=x;exact C1 e
 | own y=>obtain ⟨_,e⟩:=x;exact C1 e
 | xd fs=>obtain ⟨_,⟨_,_,_,e,_⟩,_⟩:=x;exact C1 e
 | rng lo hi=>obtain ⟨_,_,_,e⟩:=x;exact C1 e
 | frz ob u=>obtain ⟨e,_⟩:=x;exact C1 e
 | tbl ps=>exact C1 (show h.get? a=some _ from x)
 | met f y=>exact C1 (show h.get? a=some _ from x)
 | ext φ=>obtain ⟨_,⟨_,e⟩,_⟩:=x;exact C1 e
theorem Paired.AH {α β:Type}{F G:α -> β -> Prop}:∀{l₁:List α} {l₂:List β},Paired F l₁ l₂->(∀a b,F a b->G a b)->Paired G l₁ l₂
 | _,_,.nil,_ =>.nil
 | _,_,.cons r t,f =>.cons (f _ _ r) (Paired.AH t f)
theorem bB.stay (x:bB P w H h a o)(k:∀b u,(b=a\/H b=some (.own a))->h.get? b=some u->h'.get? b=some u)
  (ho:∀b,H b=some (.own a)->H' b=some (.own a)) (ht:∀b xs,H b=some (.tup xs)->H' b=some (.tup xs)):bB P w H' h' a o:=by
 induction o with
 | lst xs=>obtain ⟨z,its,n,r,e⟩:=x;exact ⟨z,its,n,r,k _ _ (.inl rfl) e⟩
 | tup xs=>obtain ⟨z,its,r,ob,e,c⟩:=x;exact ⟨z,its,r,ob,k _ _ (.inl rfl) e,c⟩
 | dK kvs=>obtain ⟨z,y,vs,r,ob,es,ep,e,c⟩:=x;exact ⟨z,y,vs,r,ob,es,ep,k _ _ (.inl rfl) e,c⟩
 | dT kvs =>
  obtain ⟨z,y,xs,r,ob,es,ep,e,c⟩:=x
  exact ⟨z,y,xs,Paired.AH r λp q z=>⟨z.1,ht _ _ z.2.1,z.2.2⟩,ob,es,ep,k _ _ (.inl rfl) e,c⟩
 | set S n=>obtain ⟨ob,es,ep,t,e,c⟩:=x;exact ⟨ob,es,ep,t,k _ _ (.inl rfl) e,c⟩
 | ins C dx fs =>
  obtain ⟨d,z,ne,e,mA,⟨od,es,ep,e2,c⟩,r⟩:=x
  exact ⟨ho _ d,z,ne,k _ _ (.inl rfl) e,mA,⟨od,es,ep,k _ _ (.inr d) e2,c⟩,r⟩
 | own y=>obtain ⟨ob,e⟩:=x;exact ⟨ob,k _ _ (.inl rfl) e⟩
 | xd fs=>obtain ⟨mA,⟨od,es,ep,e,c⟩,r⟩:=x;exact ⟨mA,⟨od,es,ep,k _ _ (.inl rfl) e,c⟩,r⟩
 | rng lo hi=>obtain ⟨t,u,v,e⟩:=x;exact ⟨t,u,v,k _ _ (.inl rfl) e⟩
 | frz ob u ih=>obtain ⟨e,q⟩:=x;exact ⟨k _ _ (.inl rfl) e,ih q⟩
 | tbl ps =>
  have e:h.get? a=some { cls :=.none,data :=.fields ps }:=x
  show h'.get? a=some { cls :=.none,data :=.fields ps }
  exact k a _ (.inl rfl) e
 | met f y =>
  have e:h.get? a=some (PySem.W.methodObj (.ref f) (.ref y)):=x
  show h'.get? a=some (PySem.W.methodObj (.ref f) (.ref y))
  exact k a _ (.inl rfl) e
 | ext φ=>obtain ⟨p,⟨o,e⟩,st⟩:=x;exact ⟨st _ _ p λo q=>k _ _ (.inl rfl) q,⟨o,k _ _ (.inl rfl) e⟩,st⟩
theorem HOk.lt (x:HOk P w H h)(e:H a=some o):a<h.objs.size:=(x a o e).lt
theorem HOk.fresh (x:HOk P w H h)(e:h.objs.size<=a):H a=none:=by
 cases q:H a with
 | none=>rfl
 | some u=>exact absurd (Dm (x.lt q) e) (D4 _)
theorem HOk.kept (x:HOk P w H h)(k:∀b u,h.get? b=some u->h'.get? b=some u):HOk P w H h':=λa o e =>
 (x a o e).stay (λb u _ q=>k b u q) (λ_ q=>q) λ_ _ q=>q
theorem HOk.laid (x:HOk P w H h)(k:∀b u,h.get? b=some u->h'.get? b=some u)(hp:h.objs.size<=a)(new:bB P w (upd H a o) h' a o):HOk P w (upd H a o) h':=λb u e=>by
 have hn:=x.fresh hp
 by_cases hb:b=a
 ·subst hb;rw[ag] at e;cases e;exact new
 ·rw[aD hb] at e
  exact (x b u e).stay (λc v _ q=>k c v q) (λc q=>by rw[aD (aB q hn)];exact q) λc xs q=>by rw[aD (aB q hn)];exact q
end
def Rd (H:Hp)(a:Addr)(u:HO):Prop:=H a=some u\/∃o,H a=some (.frz o u)
theorem Rd.ok {P:De}{w:DN}{H:Hp}{h:Heap}{a:Addr}{u:HO}(r:Rd H a u)(x:HOk P w H h):bB P w H h a u:=by
 rcases r with r | ⟨o,r⟩
 ·exact x a u r
 ·obtain ⟨_,q⟩:=x a _ r
  exact q
def Mut:Option HO->Prop
 | some (.lst _)=>True
 | some (.dK _)=>True
 | some (.dT _)=>True
 | some (.set _ _)=>True
 | some (.ins _ _ _)=>True
 | some (.ext _)=>True
 | _=>False
section
variable  {P:De}{w:DN}{H:Hp}{h h':Heap}{x e:Addr}{o':HO}
theorem HOk.write (ok:HOk P w H h)(mu:Mut (H x))(he:e=x\/H e=some (.own x))(k:∀b u,b≠e->h.get? b=some u->h'.get? b=some u)(heo:∃u,h'.get? e=some u)
  (new:bB P w (upd H x o') h' x o'):HOk P w (upd H x o') h':=λb u q=>by
 have nown:∀c y,H c=some (.own y)->c≠x:=λc y r z=>by subst z;rw[r] at mu;exact mu
 have ntup:∀c xs,H c=some (.tup xs)->c≠x:=λc xs r z=>by subst z;rw[r] at mu;exact mu
 by_cases hb:b=x
 ·subst hb;rw[ag] at q;cases q;exact new
 ·rw[aD hb] at q
  by_cases hbe:b=e
  ·have q':H b=some (.own x):=by
    rcases he with z | z
    ·exact absurd (hbe.trans z) hb
    ·rw[hbe];exact z
   rw[q] at q';cases q'
   obtain ⟨v,hv⟩:=heo
   exact ⟨v,by rw[hbe];exact hv⟩
  ·refine (ok b u q).stay (λc v hc r=>k c v ?_ r) (λc r=>by rw[aD (nown c b r)];exact r) λc xs r=>by rw[aD (ntup c xs r)];exact r
   rcases hc with rfl | hc
   ·exact hbe
   ·rintro rfl
    rcases he with z | z
    ·exact nown c b hc z
    ·rw[hc] at z;cases z;exact hb rfl
end
structure Un (fs ex:List Addr)(H H':Hp)(h h':Heap):Prop where
 keep:∀b o,h.get? b=some o->H b=none->b∉fs->b∉ex->h'.get? b=some o
 slot:∀b o,h.get? b=some o->H b=none->b∈fs->b∉ex->∃sl,h'.get? b=some { o with slots:=sl }
 free:∀b o,h.get? b=some o->H b=none->b∉ex->H' b=none
 there:∀b o,h.get? b=some o->b∉ex->∃o',h'.get? b=some o'
 tups:∀b xs,H b=some (.tup xs)->H' b=some (.tup xs)
 frzs:∀b o u,H b=some (.frz o u)->H' b=some (.frz o u)
 tbls:∀b ps,H b=some (.tbl ps)->∃more,H' b=some (.tbl (ps++more))
section
variable  {fs fs' ex ex':List Addr}{H H1 H2:Hp}{h h1 h2 h':Heap}{a x e:Addr}{o:HO}
theorem Un.any (u:Un fs ex H H1 h h1){b:Addr}{ob:Obj}(q:h.get? b=some ob)(n:H b=none)(hx:b∉ex):∃sl,h1.get? b=some { ob with slots:=sl }:=by
 by_cases hb:b∈fs
 ·exact u.slot b ob q n hb hx
 ·exact ⟨ob.slots,u.keep b ob q n hb hx⟩
theorem Un.kept (k:∀b u,h.get? b=some u->h'.get? b=some u):Un fs ex H H h h' :=
 ⟨λb ob q _ _ _=>k b ob q,λb ob q _ _ _=>⟨ob.slots,k b ob q⟩,λ_ _ _ n _=>n,λb ob q _=>⟨ob,k b ob q⟩,λ_ _ q=>q,λ_ _ _ q=>q,λ_ ps q=>⟨#[],by rw[q];simp⟩⟩
theorem Un.refl:Un fs ex H H h h:=Un.kept λ_ _ q=>q
theorem Un.laid (k:∀b u,h.get? b=some u->h'.get? b=some u)(hp:h.objs.size<=a)(hn:H a=none):Un fs ex H (upd H a o) h h' where
 keep:=λb u q _ _ _=>k b u q
 slot:=λb u q _ _ _=>⟨u.slots,k b u q⟩
 free:=λb u q n _=>by rw[aD (Dc (Dm (C1 q) hp))];exact n
 there:=λb u q _=>⟨u,k b u q⟩
 tups:=λb xs q=>by rw[aD (aB q hn)];exact q
 frzs:=λb u xs q=>by rw[aD (aB q hn)];exact q
 tbls:=λb ps q=>⟨#[],by rw[aD (aB q hn),q];simp⟩
theorem Un.write (mu:Mut (H x))(he:e=x\/H e=some (.own x))(k:∀b u,b≠e->h.get? b=some u->h'.get? b=some u)(heo:∃u,h'.get? e=some u):Un fs ex H (upd H x o) h h':=by
 have hx:∀b,H b=none->b≠x:=λb n z=>by subst z;rw[n] at mu;exact mu
 have hb:∀b,H b=none->b≠e:=λb n z=>by
  subst z
  rcases he with r | r
  ·exact hx b n r
  ·rw[n] at r;cases r
 have hm:∀b u,H b=some u->¬ Mut (some u)->b≠x:=λb u q nm z=>by subst z;rw[q] at mu;exact nm mu
 refine ⟨λb u q n _ _=>k b u (hb b n) q,λb u q n _ _=>⟨u.slots,k b u (hb b n) q⟩,λb u q n _=>by rw[aD (hx b n)];exact n,λb u q _ =>?_,
  λb xs q=>by rw[aD (hm b _ q λz=>z)];exact q,λb u xs q=>by rw[aD (hm b _ q λz=>z)];exact q,λb ps q=>⟨#[],by rw[aD (hm b _ q λz=>z),q];simp⟩⟩
 by_cases hbe:b=e
 ·subst hbe;exact heo
 ·exact ⟨u,k b u hbe q⟩
end
def trk (h:Heap)(H:Hp):List Addr:=(Ei h.objs.size).filter λa=>(H a).isSome
def oK (h:Heap)(H:Hp):Heap:=PySem.W.hideAll h (trk h H)
theorem vd (h:Heap)(H:Hp):(oK h H).objs.size=h.objs.size:=PySem.W.hideAll_size _ _
theorem wz {h:Heap}{H:Hp}{b:Addr}{o:Obj}(e:h.get? b=some o)(n:H b=none):(oK h H).get? b=some o :=
 PySem.W.hideAll_get _ e λhm=>by
  have q:(H b).isSome=true:=(DX.mp hm).2
  rw[n] at q;simp at q
theorem yL {h:Heap}{H:Hp}{b:Addr}{o:Obj}(e:(oK h H).get? b=some o):h.get? b=some o/\H b=none:=by
 have e':h.get? b=some o:=PySem.W.of_hideAll (trk h H) e
 refine ⟨e',?_⟩
 cases q:H b with
 | none=>rfl
 | some x =>
  have hm:b∈trk h H:=DX.mpr ⟨Eg.mpr (C1 e'),by simp[q]⟩
  have z:(oK h H).get? b=none:=PySem.W.hideAll_none (trk h H) hm
  rw[z] at e;cases e
def tP (g h:Heap)(L:Addr):List (Addr×Obj):=(Ei h.objs.size).filterMap λa=>if a=L\/(g.get? a).isSome=true then none else (h.get? a).map λo=>(a,o)
theorem qd {g h:Heap}{L a:Addr}{o:Obj}(h1:a≠L)(h2:g.get? a=none)(h3:h.get? a=some o):(a,o)∈tP g h L :=
 GL.mpr ⟨a,Eg.mpr (C1 h3),by simp[h1,h2,h3]⟩
def rest (g h:Heap)(L d:Addr):List (Addr×Obj):=(tP g h L).filter λp=>decide (p.1≠d)
theorem fY {g h:Heap}{L d a:Addr}{o:Obj}(h1:a≠L)(h2:g.get? a=none)(h3:h.get? a=some o)(h4:a≠d):(a,o)∈rest g h L d :=
 DX.mpr ⟨qd h1 h2 h3,decide_eq_true h4⟩
open PySem PySem.Spec PyProof.Rows
structure Mod (K:CM)(mg:Str->Option CJ)(base:Heap):Prop where
 kin:K.In base
 glob:base.Ns Ea mg
 blt:∃mb,base.Ns builtinsNs mb/\∀x:Str,x ≠ "__name__" -> mb x=Ec x
 nolimit:base.NoLimit
structure Cx where
 prog:De
 w:DN
 K:CM
 mg:Str->Option CJ
 base:Heap
 A:D1
 N:List Str
 s₀:CN
 H₀:Hp
 env:Env
 outer:List Env
 stack:List Env
 ex:List Addr
 fn:Str->Bool
 calm:Bool
 pn:List (Addr×Obj)
 xe:CJ->CN->Prop
def frs (l:List Env):List Addr:=l.filterMap (·.frame)
abbrev Cx.fs (X:Cx):List Addr:=frs X.outer
def Vis (sc:Scope)(x:Str):Prop:=sc.names.lookup x=some .local\/sc.names.lookup x=some .cell\/sc.names.lookup x=some .free
def Loc (sc:Scope)(x:Str):Prop:=sc.names.lookup x=some .local\/sc.names.lookup x=some .cell
def Look (env:Env)(h:Heap)(m:Str->Option CJ)(x:Str)(u:CJ):Prop :=
 (env.kindOf x=some .local/\m x=some u)\/((env.kindOf x=some .cell\/env.kindOf x=some .free)/\∃c,env.cells.lookup x=some c/\h.IsCell c (some u))
structure Cx.Ok (X:Cx):Prop where
 mod:Mod X.K X.mg X.base
 kind:X.env.scope.kind = .function
 glob:X.env.globals=Ea
 blt:X.env.builtins=builtinsNs
 above:X.s₀.heap.objs.size<=X.env.locals
 inj:∀x y c,X.env.cells.lookup x=some c->X.env.cells.lookup y=some c->x=y
 has:∀x,(X.env.kindOf x=some .cell\/X.env.kindOf x=some .free)->∃c,X.env.cells.lookup x=some c
 cab:∀x c,X.fn x=true->X.env.cells.lookup x=some c->X.s₀.heap.objs.size<=c
 hd:X.calm=true->X.A.handled=none
 frames:X.A.frames=some X.stack
 stk:X.stack=X.outer\/(X.stack=X.env :: X.outer/\X.env.frame=some X.env.locals)
 exf:∀b∈X.ex,b≠X.env.locals/\∀x c,X.env.cells.lookup x=some c->c≠b
 bs:∀b o,X.base.get? b=some o->X.s₀.heap.get? b=some o/\X.H₀ b=none
 bsz:X.base.objs.size<=X.s₀.heap.objs.size
 noex:∀b o,X.base.get? b=some o->b∉X.ex
 exfs:∀b∈X.ex,b∉X.fs
 funs:X.s₀.heap.FunFrames X.base X.outer
 frf:∀b∈X.fs,X.H₀ b=none
structure Inv (X:Cx)(pins:List (Addr×Obj))(σ:List (Option V))(H:Hp)(s:CN):Prop where
 ok:X.Ok
 os:s.os=X.s₀.os
 bare:AllBare s.gens
 base:Un X.fs X.ex X.H₀ H X.s₀.heap s.heap
 loc:∃m,s.heap.Ns X.env.locals m/\∀(i:Nat) (x:Str) (v:V),X.N[i]? = some x->σ[i]? = some (some v)->Vis X.env.scope x->∃u,RelV v u/\Look X.env s.heap m x u
 cell:∀x c,X.env.cells.lookup x=some c->∃v,s.heap.IsCell c v
 free:H X.env.locals=none
 freeC:∀x c,X.env.cells.lookup x=some c->H c=none
 pin:∀p∈X.pn++pins,s.heap.get? p.1=some p.2/\H p.1=none/\p.1≠X.env.locals/\p.1∉X.fs/\∀v,p.2.data ≠ .cell v
 hok:HOk X.prog X.w H s.heap
 len:σ.length=X.N.length
section
variable  {X:Cx}{pins:List (Addr×Obj)}{σ:List (Option V)}{H H':Hp}{s:CN}{h':Heap}
theorem Cx.Ok.nofr (ok:X.Ok){b:Addr}{o:Obj}(e:X.base.get? b=some o):b∉X.fs:=λhb=>by
 have:=(ok.funs.mem hb).1
 rw[e] at this;cases this
theorem Inv.bs (I:Inv X pins σ H s):∀b o,X.base.get? b=some o->s.heap.get? b=some o/\H b=none:=λb o e =>
 ⟨I.base.keep b o (I.ok.bs b o e).1 (I.ok.bs b o e).2 (I.ok.nofr e) (I.ok.noex b o e),I.base.free b o (I.ok.bs b o e).1 (I.ok.bs b o e).2 (I.ok.noex b o e)⟩
theorem Inv.bk (I:Inv X pins σ H s):∀b o,X.base.get? b=some o->s.heap.get? b=some o:=λb o e=>(I.bs b o e).1
theorem Inv.mod (I:Inv X pins σ H s):Mod X.K X.mg X.base:=I.ok.mod
theorem Inv.kIn (I:Inv X pins σ H s):X.K.In s.heap:=I.ok.mod.kin.keeps I.bk
theorem Inv.lt (I:Inv X pins σ H s):X.env.locals<s.heap.objs.size:=let ⟨_,hn,_⟩:=I.loc;hn.lt
theorem Inv.sz (I:Inv X pins σ H s):X.s₀.heap.objs.size<=s.heap.objs.size:=DT I.ok.above (GP I.lt)
theorem Inv.AI (I:Inv X pins σ H s){a:Addr}(h:s.heap.objs.size<=a):a∉X.fs:=λhb=>by
 obtain ⟨_,o,ho,_⟩:=I.ok.funs.mem hb
 exact absurd (Dm (C1 ho) (DT I.sz h)) (D4 _)
theorem Inv.cne (I:Inv X pins σ H s):∀x c,X.env.cells.lookup x=some c->c≠X.env.locals:=λx c e z=>by
 obtain ⟨v,o,ho,hd⟩:=I.cell x c e
 obtain ⟨m,⟨o',es,ep,ho',hd',_⟩,_⟩:=I.loc
 rw[z,ho'] at ho;cases ho;rw[hd'] at hd;cases hd
theorem Inv.funs (I:Inv X pins σ H s):s.heap.FunFrames X.base X.outer:=by
 have all:∀(l:List Env),(∀b∈frs l,b∈X.fs)->X.s₀.heap.FunFrames X.base l->s.heap.FunFrames X.base l:=by
  intro l
  induction l with
  | nil=>intro _ _;trivial
  | cons env r ih =>
   intro hs hl
   obtain ⟨hk,⟨L,o,hf,hn,ho,hd⟩,hr⟩:=hl
   have hL:L∈X.fs:=hs L (by unfold frs;rw[Ir,hf];exact Di)
   obtain ⟨sl,e⟩:=I.base.slot L o ho (I.ok.frf L hL) hL λz=>I.ok.exfs L z hL
   exact ⟨hk,⟨L,_,hf,hn,e,hd⟩,ih (λb hb=>hs b (by unfold frs;rw[Ir,hf];exact Dj _ hb)) hr⟩
 exact all X.outer (λ_ hb=>hb) I.ok.funs
theorem Inv.stack (I:Inv X pins σ H s):s.heap.FunFrames X.base X.stack:=by
 rcases I.ok.stk with e | ⟨e,hf⟩
 ·rw[e];exact I.funs
 ·rw[e]
  obtain ⟨m,hn,_⟩:=I.loc
  refine .cons (by rw[I.ok.kind];decide) hf hn ?_ I.funs
  exact Heap.get?_none_of_le (DT I.ok.bsz I.ok.above)
theorem Inv.oM (I:Inv X pins σ H s):∀b∈frs X.stack,b∈X.env.locals :: X.fs:=λb hb=>by
 rcases I.ok.stk with e | ⟨e,hf⟩
 ·rw[e] at hb;exact Dj _ hb
 ·rw[e] at hb
  unfold frs at hb
  rw[Ir,hf] at hb
  exact hb
theorem Inv.tQ (I:Inv X pins σ H s):∀b∈frs X.stack,H b=none:=λb hb=>by
 rcases C9.mp (I.oM b hb) with e | hb
 ·rw[e];exact I.free
 ·obtain ⟨_,o,ho,_⟩:=I.ok.funs.mem hb
  exact I.base.free b o ho (I.ok.frf b hb) λz=>I.ok.exfs b z hb
theorem Inv.step {g':Array GenState}{t':Nat}{d':Drawn}{ch:List Addr}(I:Inv X pins σ H s)
  (hch:∀b∈ch,(b∈X.ex\/X.s₀.heap.objs.size<=b)/\b≠X.env.locals/\(∀x c,X.env.cells.lookup x=some c->c≠b)/\∀p∈X.pn++pins,p.1≠b)
  (keep:∀b o,b≠X.env.locals->b∉X.fs->b∉ch->s.heap.get? b=some o->H b=none->h'.get? b=some o)
  (slot:∀b o,b≠X.env.locals->b∈X.fs->b∉ch->s.heap.get? b=some o->H b=none->∃sl,h'.get? b=some { o with slots:=sl }) (free:∀b o,b∉ch->s.heap.get? b=some o->H b=none->H' b=none)
  (there:∀b o,b∉ch->s.heap.get? b=some o->∃o',h'.get? b=some o')
  (tups:∀b xs,H b=some (.tup xs)->H' b=some (.tup xs)) (frzs:∀b o u,H b=some (.frz o u)->H' b=some (.frz o u)) (tbls:∀b ps,H b=some (.tbl ps)->∃more,H' b=some (.tbl (ps++more)))
  (ns:∀m,s.heap.Ns X.env.locals m->h'.Ns X.env.locals m) (hok:HOk X.prog X.w H' h') (hg:AllBare g') :
  Inv X pins σ H' { s with heap:=h',gens:=g',drawn:=d',toks:=t' }:=by
 have neL:∀b o,X.s₀.heap.get? b=some o->b≠X.env.locals:=λb o e=>Dc (Dm (C1 e) I.ok.above)
 have neC:∀b o,X.s₀.heap.get? b=some o->b∉X.ex->b∉ch:=λb o e hx hb=>by
  rcases (hch b hb).1 with z | z
  ·exact hx z
  ·exact absurd (Dm (C1 e) z) (D4 _)
 have cellK:∀x c,X.env.cells.lookup x=some c->∀v,s.heap.IsCell c v->h'.IsCell c v:=λx c e v ⟨o,ho,hd⟩=>by
  have nch:c∉ch:=λz=>(hch c z).2.2.1 x c e rfl
  by_cases hc:c∈X.fs
  ·obtain ⟨sl,q⟩:=slot c o (I.cne x c e) hc nch ho (I.freeC x c e)
   exact ⟨_,q,hd⟩
  ·exact ⟨o,keep c o (I.cne x c e) hc nch ho (I.freeC x c e),hd⟩
 refine ⟨I.ok,I.os,hg,⟨λb o e n hb hx =>?_,λb o e n hb hx =>?_,λb o e n hx =>?_,λb o e hx =>?_,λb xs e=>tups b xs (I.base.tups b xs e),λb o xs e=>frzs b o xs (I.base.frzs b o xs e),λb ps e =>?_⟩,?_,λx c e =>?_,?_,λx c e =>?_,λp hp =>?_,hok,I.len⟩
 ·exact keep b o (neL b o e) hb (neC b o e hx) (I.base.keep b o e n hb hx) (I.base.free b o e n hx)
 ·obtain ⟨sl,e1⟩:=I.base.slot b o e n hb hx
  obtain ⟨sl',e2⟩:=slot b _ (neL b o e) hb (neC b o e hx) e1 (I.base.free b o e n hx)
  exact ⟨sl',e2⟩
 ·obtain ⟨o',e1⟩:=I.base.there b o e hx
  exact free b o' (neC b o e hx) e1 (I.base.free b o e n hx)
 ·obtain ⟨o',e1⟩:=I.base.there b o e hx
  exact there b o' (neC b o e hx) e1
 ·obtain ⟨m1,e1⟩:=I.base.tbls b ps e
  obtain ⟨m2,e2⟩:=tbls b _ e1
  exact ⟨m1++m2,by rw[e2,Array.append_assoc]⟩
 ·obtain ⟨m,hn,hl⟩:=I.loc
  refine ⟨m,ns m hn,λi x v e1 e2 e3 =>?_⟩
  obtain ⟨u,r,l⟩:=hl i x v e1 e2 e3
  refine ⟨u,r,?_⟩
  rcases l with l | ⟨k,c,e,z⟩
  ·exact .inl l
  ·exact .inr ⟨k,c,e,cellK x c e _ z⟩
 ·obtain ⟨v,z⟩:=I.cell x c e
  exact ⟨v,cellK x c e v z⟩
 ·obtain ⟨m,⟨o,_,_,ho,_⟩,_⟩:=I.loc
  exact free _ o (λz=>(hch _ z).2.1 rfl) ho I.free
 ·obtain ⟨v,o,ho,hd⟩:=I.cell x c e
  exact free c o (λz=>(hch c z).2.2.1 x c e rfl) ho (I.freeC x c e)
 ·obtain ⟨e,n,ne,nf,d⟩:=I.pin p hp
  have nch:p.1∉ch:=λz=>(hch p.1 z).2.2.2 p hp rfl
  exact ⟨keep p.1 p.2 ne nf nch e n,free p.1 p.2 nch e n,ne,nf,d⟩
theorem Inv.un {t':Nat}(I:Inv X pins σ H s)(u:Un X.fs [] H H' s.heap h')(hok:HOk X.prog X.w H' h'):Inv X pins σ H' { s with heap:=h',toks:=t' }:=by
 obtain ⟨m,⟨o,es,ep,ho,r⟩,_⟩:=id I.loc
 obtain ⟨sl,hL⟩:=u.any ho I.free (by simp)
 exact I.step (g':=s.gens) (d':=s.drawn) (ch:=[]) (λ_ z=>nomatch z) (λb o _ hb _ e n=>u.keep b o e n hb (by simp)) (λb o _ hb _ e n=>u.slot b o e n hb (by simp)) (λb o _ e n=>u.free b o e n (by simp)) (λb o _ e=>u.there b o e (by simp)) u.tups u.frzs u.tbls (λm' hm=>by
  obtain ⟨o',es',ep',ho',r'⟩:=hm
  rw[ho] at ho';cases ho'
  exact ⟨_,es',ep',hL,r'⟩) hok I.bare
theorem Inv.call {g':Array GenState}{t':Nat}{d':Drawn}{ch:List Addr}(I:Inv X pins σ H s)(u:Un (frs X.stack) ch H H' s.heap h')(hok:HOk X.prog X.w H' h')(hg:AllBare g')
  (hch:∀b∈ch,(b∈X.ex\/X.s₀.heap.objs.size<=b)/\b≠X.env.locals/\(∀x c,X.env.cells.lookup x=some c->c≠b)/\∀p∈X.pn++pins,p.1≠b) :
  Inv X pins σ H' { s with heap:=h',gens:=g',drawn:=d',toks:=t' }:=by
 obtain ⟨m,⟨o,es,ep,ho,r⟩,_⟩:=id I.loc
 obtain ⟨sl,hL⟩:=u.any ho I.free λz=>(hch _ z).2.1 rfl
 exact I.step (ch:=ch) hch (λb o hL hb hc e n=>u.keep b o e n (λz=>(C9.mp (I.oM b z)).elim hL hb) hc) (λb o _ _ hc e n=>u.any e n hc) (λb o hc e n=>u.free b o e n hc) (λb o hc e=>u.there b o e hc) u.tups u.frzs u.tbls (λm' hm=>by
  obtain ⟨o',es',ep',ho',r'⟩:=hm
  rw[ho] at ho';cases ho'
  exact ⟨_,es',ep',hL,r'⟩) hok hg
theorem Inv.turned {t':Nat}{it:Addr}(I:Inv X pins σ H s)(k:∀b o,b≠it->s.heap.get? b=some o->h'.get? b=some o)(hn:H it=none)(hL:it≠X.env.locals)
  (h1:it∈X.ex\/X.s₀.heap.objs.size<=it) (h2:∀x c,X.env.cells.lookup x=some c->c≠it) (h3:∀p∈X.pn++pins,p.1≠it):Inv X pins σ H { s with heap:=h',toks:=t' }:=by
 have nit:∀b u,H b=some u->b≠it:=λb u e z=>by rw[z,hn] at e;cases e
 refine I.step (g':=s.gens) (d':=s.drawn) (ch:=[it]) (λb hb =>?_) (λb o _ _ hc e _=>k b o (λz=>hc (by simp[z])) e) (λb o _ _ hc e _=>⟨o.slots,k b o (λz=>hc (by simp[z])) e⟩) (λ_ _ _ _ n=>n)
  (λb o hc e=>⟨o,k b o (λz=>hc (by simp[z])) e⟩) (λ_ _ e=>e) (λ_ _ _ e=>e) (λb ps e=>⟨#[],by rw[e];simp⟩) (λm hm =>?_) (λb u e =>?_) I.bare
 ·have e:b=it:=by simpa using hb
  subst e
  exact ⟨h1,hL,h2,h3⟩
 ·obtain ⟨o,es,ep,ho,r⟩:=hm
  exact ⟨o,es,ep,k _ o (D8 hL) ho,r⟩
 ·refine (I.hok b u e).stay (λc v hc q=>k c v ?_ q) (λ_ q=>q) λ_ _ q=>q
  rcases hc with z | z
  ·rw[z];exact nit b u e
  ·exact nit c _ z
theorem Inv.tok (I:Inv X pins σ H s)(t:Nat):Inv X pins σ H { s with toks:=t }:=I.un (h':=s.heap) (t':=t) Un.refl I.hok
theorem Inv.kept {t':Nat}(I:Inv X pins σ H s)(k:∀b u,s.heap.get? b=some u->h'.get? b=some u):Inv X pins σ H { s with heap:=h',toks:=t' }:=I.un (Un.kept k) (I.hok.kept k)
theorem Inv.laid {a:Addr}{o:HO}{t':Nat}(I:Inv X pins σ H s)(k:∀b u,s.heap.get? b=some u->h'.get? b=some u)(hp:s.heap.objs.size<=a)(new:bB X.prog X.w (upd H a o) h' a o) :
  Inv X pins σ (upd H a o) { s with heap:=h',toks:=t' }:=I.un (Un.laid k hp (I.hok.fresh hp)) (I.hok.laid k hp new)
theorem Inv.write {x e:Addr}{o:HO}{t':Nat}(I:Inv X pins σ H s)(mu:Mut (H x))(he:e=x\/H e=some (.own x))(k:∀b u,b≠e->s.heap.get? b=some u->h'.get? b=some u)(heo:∃u,h'.get? e=some u)
  (new:bB X.prog X.w (upd H x o) h' x o):Inv X pins σ (upd H x o) { s with heap:=h',toks:=t' }:=I.un (Un.write mu he k heo) (I.hok.write mu he k heo new)
theorem Inv.iK {pins':List (Addr×Obj)}(I:Inv X pins σ H s)(h:∀p∈pins',s.heap.get? p.1=some p.2/\H p.1=none/\p.1≠X.env.locals/\p.1∉X.fs/\∀v,p.2.data ≠ .cell v):Inv X pins' σ H s :=
 ⟨I.ok,I.os,I.bare,I.base,I.loc,I.cell,I.free,I.freeC,λp hp=>(CW.mp hp).elim (λz=>I.pin p (Dn _ z)) (h p),I.hok,I.len⟩
theorem qe {N:List Str}(hN:N.Nodup){i j:Nat}{x:Str}(a:N[i]? = some x)(b:N[j]? = some x):i=j:=by
 obtain ⟨h1,e1⟩:=CP.mp a
 obtain ⟨h2,e2⟩:=CP.mp b
 exact (Lc hN).mp (e1.trans e2.symm)
theorem ve {M:Model}{A:D1}{E:CJ->CN->Prop}{i:Nat}{x:Str}{v:V}{u:CJ}{Q:Unit->CN->Prop}(I:Inv X pins σ H s)(hN:X.N.Nodup)(hi:X.N[i]? = some x)(hx:Loc X.env.scope x)(r:RelV v u)
  (h:∀s',Inv X pins (σ.set i (some v)) H s'->(∃a,Heap.SameBut a s.heap s'.heap/\(a=X.env.locals\/X.env.cells.lookup x=some a))->Q () s') (hf:X.fn x=true\/X.env.scope.names.lookup x=some .local:=by first | exact .inl rfl | exact .inr rfl | assumption):Dh M A (storeName X.env x u) Q E s:=by
 obtain ⟨m,hn,hl⟩:=id I.loc
 have hcls:(X.env.scope.kind == .class || (X.env.scope.kind == .module && X.env.locals != X.env.globals))=false:=by rw[I.ok.kind];rfl
 have hiσ:i<σ.length:=by rw[I.len];exact (CP.mp hi).1
 have cne:=I.cne
 have tracked:∀{a:Addr} {h':Heap},(∃o,s.heap.get? a=some o/\H a=none)->Heap.SameBut a s.heap h'->HOk X.prog X.w H h':=λ{a h'} ha hs b ob e=>by
  obtain ⟨_,_,hfree⟩:=ha
  refine (I.hok b ob e).stay (λc w' hc q=>(hs.2 c ?_).trans q) (λ_ q=>q) λ_ _ q=>q
  rintro rfl
  rcases hc with rfl | hc
  ·rw[hfree] at e;cases e
  ·rw[hfree] at hc;cases hc
 rcases hx with hk | hk
 ·refine wpAny_storeName_local hk hn (λh' hn' hs =>?_) hcls
  obtain ⟨oL,_,_,hoL,_⟩:=id hn
  refine h _ ⟨I.ok,I.os,I.bare,⟨λb o e n hb hx =>?_,λb o e n hb hx =>?_,I.base.free,λb o e hx =>?_,I.base.tups,I.base.frzs,I.base.tbls⟩,⟨_,hn',λj y v' e1 e2 e3 =>?_⟩,λy c e =>?_,I.free,I.freeC,λp hp =>?_,tracked ⟨oL,hoL,I.free⟩ hs,by simpa using I.len⟩ ⟨_,hs,.inl rfl⟩
  ·exact (hs.2 b (Dc (Dm (C1 e) I.ok.above))).trans (I.base.keep b o e n hb hx)
  ·obtain ⟨sl,e1⟩:=I.base.slot b o e n hb hx
   exact ⟨sl,(hs.2 b (Dc (Dm (C1 e) I.ok.above))).trans e1⟩
  ·obtain ⟨o',e1⟩:=I.base.there b o e hx
   exact ⟨o',(hs.2 b (Dc (Dm (C1 e) I.ok.above))).trans e1⟩
  ·by_cases hj:j=i
   ·subst hj
    rw[hi] at e1;cases e1
    rw[Ey hiσ] at e2
    cases e2
    exact ⟨u,r,.inl ⟨hk,by simp⟩⟩
   ·rw[E2 (D8 hj)] at e2
    obtain ⟨u',r',q⟩:=hl j y v' e1 e2 e3
    refine ⟨u',r',?_⟩
    rcases q with ⟨k,e⟩ | ⟨k,c,e,z⟩
    ·refine .inl ⟨k,?_⟩
     have:y≠x:=λe=>hj (qe hN e1 (e ▸ hi))
     simp[this,e]
    ·exact .inr ⟨k,c,e,z.sameBut hs (cne y c e)⟩
  ·obtain ⟨w',z⟩:=I.cell y c e
   exact ⟨w',z.sameBut hs (cne y c e)⟩
  ·obtain ⟨e,n,ne,nf,d⟩:=I.pin p hp
   exact ⟨(hs.2 p.1 ne).trans e,n,ne,nf,d⟩
 ·have hfn:X.fn x=true:=by
   rcases hf with z | z
   ·exact z
   ·rw[z] at hk;cases hk
  obtain ⟨c,hc⟩:=I.ok.has x (.inl hk)
  obtain ⟨w',z⟩:=I.cell x c hc
  refine wpAny_storeName_cell I.ok.kind hk hc z (λh' hc' hs =>?_)
  obtain ⟨oc,hoc,hocd⟩:=id z
  refine h { s with heap:=h' } ⟨I.ok,I.os,I.bare,⟨λb o e n hb hx =>?_,λb o e n hb hx =>?_,I.base.free,λb o e hx =>?_,I.base.tups,I.base.frzs,I.base.tbls⟩,⟨m,hn.sameBut hs (D8 (cne x c hc)),λj y v' e1 e2 e3 =>?_⟩,λy c' e =>?_,I.free,I.freeC,λp hp =>?_,tracked ⟨oc,hoc,I.freeC x c hc⟩ hs,by simpa using I.len⟩ ⟨c,hs,.inr hc⟩
  ·exact (hs.2 b (Dc (Dm (C1 e) (I.ok.cab x c hfn hc)))).trans (I.base.keep b o e n hb hx)
  ·obtain ⟨sl,e1⟩:=I.base.slot b o e n hb hx
   exact ⟨sl,(hs.2 b (Dc (Dm (C1 e) (I.ok.cab x c hfn hc)))).trans e1⟩
  ·obtain ⟨o',e1⟩:=I.base.there b o e hx
   exact ⟨o',(hs.2 b (Dc (Dm (C1 e) (I.ok.cab x c hfn hc)))).trans e1⟩
  ·by_cases hj:j=i
   ·subst hj
    rw[hi] at e1;cases e1
    rw[Ey hiσ] at e2
    cases e2
    exact ⟨u,r,.inr ⟨.inl hk,c,hc,hc'⟩⟩
   ·rw[E2 (D8 hj)] at e2
    obtain ⟨u',r',q⟩:=hl j y v' e1 e2 e3
    refine ⟨u',r',?_⟩
    rcases q with q | ⟨k,c',e,z'⟩
    ·exact .inl q
    ·refine .inr ⟨k,c',e,z'.sameBut hs ?_⟩
     rintro rfl
     exact hj (qe hN e1 (I.ok.inj _ _ _ e hc ▸ hi))
  ·by_cases hcc:c'=c
   ·subst hcc;exact ⟨_,hc'⟩
   ·obtain ⟨w2,z2⟩:=I.cell y c' e
    exact ⟨w2,z2.sameBut hs hcc⟩
  ·obtain ⟨e,n,ne,nf,d⟩:=I.pin p hp
   refine ⟨(hs.2 p.1 ?_).trans e,n,ne,nf,d⟩
   intro q
   rw[q,hoc] at e
   have q':oc=p.2:=Dk e
   exact d w' (by rw[<- q'];exact hocd)
theorem qf {M:Model}{A:D1}{E:CJ->CN->Prop}{i:Nat}{x:Str}{v:V}{u:CJ}{Q:Unit->CN->Prop}(I:Inv X pins σ H s)(hN:X.N.Nodup)(hi:X.N[i]? = some x)(hx:Loc X.env.scope x)(r:RelV v u)
  (h:∀s',Inv X pins (σ.set i (some v)) H s'->Q () s') (hf:X.fn x=true\/X.env.scope.names.lookup x=some .local:=by first | exact .inl rfl | exact .inr rfl | assumption):Dh M A (storeName X.env x u) Q E s :=
 ve I hN hi hx r (λs' I' _=>h s' I') hf
theorem Inv.BK {s':CN}{ch:List Addr}(I:Inv X pins σ H s)(ho:s'.os=s.os)(u:Un (frs X.stack) ch H H' s.heap s'.heap)(hok:HOk X.prog X.w H' s'.heap)(hg:AllBare s'.gens)
  (hch:∀b∈ch,(b∈X.ex\/X.s₀.heap.objs.size<=b)/\b≠X.env.locals/\(∀x c,X.env.cells.lookup x=some c->c≠b)/\∀p∈X.pn++pins,p.1≠b):Inv X pins σ H' s':=by
 obtain ⟨h',g',d',t',o'⟩:=s'
 have e:o'=s.os:=ho
 subst e
 exact I.call (g':=g') (t':=t') (d':=d') u hok hg hch
end
abbrev XK:=CJ->Option Addr->Hp->Prop
abbrev St:=List (Option V)
abbrev VK:=V->Hp->Prop
abbrev TE:=St->Hp->VK->Prop
abbrev TT:=St->Hp->(Bool->Hp->Prop)->Prop
abbrev TA:=St->Hp->(List V->Hp->Prop)->Prop
structure Ends where
 nx:St->Hp->Prop
 rt:VK
 bk:St->Hp->Prop:=λ_ _=>False
 ct:St->Hp->Prop:=λ_ _=>False
abbrev TS:=Ends->St->Hp->Prop
def EP (X:Cx)(pins:List (Addr×Obj))(σ:St)(Q:VK)(u:CJ)(s':CN):Prop:=∃v H',Inv X pins σ H' s'/\RelV v u/\Q v H'
def TP (X:Cx)(pins:List (Addr×Obj))(σ:St)(Q:Bool->Hp->Prop)(b:Bool)(s':CN):Prop:=∃H',Inv X pins σ H' s'/\Q b H'
def AP (X:Cx)(pins:List (Addr×Obj))(σ:St)(Q:List V->Hp->Prop)(us:List CJ)(s':CN):Prop:=∃vs H',Inv X pins σ H' s'/\Vals vs us/\Q vs H'
def SP (X:Cx)(pins:List (Addr×Obj))(D:Ends)(f:Flow)(s':CN):Prop :=
 match f with
 | .next=>∃σ' H',Inv X pins σ' H' s'/\D.nx σ' H'
 | .brk=>∃σ' H',Inv X pins σ' H' s'/\D.bk σ' H'
 | .cont=>∃σ' H',Inv X pins σ' H' s'/\D.ct σ' H'
 | .ret u=>∃v σ' H',Inv X pins σ' H' s'/\RelV v u/\D.rt v H'
def PE (X:Cx)(e:Expr)(t:TE):Prop :=
 ∀(pins:List (Addr×Obj)) (s:CN) (σ:St) (H:Hp) (Q:VK),Inv X pins σ H s->t σ H Q->Dh (DA X.prog X.w) X.A (eval e X.env) (EP X pins σ Q) X.xe s
def PT (X:Cx)(e:Expr)(t:TT):Prop :=
 ∀(pins:List (Addr×Obj)) (s:CN) (σ:St) (H:Hp) (Q:Bool->Hp->Prop),Inv X pins σ H s->t σ H Q->Dh (DA X.prog X.w) X.A (isTrue e X.env (eval e X.env)) (TP X pins σ Q) X.xe s
def PW (X:Cx)(e:Expr)(t:TT):Prop :=
 ∀(whole:Sem CJ) (pins:List (Addr×Obj)) (s:CN) (σ:St) (H:Hp) (Q:Bool->Hp->Prop),Inv X pins σ H s->t σ H Q->Dh (DA X.prog X.w) X.A (isTrue e X.env whole) (TP X pins σ Q) X.xe s
theorem PW.pt {X:Cx}{e:Expr}{t:TT}(h:PW X e t):PT X e t:=h _
def PA (X:Cx)(es:List Expr)(t:TA):Prop :=
 ∀(pos:Pos) (pins:List (Addr×Obj)) (s:CN) (σ:St) (H:Hp) (Q:List V->Hp->Prop),Inv X pins σ H s->t σ H Q->Dh (DA X.prog X.w) X.A (spliced (HA pos (D6 es X.env))) (AP X pins σ Q) X.xe s
def PS (X:Cx)(st:Stmt)(t:TS):Prop :=
 ∀(pins:List (Addr×Obj)) (s:CN) (σ:St) (H:Hp) (D:Ends),Inv X pins σ H s->t D σ H->Dh (DA X.prog X.w) X.A (exec st X.env) (SP X pins D) X.xe s
def PSs (X:Cx)(st:List Stmt)(t:TS):Prop :=
 ∀(pins:List (Addr×Obj)) (s:CN) (σ:St) (H:Hp) (D:Ends),Inv X pins σ H s->t D σ H->Dh (DA X.prog X.w) X.A (execs st X.env) (SP X pins D) X.xe s
theorem thn {α:Type}{t:Sem α}{Q Q':α -> CN->Prop}{M:Model}{A:D1}{E:CJ->CN->Prop}{s:CN}(h:Dh M A t Q E s)(hQ:∀a s,Q a s->Q' a s):Dh M A t Q' E s:=FD h hQ λ_ _ x=>x
open PySem PySem.Spec PyProof.Rows
section
variable  {X:Cx}
theorem bin {a b:Expr}{ta tb:TE}(ha:PE X a ta)(hb:PE X b tb){pins:List (Addr×Obj)}{s:CN}{σ:St}{H:Hp}{R:V->V->Hp->Prop}(I:Inv X pins σ H s)(h:ta σ H λx H1=>tb σ H1 λy H2=>R x y H2)
  {α:Type} {Q:α -> CN->Prop} {f:CJ->CJ->Sem α}
  (hf:∀v u s2 x y H2,Inv X pins σ H2 s2->RelV x v->RelV y u->R x y H2->Dh (DA X.prog X.w) X.A (f v u) Q X.xe s2) :
  Dh (DA X.prog X.w) X.A (eval a X.env) (λv s₁=>Dh (DA X.prog X.w) X.A (eval b X.env) (λu s₂=>Dh (DA X.prog X.w) X.A (f v u) Q X.xe s₂) X.xe s₁) X.xe s:=by
 refine thn (ha pins s σ H _ I h) λv s1 ⟨x,H1,I1,r1,q1⟩ =>?_
 refine thn (hb pins s1 σ H1 _ I1 q1) λu s2 ⟨y,H2,I2,r2,q2⟩ =>?_
 exact hf v u s2 x y H2 I2 r1 r2 q2
def BL (i:Nat):TE:=λσ H Q=>∃v,σ[i]? = some (some v)/\Q v H
def tC (v:V):TE:=λ_ H Q=>Q v H
theorem AJ {i:Nat}{x:Str}{pos:Pos}(hN:X.N[i]? = some x)(hv:Vis X.env.scope x)(hd:(x == ("__debug__" : Str))=false:=by decide)(hcd:(x == ("__classdict__" : Str))=false:=by decide):PE X (.Name x pos) (BL i):=by
 intro pins s σ H Q I h
 obtain ⟨v,e,h⟩:=h
 obtain ⟨m,hn,hl⟩:=I.loc
 obtain ⟨u,r,l⟩:=hl i x v hN e hv
 have fin:EP X pins σ Q u s:=⟨v,H,I,r,h⟩
 rcases l with ⟨hk,hm⟩ | ⟨hk,c,hc,hcell⟩
 ·exact LU (wpAny_loadName_local I.ok.kind hk hn hm fin) hd
 ·rcases hk with hk | hk
  ·exact LU (wpAny_loadName_cell I.ok.kind hk hc hcell fin) hd
  ·exact LU (wpAny_loadName_free I.ok.kind hk hc hcell fin hcd) hd
theorem ak {i j pos}:PE X (.Constant (.int i) j pos) (tC (.int i)):=λ_ _ _ H _ I h=>wpAny_Constant_int ⟨.int i,H,I.tok _,⟨_,rfl⟩,h⟩
theorem hZ {b j pos}:PE X (.Constant (.bool b) j pos) (tC (.bl b)):=λ_ _ _ H _ I h=>Constant_bool ⟨.bl b,H,I,rfl,h⟩
theorem jv {j pos}:PE X (.Constant .none j pos) (tC .non):=λ_ _ _ H _ I h=>Constant_none ⟨.non,H,I,rfl,h⟩
theorem ig {x j pos}:PE X (.Constant (.str x) j pos) (tC (.str x)):=λ_ _ _ H _ I h=>Calls.Constant_str ⟨.str x,H,I.tok _,⟨_,rfl⟩,h⟩
def Gl (X:Cx)(x:Str):Prop:=X.env.kindOf x=some .globalImplicit
theorem yM {E:CJ->CN->Prop}{pins:List (Addr×Obj)}{s:CN}{σ:St}{H:Hp}{x:Str}{u:CJ}{pos:Pos}{Q:CJ->CN->Prop}(I:Inv X pins σ H s)(hg:Gl X x)(hm:X.mg x=some u)(h:Q u s)
  (hd:(x == ("__debug__" : Str))=false:=by decide):Dh (DA X.prog X.w) X.A (eval (.Name x pos) X.env) Q E s :=
 IC I.ok.kind hg (Calls.loadGlobal_global (by rw[I.ok.glob];exact I.mod.glob.keeps I.bk) hm h) hd
theorem dD {E:CJ->CN->Prop}{pins:List (Addr×Obj)}{s:CN}{σ:St}{H:Hp}{x:Str}{u:CJ}{pos:Pos}{Q:CJ->CN->Prop}(I:Inv X pins σ H s)(hg:Gl X x)(hm:X.mg x=none)(hv:Ec x=some u)(h:Q u s)
  (hn:x ≠ "__name__" := by decide) (hd:(x == ("__debug__" : Str))=false:=by decide):Dh (DA X.prog X.w) X.A (eval (.Name x pos) X.env) Q E s:=by
 obtain ⟨mb,h1,h2⟩:=I.mod.blt
 exact IC I.ok.kind hg (Calls.loadGlobal_builtin (by rw[I.ok.glob];exact I.mod.glob.keeps I.bk) hm (by rw[I.ok.blt];exact h1.keeps I.bk) ((h2 x hn).trans hv) h) hd
theorem gH {x:Str}{v:V}{u:CJ}{pos:Pos}(hg:Gl X x)(hm:X.mg x=none)(hv:Ec x=some u)(r:RelV v u)(hn:x ≠ "__name__" := by decide)(hd:(x == ("__debug__" : Str))=false:=by decide):PE X (.Name x pos) (tC v) :=
 λ_ _ _ H _ I h=>dD I hg hm hv ⟨v,H,I,r,h⟩ hn hd
variable  {a b:Expr}{ta tb:TE}{pos:Pos}
def PC (X:Cx)(op:CmpOp)(a b:Expr)(t:TE):Prop :=
 ∀(pins:List (Addr×Obj)) (s:CN) (σ:St) (H:Hp) (Q:VK),Inv X pins σ H s->t σ H Q →
  Dh (DA X.prog X.w) X.A (eval a X.env) (λv s₁=>Dh (DA X.prog X.w) X.A (eval b X.env) (λu s₂=>Dh (DA X.prog X.w) X.A (EV op v u) (EP X pins σ Q) X.xe s₂) X.xe s₁) X.xe s
theorem wA (b:Expr){op:CmpOp}(h:op ≠ .In)(h2:op ≠ .NotIn):behindInMarks op b=false:=by
 have e1:(op == CmpOp.In)=false:=by cases op <;> first | rfl | exact absurd rfl h
 have e2:(op == CmpOp.NotIn)=false:=by cases op <;> first | rfl | exact absurd rfl h2
 cases b <;> simp[behindInMarks,e1,e2]
def tB (t:TE):TT:=λσ H Q=>t σ H λx H1=>∃c,x = .bl c/\Q c H1
theorem fZ {op:CmpOp}{t:TE}(h:PC X op a b t)(h1:behindInMarks op b=false:=by first | exact wA _ (by decide) (by decide) | rfl):PT X (.Compare a [op] [b] pos) (tB t):=by
 intro pins s σ H Q I hw
 refine JT (thn (h pins s σ H _ I hw) λv s1 h1=>thn h1 λu s2 h2=>thn h2 λc s3 ⟨x,H1,I1,r1,q1⟩ =>?_) h1
 obtain ⟨d,rfl,q⟩:=q1
 cases r1
 exact ES ⟨H1,I1,q⟩
theorem fG {e:Expr}{t:TE}(h:PE X e t)(he:∀whole,isTrue e X.env whole=(do let v ← whole;standAt e.pos;HU [v] (truthy v)):=by intro _;rfl):PT X e (tB t):=by
  intro pins s σ H Q I hw
  refine isTrue_plain (thn (h pins s σ H _ I hw) λv s1 ⟨x,H1,I1,r1,q1⟩ =>?_) (he _)
  obtain ⟨d,rfl,q⟩:=q1
  cases r1
  exact ES ⟨H1,I1,q⟩
variable  {tA tB':TT}{rest:List Expr}
def tAnd (t u:TT):TT:=λσ H Q=>t σ H λc H1=>if c=true then u σ H1 Q else Q false H1
def tOr (t u:TT):TT:=λσ H Q=>t σ H λc H1=>if c=true then Q true H1 else u σ H1 Q
def tNot (t:TT):TT:=λσ H Q=>t σ H λc H1=>Q (!c) H1
theorem iL (ha:PT X a tA):PW X (.BoolOp .And [a] pos) tA:=by
 intro wh pins s σ H Q I h
 refine isTrue_and (thn (ha pins s σ H Q I h) λc s1 e =>?_)
 cases c with
 | true=>exact isTrue_and_nil e
 | false=>exact e
theorem kK (ha:PT X a tA):PW X (.BoolOp .Or [a] pos) tA:=by
 intro wh pins s σ H Q I h
 refine isTrue_or (thn (ha pins s σ H Q I h) λc s1 e =>?_)
 cases c with
 | false=>exact isTrue_or_nil e
 | true=>exact e
theorem kM (ha:PT X a tA)(hb:PW X (.BoolOp .And (b :: rest) pos) tB'):PW X (.BoolOp .And (a :: b :: rest) pos) (tAnd tA tB'):=by
 intro wh pins s σ H Q I h
 refine isTrue_and (thn (ha pins s σ H _ I h) λc s1 ⟨H1,I1,q1⟩ =>?_)
 cases c with
 | true=>exact hb wh pins s1 σ H1 Q I1 q1
 | false=>exact ⟨H1,I1,q1⟩
theorem jT (ha:PT X a tA)(hb:PW X (.BoolOp .Or (b :: rest) pos) tB'):PW X (.BoolOp .Or (a :: b :: rest) pos) (tOr tA tB'):=by
 intro wh pins s σ H Q I h
 refine isTrue_or (thn (ha pins s σ H _ I h) λc s1 ⟨H1,I1,q1⟩ =>?_)
 cases c with
 | true=>exact ⟨H1,I1,q1⟩
 | false=>exact hb wh pins s1 σ H1 Q I1 q1
theorem ij (ha:PT X a tA):PT X (.UnaryOp .Not a pos) (tNot tA):=by
 intro pins s σ H Q I h
 exact isTrue_not (ha pins s σ H (λc H1=>Q (!c) H1) I h)
def BM (ta tb:TE):TE:=λσ H Q=>ta σ H λx H1=>∃c,x = .bl c/\if c=true then tb σ H1 Q else Q (.bl false) H1
def BN (ta:TE):TE:=λσ H Q=>ta σ H λx H1=>∃c,x = .bl c/\Q (.bl (!c)) H1
theorem rZ {op}{t:TE}(h:PE X a t):PE X (.BoolOp op [a] pos) t:=λpins s σ H Q I hw=>BoolOp_one (h pins s σ H Q I hw)
theorem oN (ha:PE X a ta)(hb:PE X (.BoolOp .And (b :: rest) pos) tb):PE X (.BoolOp .And (a :: b :: rest) pos) (BM ta tb):=by
 intro pins s σ H Q I h
 refine BoolOp_and (thn (ha pins s σ H _ I h) λv s1 ⟨x,H1,I1,r1,q1⟩ =>?_)
 obtain ⟨c,rfl,q1⟩:=q1
 cases r1
 refine ES ?_
 cases c with
 | true=>exact hb pins s1 σ H1 Q I1 q1
 | false=>exact ⟨.bl false,H1,I1,rfl,q1⟩
theorem AK (ha:PE X a ta):PE X (.UnaryOp .Not a pos) (BN ta):=by
 intro pins s σ H Q I h
 refine UnaryOp_ (thn (ha pins s σ H _ I h) λv s1 ⟨x,H1,I1,r1,q1⟩ =>?_)
 obtain ⟨c,rfl,q1⟩:=q1
 cases r1
 exact not_of (ES ⟨.bl (!c),H1,I1,rfl,q1⟩)
def tIf (t:TT)(ta tb:TE):TE:=λσ H Q=>t σ H λc H1=>if c=true then ta σ H1 Q else tb σ H1 Q
theorem wB {c:Expr}(hc:PT X c tA)(ha:PE X a ta)(hb:PE X b tb):PE X (.IfExp c a b pos) (tIf tA ta tb):=by
 intro pins s σ H Q I h
 refine wpAny_IfExp (thn (hc pins s σ H _ I h) λd s1 ⟨H1,I1,q1⟩ =>?_)
 cases d with
 | true=>exact ha pins s1 σ H1 Q I1 q1
 | false=>exact hb pins s1 σ H1 Q I1 q1
end
open PySem PySem.Spec PyProof.Rows
def SqL (K:CM)(H:Hp)(a:Addr)(xs:List V):Prop :=
 Rd H a (.lst xs) ∨
  ∃(o:Obj) (its:Array CJ) (n:Nat),K.lookup a=some o/\o.cls = .type "list" /\ o.dict=none/\o.data = .seq its n/\its.size<=C6/\Vals xs its.toList
def SqT (K:CM)(H:Hp)(a:Addr)(xs:List V):Prop :=
 Rd H a (.tup xs) ∨
  ∃(o:Obj) (its:Array CJ) (n:Nat),K.lookup a=some o/\o.cls = .type "tuple" /\ o.data = .seq its n/\its.size<=C6/\Vals xs its.toList
def absV:CJ->Option V
 | .none=>some .non
 | .bool b=>some (.bl b)
 | .int i _=>some (.int i)
 | .str x _=>some (.str x)
 | .bytes b _=>some (.byt b)
 | .float b _=>some (.flt b)
 | .ref a=>some (.ref a)
 | .type n=>some (.ty n)
 | _=>none
theorem RelV.abs {x:V}{u:CJ}(r:RelV x u):absV u=some x:=by
 cases x with
 | non=>cases r;rfl
 | bl _=>cases r;rfl
 | int _=>obtain ⟨t,rfl⟩:=r;rfl
 | str _=>obtain ⟨t,rfl⟩:=r;rfl
 | byt _=>obtain ⟨t,rfl⟩:=r;rfl
 | flt _=>obtain ⟨t,rfl⟩:=r;rfl
 | ref _=>cases r;rfl
 | ty _=>cases r;rfl
theorem RelV.inj {x y:V}{u:CJ}(r:RelV x u)(q:RelV y u):x=y:=Dk (r.abs.symm.trans q.abs)
theorem Vals.inj:∀{xs ys:List V} {us:List CJ},Vals xs us->Vals ys us->xs=ys
 | _,_,_,.nil,.nil=>rfl
 | _,_,_,.cons r t,.cons r' t'=>by rw[r.inj r',Vals.inj t t']
section
variable  {X:Cx}{pins:List (Addr×Obj)}{σ:St}{H:Hp}{s:CN}{a:Addr}{xs ys:List V}
theorem SqL.of {K:CM}(h:H a=some (.lst xs)):SqL K H a xs :=.inl (.inl h)
theorem SqT.of {K:CM}(h:H a=some (.tup xs)):SqT K H a xs :=.inl (.inl h)
theorem Inv.list (I:Inv X pins σ H s)(h:SqL X.K H a xs):∃its:List CJ,Vals xs its/\PlainL s.heap a its.toArray/\xs.length<=C6:=by
 rcases h with h | ⟨o,its,n,hk,hc,hd,hs,hz,r⟩
 ·obtain ⟨z,its,n,r,e⟩:=h.ok I.hok
  exact ⟨its,r,⟨_,n,e,rfl,rfl,rfl⟩,z⟩
 ·refine ⟨its.toList,r,⟨o,n,I.kIn a o hk,hc,hd,by simpa using hs⟩,?_⟩
  have e:=r.length
  simp only[CV] at e
  lia
theorem Inv.tuple (I:Inv X pins σ H s)(h:SqT X.K H a xs):∃its:List CJ,Vals xs its/\IsTup s.heap a its.toArray/\xs.length<=C6:=by
 rcases h with h | ⟨o,its,n,hk,hc,hs,hz,r⟩
 ·obtain ⟨z,its,r,p⟩:=h.ok I.hok
  exact ⟨its,r,p.tup,z⟩
 ·refine ⟨its.toList,r,⟨o,I.kIn a o hk,hc,n,by simpa using hs⟩,?_⟩
  have e:=r.length
  simp only[CV] at e
  lia
theorem Inv.qg (I:Inv X pins σ H s)(h:SqL X.K H a xs)(h':SqL X.K H a ys):xs=ys:=by
 obtain ⟨its,r,⟨o,n,e,_,_,d⟩,_⟩:=I.list h
 obtain ⟨its',r',⟨o',n',e',_,_,d'⟩,_⟩:=I.list h'
 rw[e] at e';cases e'
 rw[d] at d'
 injection d' with d1 _
 have:its=its':=by simpa using congrArg Array.toList d1
 subst this
 exact r.inj r'
theorem Inv.jw (I:Inv X pins σ H s)(h:SqT X.K H a xs)(h':SqT X.K H a ys):xs=ys:=by
 obtain ⟨its,r,⟨o,e,_,n,d⟩,_⟩:=I.tuple h
 obtain ⟨its',r',⟨o',e',_,n',d'⟩,_⟩:=I.tuple h'
 rw[e] at e';cases e'
 rw[d] at d'
 injection d' with d1 _
 have:its=its':=by simpa using congrArg Array.toList d1
 subst this
 exact r.inj r'
end
abbrev Cx.mJ (X:Cx)(E:CJ->CN->Prop):Cx:={ X with xe:=E }
abbrev Cx.nox (X:Cx):Cx:=X.mJ λ_ _=>False
theorem Cx.Ok.mJ {X:Cx}(ok:X.Ok)(E:CJ->CN->Prop):(X.mJ E).Ok :=
 ⟨ok.mod,ok.kind,ok.glob,ok.blt,ok.above,ok.inj,ok.has,ok.cab,ok.hd,ok.frames,ok.stk,ok.exf,ok.bs,ok.bsz,ok.noex,ok.exfs,ok.funs,ok.frf⟩
theorem Cx.Ok.f6 {X:Cx}{E:CJ->CN->Prop}(ok:(X.mJ E).Ok):X.Ok :=
 ⟨ok.mod,ok.kind,ok.glob,ok.blt,ok.above,ok.inj,ok.has,ok.cab,ok.hd,ok.frames,ok.stk,ok.exf,ok.bs,ok.bsz,ok.noex,ok.exfs,ok.funs,ok.frf⟩
section
variable  {X:Cx}{pins:List (Addr×Obj)}{σ:St}{H:Hp}{s:CN}{E:CJ->CN->Prop}
theorem Inv.mJ (I:Inv X pins σ H s)(E:CJ->CN->Prop):Inv (X.mJ E) pins σ H s:=⟨I.ok.mJ E,I.os,I.bare,I.base,I.loc,I.cell,I.free,I.freeC,I.pin,I.hok,I.len⟩
theorem Inv.f6 (I:Inv (X.mJ E) pins σ H s):Inv X pins σ H s:=⟨I.ok.f6,I.os,I.bare,I.base,I.loc,I.cell,I.free,I.freeC,I.pin,I.hok,I.len⟩
theorem SP.f6 {D:Ends}{f:Flow}{s':CN}(h:SP (X.mJ E) pins D f s'):SP X pins D f s':=by
 cases f with
 | next=>obtain ⟨σ',H',I,q⟩:=h;exact ⟨σ',H',I.f6,q⟩
 | brk=>obtain ⟨σ',H',I,q⟩:=h;exact ⟨σ',H',I.f6,q⟩
 | cont=>obtain ⟨σ',H',I,q⟩:=h;exact ⟨σ',H',I.f6,q⟩
 | ret u=>obtain ⟨v,σ',H',I,r,q⟩:=h;exact ⟨v,σ',H',I.f6,r,q⟩
theorem PSs.nox {st:List Stmt}{t:TS}(h:PSs X.nox st t):PSs X st t:=λpins s σ H D I hw =>
 FD (h pins s σ H D (I.mJ _) hw) (λ_ _ q=>q.f6) λ_ _ z=>False.elim z
end
section
variable  {X:Cx}{st:Stmt}{rest:List Stmt}{t u:TS}{e:Expr}{te:TE}{pos:Pos}
def BO:TS:=λD σ H=>D.nx σ H
def yN (t u:TS):TS:=λD σ H=>t { D with nx:=u D } σ H
theorem aR:PSs X [] BO:=λ_ _ σ H _ I h=>Iz ⟨σ,H,I,h⟩
theorem ai (h1:PS X st t)(h2:PSs X rest u):PSs X (st :: rest) (yN t u):=by
 intro pins s σ H D I h
 refine wpAny_execs_cons (thn (h1 pins s σ H { D with nx:=u D } I h) λf s1 q =>?_)
 cases f with
 | next =>
  obtain ⟨σ',H',I',q⟩:=q
  exact h2 pins s1 σ' H' D I' q
 | ret v=>exact q
 | brk=>exact q
 | cont=>exact q
theorem au (h1:PS X st t):PSs X [st] t:=by
 intro pins s σ H D I h
 refine wpAny_execs_cons (thn (h1 pins s σ H D I h) λf s1 q =>?_)
 cases f with
 | next=>exact Iz q
 | ret v=>exact q
 | brk=>exact q
 | cont=>exact q
theorem Inv.quiet {pins:List (Addr×Obj)}{σ:St}{H:Hp}{s:CN}(I:Inv X pins σ H s):interactive X.env=false:=by simp[interactive,I.ok.kind]
def BP (te:TE):TS:=λD σ H=>te σ H λ_ H1=>D.nx σ H1
theorem bI (he:PE X e te)(hs:swapsWith e none pos.line X.env=pure false:=by rfl):PS X (.Expr e pos) (BP te):=by
 intro pins s σ H D I h
 exact wpAny_Expr_any (thn (he pins s σ H _ I h) λv s1 ⟨x,H1,I1,r1,q1⟩=>⟨σ,H1,I1,q1⟩) I.quiet hs
def tRet (te:TE):TS:=λD σ H=>te σ H D.rt
theorem aL (he:PE X e te):PS X (.Return (some e) pos) (tRet te):=by
 intro pins s σ H D I h
 exact wpAny_Return_some (thn (he pins s σ H _ I h) λv s1 ⟨x,H1,I1,r1,q1⟩=>⟨x,σ,H1,I1,r1,q1⟩)
def tIfS (c:TT)(t u:TS):TS:=λD σ H=>c σ H λb H1=>if b=true then t D σ H1 else u D σ H1
theorem bC {c:Expr}{a b:List Stmt}{tc:TT}(hc:PT X c tc)(ha:PSs X a t)(hb:PSs X b u):PS X (.If c a b pos) (tIfS tc t u):=by
 intro pins s σ H D I h
 refine wpAny_If (thn (hc pins s σ H _ I h) λd s1 ⟨H1,I1,q1⟩ =>?_)
 cases d with
 | true=>exact ha pins s1 σ H1 D I1 q1
 | false=>exact hb pins s1 σ H1 D I1 q1
def AL:TS:=λ_ _ _=>False
theorem cX {sts:List Stmt}:PSs X sts AL:=λ_ _ _ _ _ _ h=>h.elim
end
abbrev TG:=V->St->Hp->(St->Hp->Prop)->Prop
abbrev TGs:=List V->St->Hp->(St->Hp->Prop)->Prop
def PG (X:Cx)(target:Expr)(t:TG):Prop :=
 ∀(pins:List (Addr×Obj)) (s:CN) (σ:St) (H:Hp) (v:V) (u:CJ) (Q:St->Hp->Prop),Inv X pins σ H s->RelV v u->t v σ H Q →
  Dh (DA X.prog X.w) X.A (assign target X.env u) (λ_ s'=>∃σ' H',Inv X pins σ' H' s'/\Q σ' H') X.xe s
def PGs (X:Cx)(ts:List Expr)(t:TGs):Prop :=
 ∀(pins:List (Addr×Obj)) (s:CN) (σ:St) (H:Hp) (vs:List V) (us:List CJ) (Q:St->Hp->Prop),Inv X pins σ H s->Vals vs us->t vs σ H Q →
  Dh (DA X.prog X.w) X.A (assignInOrder ((assignEach ts X.env).map (·.2)) us) (λ_ s'=>∃σ' H',Inv X pins σ' H' s'/\Q σ' H') X.xe s
abbrev wC:=V->V->V->Hp->(Hp->Prop)->Prop
def AM (X:Cx)(t:wC):Prop :=
 ∀(pins:List (Addr×Obj)) (s:CN) (σ:St) (H:Hp) (o i v:V) (ov iv u:CJ) (Q:Hp->Prop),Inv X pins σ H s->RelV o ov->RelV i iv->RelV v u->t o i v H Q →
  Dh (DA X.prog X.w) X.A (setItem ov iv u) (λ_ s'=>∃H',Inv X pins σ H' s'/\Q H') X.xe s
abbrev TIp:=V->V->Hp->VK->Prop
def PIp (X:Cx)(op:Operator)(t:TIp):Prop :=
 ∀(pins:List (Addr×Obj)) (s:CN) (σ:St) (H:Hp) (x y:V) (v u:CJ) (Q:VK),Inv X pins σ H s->RelV x v->RelV y u->t x y H Q →
  Dh (DA X.prog X.w) X.A (inplaceOp op v u) (EP X pins σ Q) X.xe s
section
variable  {X:Cx}{pos:Pos}
def eZ (i:Nat):TG:=λv σ H Q=>Q (σ.set i (some v)) H
theorem aq {i:Nat}{x:Str}(hN:X.N.Nodup)(hi:X.N[i]? = some x)(hx:Loc X.env.scope x)(hf:X.fn x=true\/X.env.scope.names.lookup x=some .local:=by first | exact .inl rfl | exact .inr rfl | assumption):PG X (.Name x pos) (eZ i):=by
 intro pins s σ H v u Q I r h
 exact wpAny_assign_Name (qf I hN hi hx r (λs' I'=>⟨_,H,I',h⟩) hf)
def BQ:TGs:=λvs σ H Q=>vs=[]/\Q σ H
def wD (t:TG)(u:TGs):TGs:=λvs σ H Q=>∃v r,vs=v :: r/\t v σ H λσ' H'=>u r σ' H' Q
theorem aW:PGs X [] BQ:=by
 intro pins s σ H vs us Q I r h
 obtain ⟨e,h⟩:=h
 subst e
 cases r
 exact assignInOrder_nil ⟨σ,H,I,h⟩
theorem aA {e:Expr}{es:List Expr}{t:TG}{u:TGs}(h1:PG X e t)(h2:PGs X es u)
  (hs:(assignEach (e :: es) X.env).map (·.2)=assign e X.env :: (assignEach es X.env).map (·.2):=by rfl):PGs X (e :: es) (wD t u):=by
 intro pins s σ H vs us Q I r h
 obtain ⟨v,vr,e1,h⟩:=h
 subst e1
 cases r with
 | cons r rr =>
  rw[hs]
  refine assignInOrder_cons (thn (h1 pins s σ H _ _ _ I r h) λ_ s1 ⟨σ1,H1,I1,q1⟩ =>?_)
  exact h2 pins s1 σ1 H1 _ _ Q I1 rr q1
def BR (K:CM)(n:Nat)(t:TGs):TG:=λv σ H Q=>∃a xs,v = .ref a/\SqT K H a xs/\xs.length=n/\t xs σ H Q
theorem bj {es:List Expr}{k:Nat}{t:TGs}{n:Nat}(hc:X.calm=true)(h:PGs X es t)
  (hn:(assignEach es X.env).length=n:=by rfl) (hst:(assignEach es X.env).findIdx? (·.1)=none:=by rfl):PG X (.Tuple es k pos) (BR X.K n t):=by
 intro pins s σ H v u Q I r hw
 obtain ⟨a,xs,e1,hq,hl,hw⟩:=hw
 subst e1
 cases r
 obtain ⟨its,rv,ht,hz⟩:=I.tuple hq
 refine assign_Tuple_tuple (I.ok.hd hc) ht (by simp[hn, <- hl,rv.length]) hst λh' hx =>?_
 have I1:Inv X pins σ H { s with heap:=h' }:=I.kept (t':=s.toks) λb o e=>hx b o (Dc (C1 e)) e
 exact h pins _ σ H xs _ Q I1 (by simpa using rv) hw
def gSub (to ti:TE)(t:wC):TG:=λv σ H Q=>to σ H λo H1=>ti σ H1 λi H2=>t o i v H2 λH3=>Q σ H3
theorem AN {o i:Expr}{to ti:TE}{t:wC}(ho:PE X o to)(hi:PE X i ti)(hs:AM X t)
    (ha:∀v,assign (.Subscript o i pos) X.env v=(do
      let ov ← HU [v] (eval o X.env)
      let iv ← HU [v,ov] (eval i X.env)
      standAt pos
      HU [v,ov,iv] (setItem ov iv v)
      release [v,ov,iv] []):=by intro _;rfl):PG X (.Subscript o i pos) (gSub to ti t):=by
  intro pins s σ H v u Q I r h
  rw[ha]
  refine CD (D5 (thn (ho pins s σ H _ I h) λov s1 ⟨x,H1,I1,r1,q1⟩ =>?_))
  refine CD (D5 (thn (hi pins s1 σ H1 _ I1 q1) λiv s2 ⟨y,H2,I2,r2,q2⟩ =>?_))
  refine CD (Ip (CD (D5 (thn (hs pins s2 σ H2 x y v ov iv u _ I2 r1 r2 r q2) λ_ s3 ⟨H3,I3,q3⟩ =>?_))))
  exact wpAny_release ⟨σ,H3,I3,q3⟩
def AO (te:TE)(g:TG):TS:=λD σ H=>te σ H λx H1=>g x σ H1 D.nx
theorem bz {tg e:Expr}{te:TE}{g:TG}(he:PE X e te)(hg:PG X tg g)(hs:swapsWithSole [tg] e pos.line X.env=pure false:=by rfl)(hw:swappedStores [tg] e X.env=pure none:=by rfl)
  (h1:(assignEach [tg] X.env).map (·.2)=[assign tg X.env]:=by rfl):PS X (.Assign [tg] e pos) (AO te g):=by
 intro pins s σ H D I h
 refine wpAny_Assign_stores (thn (he pins s σ H _ I h) λv s1 ⟨x,H1,I1,r1,q1⟩ =>?_) hs hw
 rw[h1]
 exact thn (hg pins s1 σ H1 x v _ I1 r1 q1) λ_ s2 q=>q
theorem aM {i:Nat}{x:Str}{e:Expr}{te:TE}{pos':Pos}(hN:X.N.Nodup)(hi:X.N[i]? = some x)(hx:Loc X.env.scope x)(he:PE X e te)(hs:swapsWith e (some (.Name x pos')) pos.line X.env=pure false:=by rfl)(hf:X.fn x=true\/X.env.scope.names.lookup x=some .local:=by first | exact .inl rfl | exact .inr rfl | assumption) :
  PS X (.Assign [.Name x pos'] e pos) (AO te (eZ i)):=by
 intro pins s σ H D I h
 refine wpAny_Assign_Name (thn (he pins s σ H _ I h) λv s1 ⟨y,H1,I1,r1,q1⟩ =>?_) hs
 exact qf I1 hN hi hx r1 (λs2 I2=>⟨_,H1,I2,q1⟩) hf
def BS (to ti te:TE)(tget:V->V->Hp->VK->Prop)(tip:TIp)(tset:wC):TS:=λD σ H=>to σ H λo H1=>ti σ H1 λi H2=>tget o i H2 λx H3=>te σ H3 λy H4=>tip x y H4 λz H5=>tset o i z H5 λH6=>D.nx σ H6
def BU (X:Cx)(t:V->V->Hp->VK->Prop):Prop :=
 ∀(pins:List (Addr×Obj)) (s:CN) (σ:St) (H:Hp) (o i:V) (ov iv:CJ) (Q:VK),Inv X pins σ H s->RelV o ov->RelV i iv->t o i H Q →
  Dh (DA X.prog X.w) X.A (getItem ov iv) (EP X pins σ Q) X.xe s
theorem yO {o i e:Expr}{to ti te:TE}{tget:V->V->Hp->VK->Prop}{tip:TIp}{tset:wC}{op:Operator}{tpos:Pos}(ho:PE X o to)(hi:PE X i ti)(hg:BU X tget)(he:PE X e te)(hp:PIp X op tip)(hs:AM X tset)
    (ha:∀ov iv new,augStore i ov iv new=(do HU [new,ov,iv] (setItem ov iv new);release [new,ov,iv] [];pure .next):=by intros;rfl):PS X (.AugAssign (.Subscript o i tpos) op e pos) (BS to ti te tget tip tset):=by
  intro pins s σ H D I h
  refine wpAny_AugAssign_SubscriptAny (thn (ho pins s σ H _ I h) λov s1 ⟨x1,H1,I1,r1,q1⟩ =>?_) ha
  refine thn (hi pins s1 σ H1 _ I1 q1) λiv s2 ⟨x2,H2,I2,r2,q2⟩ =>?_
  refine thn (hg pins s2 σ H2 x1 x2 ov iv _ I2 r1 r2 q2) λold s3 ⟨x3,H3,I3,r3,q3⟩ =>?_
  refine thn (he pins s3 σ H3 _ I3 q3) λv s4 ⟨x4,H4,I4,r4,q4⟩ =>?_
  refine thn (hp pins s4 σ H4 x3 x4 old v _ I4 r3 r4 q4) λnew s5 ⟨x5,H5,I5,r5,q5⟩ =>?_
  exact thn (hs pins s5 σ H5 x1 x2 x5 ov iv new _ I5 r1 r2 r5 q5) λ_ s6 ⟨H6,I6,q6⟩=>⟨σ,H6,I6,q6⟩
def ipI (f:Int->Int->Int):TIp:=λx y H Q=>∃i j,x = .int i/\y = .int j/\Q (.int (f i j)) H
theorem AQ:PIp X .Sub (ipI λi j=>i-j):=by
 intro pins s σ H x y v u Q I r1 r2 h
 obtain ⟨i,j,e1,e2,q⟩:=h
 subst e1;subst e2
 obtain ⟨t,rfl⟩:=r1
 obtain ⟨t',rfl⟩:=r2
 exact isub_int ⟨.int _,H,I.tok _,⟨_,rfl⟩,q⟩
end
section
variable  {X:Cx}{pos:Pos}
def wF (c:TT)(tb:TS):TS:=λD σ H=>∃W:Nat->St->Hp->Prop,(∃m,W m σ H)/\∀m σ H,W m σ H →
 c σ H λb H1=>if b=true then ∃N:St->Hp->Prop,(∀σ' H',N σ' H'->∃m',m'<m/\W m' σ' H')/\tb { D with nx:=N,ct:=N,bk:=D.nx } σ H1 else D.nx σ H1
theorem iM {c:Expr}{body:List Stmt}{tc:TT}{tb:TS}(hp:PassesOwn (DA X.prog X.w) X.A X.env X.xe)(hc:PT X c tc)(hb:PSs X body tb):PS X (.While c body [] pos) (wF tc tb):=by
 intro pins s σ H D I h
 obtain ⟨W,⟨m0,w0⟩,turn⟩:=h
 refine wpAny_While (codeAny_whileLoop (λn s'=>∃σ' H',Inv X pins σ' H' s'/\W n σ' H') ?_ m0 ⟨σ,H,I,w0⟩)
 rintro n s1 ⟨σ1,H1,I1,w1⟩
 refine Gv hp (thn (hc pins s1 σ1 H1 _ I1 (turn n σ1 H1 w1)) λb s2 ⟨H2,I2,q2⟩ =>?_)
 cases b with
 | true =>
  obtain ⟨N,hN,q2⟩:=q2
  rw[if_pos rfl]
  refine Gv hp (thn (hb pins s2 σ1 H2 _ I2 q2) λf s3 q3 =>?_)
  cases f with
  | next =>
   obtain ⟨σ3,H3,I3,n3⟩:=q3
   obtain ⟨m',hm,w3⟩:=hN σ3 H3 n3
   exact ⟨m',hm,σ3,H3,I3,w3⟩
  | cont =>
   obtain ⟨σ3,H3,I3,n3⟩:=q3
   obtain ⟨m',hm,w3⟩:=hN σ3 H3 n3
   exact ⟨m',hm,σ3,H3,I3,w3⟩
  | brk=>exact q3
  | ret v=>exact q3
 | false =>
  rw[if_neg C8]
  exact Iz ⟨σ1,H2,I2,q2⟩
end
structure It where
 go:Nat->Hp->Prop
 yld:Nat->Hp->V->Hp->Prop
 stop:Nat->Hp->Prop
def j6 (X:Cx)(pins:List (Addr×Obj))(H:Hp)(b:Addr):Prop :=
 H b=none/\b≠X.env.locals/\b∉X.fs/\(b∈X.ex\/X.s₀.heap.objs.size<=b)/\(∀x c,X.env.cells.lookup x=some c->c≠b)/\∀p∈X.pn++pins,p.1≠b
theorem Inv.wG {X:Cx}{pins:List (Addr×Obj)}{σ:St}{H H':Hp}{s:CN}{b:Addr}(I:Inv X pins σ H s)(hb:s.heap.objs.size<=b)(hn:H' b=none):j6 X pins H' b:=by
 refine ⟨hn,F8 (Dm I.lt hb),I.AI hb,.inr (DT I.sz hb),λx c e z =>?_,λp hp z =>?_⟩
 ·obtain ⟨v,q⟩:=I.cell x c e
  exact absurd (Dm q.lt (by rw[z];exact hb)) (D4 _)
 ·exact absurd (Dm (C1 (I.pin p hp).1) (by rw[z];exact hb)) (D4 _)
structure Turn (P:De)(w:DN)(K:CM)(tg:Expr)(J:It)(fp:List Addr)(it:Addr)(tn:Nat->Heap->Prop):Prop where
 mem:it∈fp
 obj:∀i h,tn i h->∀b∈fp,∃o,h.get? b=some o/\∀v,o.data ≠ .cell v
 keep:∀i h h',tn i h->(∀b∈fp,∀o,h.get? b=some o->h'.get? b=some o)->tn i h'
 item:∀(X:Cx),X.prog=P->X.w=w->X.K=K->X.calm=true->∀(i:Nat) (pins:List (Addr×Obj)) (s:CN) (σ:St) (H:Hp) (E:CJ->CN->Prop),Inv X pins σ H s->(∀b∈fp,j6 X pins H b)->tn i s.heap->J.go i H →
  Dh (DA P w) X.A (pyNext (.ref it)) (λr s1=>∃u,r=some u ∧
   Dh (DA P w) X.A (letOwnedTupleGo tg (.ref it) u) (λ_ s2=>∃x H',Inv X pins σ H' s2/\RelV x u/\J.yld i H x H'/\tn (i+1) s2.heap/\∀b∈fp,H' b=none) E s1) E s
 done:∀(X:Cx),X.prog=P->X.w=w->X.K=K->X.calm=true->∀(i:Nat) (pins:List (Addr×Obj)) (s:CN) (σ:St) (H:Hp) (E:CJ->CN->Prop),Inv X pins σ H s->(∀b∈fp,j6 X pins H b)->tn i s.heap->J.stop i H →
  Dh (DA P w) X.A (pyNext (.ref it)) (λr s1=>r=none/\Inv X pins σ H s1) E s
 self:∀(A:D1) (i:Nat) (s:CN) (Q:CJ->CN->Prop) (E:CJ->CN->Prop),tn i s.heap->Q (.ref it) s->Dh (DA P w) A (pyIter (.ref it)) Q E s
abbrev TI:=St->Hp->(It->Hp->Prop)->Prop
def PIE (X:Cx)(pins:List (Addr×Obj))(σ:St)(tg:Expr)(R:It->Hp->Prop)(itv:CJ)(s2:CN):Prop :=
 ∃(it:Addr) (fp:List Addr) (tn:Nat->Heap->Prop) (J:It) (H':Hp),itv = .ref it/\Inv X pins σ H' s2/\Turn X.prog X.w X.K tg J fp it tn/\tn 0 s2.heap/\(∀b∈fp,j6 X pins H' b)/\R J H'
def PI (X:Cx)(tg iter:Expr)(wi:TI):Prop :=
 ∀(pins:List (Addr×Obj)) (s:CN) (σ:St) (H:Hp) (R:It->Hp->Prop),Inv X pins σ H s->wi σ H R →
  Dh (DA X.prog X.w) X.A (eval iter X.env) (λv s1=>Dh (DA X.prog X.w) X.A (pyIter v) (PIE X pins σ tg R) X.xe s1) X.xe s
theorem wH {M:Model}{A:D1}{E:CJ->CN->Prop}{s:CN}{tg:Expr}{it:Addr}{u:CJ}{o:Obj}{n:String}{vs:Array CJ}{Q:Unit->CN->Prop}(ho:s.heap.get? it=some o)(hc:o.cls = .type n)(hd:o.data = .fields vs)
    (hn:["enumerate", "zip", "dict_itemiterator", "dict_reverseitemiterator", "odict_iterator", "itertools.zip_longest", "itertools.pairwise"].contains n=false) (hQ:Q () s):Dh M A (letOwnedTupleGo tg (.ref it) u) Q E s:=by
  unfold letOwnedTupleGo
  cases tg <;> first
    | exact CK hQ
    | (cases u <;> first
        | exact CK hQ
        | (refine CD (JZ ho ?_)
           rw[hc,hd]
           show Dh M A (if (["enumerate", "zip", "dict_itemiterator", "dict_reverseitemiterator", "odict_iterator", "itertools.zip_longest", "itertools.pairwise"].contains n && vs[0]? == some (GZ _))=true then _ else _) Q E s
           rw[if_neg (by intro h;rw[hn,IV] at h;cases h)]
           exact CK hQ))
def Itl (K:CM)(a:Addr):It :=
 ⟨λi H=>∃xs x,SqL K H a xs/\xs[i]? = some x,λi H x H'=>H'=H/\∀xs,SqL K H a xs->xs[i]? = some x,λi H=>∃xs,SqL K H a xs/\xs.length<=i⟩
def Itt (K:CM)(a:Addr):It :=
 ⟨λi H=>∃xs x,SqT K H a xs/\xs[i]? = some x,λi H x H'=>H'=H/\∀xs,SqT K H a xs->xs[i]? = some x,λi H=>∃xs,SqT K H a xs/\xs.length<=i⟩
def Itr (lo:Int)(n:Nat):It:=⟨λi _=>i<n,λi H x H'=>H'=H/\x = .int (lo+i),λi _=>n<=i⟩
theorem nh {P:De}{w:DN}{K:CM}{tg:Expr}(a it:Addr):Turn P w K tg (Itl K a) [it] it (λi h=>h.IsListIter it a i) where
 mem:=by simp
 obj:=λi h st b hb=>by
  have e:b=it:=by simpa using hb
  subst e
  obtain ⟨o,e,c,d⟩:=st
  exact ⟨o,e,λv z=>by rw[d] at z;cases z⟩
 keep:=λi h h' st k=>st.at λo e=>k it (by simp) o e
 item:=by
  intro X hP hw hK hc i pins s σ H E I hf st hg
  subst hP hw hK
  obtain ⟨xs,x,hq,hx⟩:=hg
  obtain ⟨its,rv,p,hz⟩:=I.list hq
  obtain ⟨u,hu,ru⟩:=rv.get hx
  obtain ⟨f0,f1,f2,f3,f4,f5⟩:=hf it (by simp)
  refine wpAny_pyNext_list_item st p.isList (x:=u) (by simpa using hu) λh' st' sb =>?_
  have I1:Inv X pins σ H { s with heap:=h' }:=I.turned (t':=s.toks) (λb o hb e=>(sb.2 b hb).trans e) f0 f1 f3 f4 f5
  obtain ⟨o,e,c,d⟩:=id st'
  exact ⟨u,rfl,wH (s:={ s with heap:=h' }) e c d (by decide) ⟨x,H,I1,ru,⟨rfl,λys hy=>by rw[I.qg hy hq];exact hx⟩,st',λb hb=>(hf b hb).1⟩⟩
 done:=by
  intro X hP hw hK hc i pins s σ H E I hf st hg
  subst hP hw hK
  obtain ⟨xs,hq,hx⟩:=hg
  obtain ⟨its,rv,p,hz⟩:=I.list hq
  obtain ⟨f0,f1,f2,f3,f4,f5⟩:=hf it (by simp)
  have hl:=rv.length
  exact wpAny_pyNext_list_end (I.ok.hd hc) st p.isList (by simp;lia) λh' eb=>⟨rfl,I.turned (t':=s.toks) (λb o hb e=>eb b o hb e) f0 f1 f3 f4 f5⟩
 self:=λ_ _ _ _ _ st h=>wpAny_pyIter_listiter st h
theorem kN {P:De}{w:DN}{K:CM}{tg:Expr}(a it:Addr):Turn P w K tg (Itt K a) [it] it (λi h=>h.IsTupleIter it a i) where
 mem:=by simp
 obj:=λi h st b hb=>by
  have e:b=it:=by simpa using hb
  subst e
  obtain ⟨o,e,c,d⟩:=st
  exact ⟨o,e,λv z=>by rw[d] at z;cases z⟩
 keep:=λi h h' st k=>st.at λo e=>k it (by simp) o e
 item:=by
  intro X hP hw hK hc i pins s σ H E I hf st hg
  subst hP hw hK
  obtain ⟨xs,x,hq,hx⟩:=hg
  obtain ⟨its,rv,p,hz⟩:=I.tuple hq
  obtain ⟨u,hu,ru⟩:=rv.get hx
  obtain ⟨f0,f1,f2,f3,f4,f5⟩:=hf it (by simp)
  refine wpAny_pyNext_tuple_item st (show s.heap.IsTuple a its.toArray from p) (x:=u) (by simpa using hu) λh' st' sb =>?_
  have I1:Inv X pins σ H { s with heap:=h' }:=I.turned (t':=s.toks) (λb o hb e=>(sb.2 b hb).trans e) f0 f1 f3 f4 f5
  obtain ⟨o,e,c,d⟩:=id st'
  exact ⟨u,rfl,wH (s:={ s with heap:=h' }) e c d (by decide) ⟨x,H,I1,ru,⟨rfl,λys hy=>by rw[I.jw hy hq];exact hx⟩,st',λb hb=>(hf b hb).1⟩⟩
 done:=by
  intro X hP hw hK hc i pins s σ H E I hf st hg
  subst hP hw hK
  obtain ⟨xs,hq,hx⟩:=hg
  obtain ⟨its,rv,p,hz⟩:=I.tuple hq
  obtain ⟨f0,f1,f2,f3,f4,f5⟩:=hf it (by simp)
  have hl:=rv.length
  exact wpAny_pyNext_tuple_end (I.ok.hd hc) st (show s.heap.IsTuple a its.toArray from p) (by simp;lia) λh' eb=>⟨rfl,I.turned (t':=s.toks) (λb o hb e=>eb b o hb e) f0 f1 f3 f4 f5⟩
 self:=λ_ _ _ _ _ st h=>wpAny_pyIter_tupleiter st h
theorem r6 {P:De}{w:DN}{K:CM}{tg:Expr}(it:Addr)(lo:Int)(n:Nat):Turn P w K tg (Itr lo n) [it] it (λi h=>IsRangeIter h it (lo+(i:Nat)*1) ((n:Int)-(i:Nat)) 1) where
 mem:=by simp
 obj:=λi h st b hb=>by
  have e:b=it:=by simpa using hb
  subst e
  exact ⟨_,st,λv z=>by
   have z':Data.fields _=Data.cell v:=z
   cases z'⟩
 keep:=λi h h' st k=>k it (by simp) _ st
 item:=by
  intro X hP hw hK hc i pins s σ H E I hf st hg
  subst hP hw hK
  obtain ⟨f0,f1,f2,f3,f4,f5⟩:=hf it (by simp)
  have W:=Walks.range (prog:=X.prog) (w:=X.w) (I.ok.hd hc) it lo 1 n
  refine W.item i s _ _ hg st λv h' tk hv st' kk =>?_
  obtain ⟨t,rfl⟩:=hv
  have I1:Inv X pins σ H { s with heap:=h',toks:=tk }:=I.turned (λb o hb e=>kk b o (by simpa using hb) e) f0 f1 f3 f4 f5
  refine ⟨_,rfl,wH (s:={ s with heap:=h',toks:=tk }) (n := "range_iterator") st' rfl rfl (by decide) ⟨.int (lo+i),H,I1,⟨t,?_⟩,⟨rfl,rfl⟩,st',λb hb=>(hf b hb).1⟩⟩
  rw[Int.mul_one]
 done:=by
  intro X hP hw hK hc i pins s σ H E I hf st hg
  subst hP hw hK
  obtain ⟨f0,f1,f2,f3,f4,f5⟩:=hf it (by simp)
  exact wpAny_pyNext_range_end (I.ok.hd hc) st (by have:n<=i:=hg;lia) λh' eb=>⟨rfl,I.turned (t':=s.toks) (λb o hb e=>eb b o hb e) f0 f1 f3 f4 f5⟩
 self:=λ_ _ _ _ _ st h=>wpAny_pyIter_rangeiter st h
open PySem PySem.Spec PyProof.Rows
section
variable  {X:Cx}{tg:Expr}
def BV (K:CM)(tl:TE):TI:=λσ H R=>tl σ H λx H1=>∃a,x = .ref a/\(∃xs,SqL K H1 a xs)/\R (Itl K a) H1
def iTup (K:CM)(tl:TE):TI:=λσ H R=>tl σ H λx H1=>∃a,x = .ref a/\(∃xs,SqT K H1 a xs)/\R (Itt K a) H1
theorem bR {l:Expr}{tl:TE}(hl:PE X l tl):PI X tg l (BV X.K tl):=by
 intro pins s σ H R I h
 refine thn (hl pins s σ H _ I h) λv s1 ⟨x,H1,I1,r1,q1⟩ =>?_
 obtain ⟨a,e,⟨xs,hq⟩,q⟩:=q1
 subst e
 cases r1
 obtain ⟨its,rv,p,hz⟩:=I1.list hq
 refine Gw p.isList ?_
 refine ⟨s1.heap.objs.size,[s1.heap.objs.size],_,_,H1,rfl,I1.kept (t':=s1.toks) λb o e=>CH _ e,nh a _,⟨_,CZ _ rfl,rfl,rfl⟩,λb hb =>?_,q⟩
 have e:b=s1.heap.objs.size:=by simpa using hb
 subst e
 exact I1.wG (CO _) (I1.hok.fresh (CO _))
theorem ik {l:Expr}{tl:TE}(hl:PE X l tl):PI X tg l (iTup X.K tl):=by
 intro pins s σ H R I h
 refine thn (hl pins s σ H _ I h) λv s1 ⟨x,H1,I1,r1,q1⟩ =>?_
 obtain ⟨a,e,⟨xs,hq⟩,q⟩:=q1
 subst e
 cases r1
 obtain ⟨its,rv,p,hz⟩:=I1.tuple hq
 refine Fm (show s1.heap.IsTuple a its.toArray from p) ?_
 refine ⟨s1.heap.objs.size,[s1.heap.objs.size],_,_,H1,rfl,I1.kept (t':=s1.toks) λb o e=>CH _ e,kN a _,⟨_,CZ _ rfl,rfl,rfl⟩,λb hb =>?_,q⟩
 have e:b=s1.heap.objs.size:=by simpa using hb
 subst e
 exact I1.wG (CO _) (I1.hok.fresh (CO _))
theorem qh {pins:List (Addr×Obj)}{σ:St}{H:Hp}{s:CN}{R:It->Hp->Prop}{E:CJ->CN->Prop}{lo hi:Int}{t u v:Tok}{tk:Nat}(I:Inv X pins σ H s)(h1 : -(2 ^ 62)<=lo)(h2:lo<2 ^ 62)(h3 : -(2 ^ 62)<=hi)(h4:hi<2 ^ 62)
  (q:R (Itr lo (hi-lo).toNat) H):Dh (DA X.prog X.w) X.A (pyIter (.ref s.heap.objs.size)) (PIE X pins σ tg R) E { s with heap:=s.heap.push { cls :=.type "range",data :=.fields #[.int lo t,.int hi u,.int 1 v] },toks:=tk }:=by
 refine wpAny_pyIter_range (IsRange.new ..) (small_one h1 h2 h3 h4) ?_
 have I1:Inv X pins σ H { s with heap:=s.heap.push { cls :=.type "range",data :=.fields #[.int lo t,.int hi u,.int 1 v] },toks:=tk }:=I.kept λb o e=>CH _ e
 refine ⟨(s.heap.push { cls :=.type "range",data :=.fields #[.int lo t,.int hi u,.int 1 v] }).objs.size,[(s.heap.push { cls :=.type "range",data :=.fields #[.int lo t,.int hi u,.int 1 v] }).objs.size],_,_,H,rfl,
  I1.kept (t':=tk) λb o e=>CH _ e,r6 _ lo (hi-lo).toNat,?_,λb hb =>?_,q⟩
 ·have e1:lo+((0:Nat):Int)*1=lo:=by simp
  have e2:(((hi-lo).toNat:Nat):Int)-((0:Nat):Int)=Builtin.Range.rangeSize lo hi 1:=by rw[rangeSize_one];split <;> lia
  show IsRangeIter _ _ (lo+((0:Nat):Int)*1) ((((hi-lo).toNat:Nat):Int)-((0:Nat):Int)) 1
  rw[e1,e2]
  exact CZ _ rfl
 ·have e:b=(s.heap.push { cls :=.type "range",data :=.fields #[.int lo t,.int hi u,.int 1 v] }).objs.size:=by simpa using hb
  subst e
  exact I1.wG (CO _) (I1.hok.fresh (CO _))
def BW (ta:TA):TI:=λσ H R=>ta σ H λvs H1=>∃j:Int,vs=[.int j] /\ -(2 ^ 62)<=j/\j<2 ^ 62/\R (Itr 0 j.toNat) H1
def BX (ta:TA):TI:=λσ H R=>ta σ H λvs H1=>∃i j:Int,vs=[.int i,.int j]/\(-(2 ^ 62)<=i/\i<2 ^ 62 /\ -(2 ^ 62)<=j/\j<2 ^ 62)/\R (Itr i (j-i).toNat) H1
theorem bA {a:Expr}{ta:TA}{p pos:Pos}(hg:Gl X "range")(hm:X.mg "range" = none)(ha:PA X [a] ta)(hs:D6 [a] X.env=[(false,eval a X.env)]:=by rfl):PI X tg (.Call (.Name "range" p) [a] [] pos) (BW ta):=by
 intro pins s σ H R I h
 refine Call_ (dD I hg hm boot_range (Eo (thn (ha pos pins s σ H _ I h) λus s1 ⟨vs,H1,I1,r1,q1⟩ =>?_) hs rfl))
 obtain ⟨j,e,q1,q2,q⟩:=q1
 subst e
 cases r1 with
 | cons r rr =>
  cases rr
  obtain ⟨t,rfl⟩:=r
  exact call_range_1 (qh I1 (by lia) (by lia) q1 q2 (by simpa using q))
theorem gI {a b:Expr}{ta:TA}{p pos:Pos}(hg:Gl X "range")(hm:X.mg "range" = none)(ha:PA X [a,b] ta)(hs:D6 [a,b] X.env=[(false,eval a X.env),(false,eval b X.env)]:=by rfl)(hs2:D6 [b] X.env=[(false,eval b X.env)]:=by rfl) :
  PI X tg (.Call (.Name "range" p) [a,b] [] pos) (BX ta):=by
 intro pins s σ H R I h
 refine Call_ (dD I hg hm boot_range (Eo (thn (ha pos pins s σ H _ I h) λus s1 ⟨vs,H1,I1,r1,q1⟩ =>?_) (by rw[hs,hs2]) (by rw[hs2];rfl)))
 obtain ⟨i,j,e,⟨q1,q2,q3,q4⟩,q⟩:=q1
 subst e
 cases r1 with
 | cons r rr =>
  cases rr with
  | cons r' rr =>
   cases rr
   obtain ⟨t,rfl⟩:=r
   obtain ⟨t',rfl⟩:=r'
   exact call_range_2 (qh I1 q1 q2 q3 q4 q)
def tFor (wi:TI)(g:TG)(tb:TS):TS:=λD σ H=>wi σ H λJ H1=>∃W:Nat->Nat->St->Hp->Prop,(∃m,W 0 m σ H1)/\∀i m σ H,W i m σ H →
 (J.stop i H/\D.nx σ H)\/(J.go i H/\∃N:St->Hp->Prop,(∀σ' H',N σ' H'->∃m',m'<m/\W (i+1) m' σ' H')/\∀x H',J.yld i H x H'->g x σ H' λσ2 H2=>tb { D with nx:=N,ct:=N,bk:=D.nx } σ2 H2)
def il (fp:List Addr)(h:Heap):List (Addr×Obj):=fp.filterMap λb=>(h.get? b).map λo=>(b,o)
theorem dX {fp:List Addr}{h:Heap}{b:Addr}{o:Obj}(hb:b∈fp)(e:h.get? b=some o):(b,o)∈il fp h:=GL.mpr ⟨b,hb,by rw[e];rfl⟩
theorem ni {fp:List Addr}{h:Heap}{p:Addr×Obj}(hp:p∈il fp h):p.1∈fp/\h.get? p.1=some p.2:=by
 obtain ⟨b,hb,e⟩:=GL.mp hp
 cases q:h.get? b with
 | none=>rw[q] at e;cases e
 | some o =>
  rw[q] at e
  have e':(b,o)=p:=Dk e
  subst e'
  exact ⟨hb,q⟩
theorem Inv.pinned {pins:List (Addr×Obj)}{σ:St}{H:Hp}{s:CN}{fp:List Addr}(I:Inv X pins σ H s)(hf:∀b∈fp,j6 X pins H b)(ho:∀b∈fp,∃o,s.heap.get? b=some o/\∀v,o.data ≠ .cell v):Inv X (pins++il fp s.heap) σ H s :=
 I.iK λp hp=>(CW.mp hp).elim (λz=>I.pin p (Dt _ z)) λz=>by
  obtain ⟨hb,e⟩:=ni z
  obtain ⟨f0,f1,f2,_⟩:=hf p.1 hb
  obtain ⟨o,e',d⟩:=ho p.1 hb
  rw[e] at e';cases e'
  exact ⟨e,f0,f1,f2,d⟩
theorem Inv.e6 {pins pl:List (Addr×Obj)}{σ:St}{H:Hp}{s:CN}(I:Inv X (pins++pl) σ H s):Inv X pins σ H s:=I.iK λp hp=>I.pin p (Dt _ (Dn _ hp))
theorem bN {iter:Expr}{body:List Stmt}{wi:TI}{g:TG}{tb:TS}{pos:Pos}(hp:PassesOwn (DA X.prog X.w) X.A X.env X.xe)(hc:X.calm=true)(hi:PI X tg iter wi)(hg:PG X tg g)(hb:PSs X body tb)
  (hs:∀x,foldedSetIterable iter X.env x=pure x:=by intro _;rfl):PS X (.For tg iter body [] pos) (tFor wi g tb):=by
 intro pins s σ H D I h
 refine wpAny_For (thn (hi pins s σ H _ I h) λv s1 h1=>thn h1 λitv s2 h2 =>?_) hs
 obtain ⟨it,fp,tn,J,H2,e,I2,T,st2,f2,W,⟨m0,w0⟩,turn⟩:=h2
 subst e
 have stat:∀{H':Hp},(∀b∈fp,H' b=none)->∀b∈fp,j6 X pins H' b:=λhn b hb=>⟨hn b hb,(f2 b hb).2⟩
 refine codeAny_forLoop_any (λn s'=>∃i σ' H',Inv X pins σ' H' s'/\tn i s'.heap/\(∀b∈fp,H' b=none)/\W i n σ' H') ?_ m0 ⟨0,σ,H2,I2,st2,λb hb=>(f2 b hb).1,w0⟩
 rintro n s3 ⟨i,σ3,H3,I3,st3,fr3,w3⟩
 rcases turn i n σ3 H3 w3 with ⟨stop,qn⟩ | ⟨go,N,hN,step⟩
 ·refine Gv hp (thn (T.done X rfl rfl rfl hc i pins s3 σ3 H3 X.xe I3 (stat fr3) st3 stop) λr s4 ⟨hr,I4⟩ =>?_)
  subst hr
  exact Iz ⟨σ3,H3,I4,qn⟩
 ·refine Gv hp (thn (T.item X rfl rfl rfl hc i pins s3 σ3 H3 X.xe I3 (stat fr3) st3 go) λr s4 ⟨u,hr,h4⟩ =>?_)
  subst hr
  refine Gv hp (thn h4 λ_ s5 ⟨x,H5,I5,r5,y5,st5,fr5⟩ =>?_)
  have I5':=I5.pinned (stat fr5) (T.obj _ _ st5)
  refine Gv hp (thn (hg _ s5 σ3 H5 x u _ I5' r5 (step x H5 y5)) λ_ s6 ⟨σ6,H6,I6,q6⟩ =>?_)
  refine Gv hp (thn (hb _ s6 σ6 H6 _ I6 q6) λf s7 q7 =>?_)
  have again:∀{σ7:St} {H7:Hp},Inv X (pins++il fp s5.heap) σ7 H7 s7->N σ7 H7->∃m,m<n/\∃i σ' H',Inv X pins σ' H' s7/\tn i s7.heap/\(∀b∈fp,H' b=none)/\W i m σ' H':=λ{σ7 H7} I7 n7=>by
   obtain ⟨m',hm,w7⟩:=hN σ7 H7 n7
   refine ⟨m',hm,i+1,σ7,H7,I7.e6,T.keep _ _ _ st5 λb hb o e=>(I7.pin (b,o) (Dt _ (Dt _ (dX hb e)))).1,λb hb =>?_,w7⟩
   obtain ⟨o,e,d⟩:=T.obj _ _ st5 b hb
   exact (I7.pin (b,o) (Dt _ (Dt _ (dX hb e)))).2.1
  cases f with
  | next=>obtain ⟨σ7,H7,I7,n7⟩:=q7;exact again I7 n7
  | cont=>obtain ⟨σ7,H7,I7,n7⟩:=q7;exact again I7 n7
  | brk=>obtain ⟨σ7,H7,I7,q7⟩:=q7;exact ⟨σ7,H7,I7.e6,q7⟩
  | ret v=>obtain ⟨x7,σ7,H7,I7,r7,q7⟩:=q7;exact ⟨x7,σ7,H7,I7.e6,r7,q7⟩
end
theorem dY {K:CM}{a:Addr}{xs:List V}{g:TG}{tb:TS}{D:Ends}{σ:St}{H:Hp}(Pv:Nat->St->Hp->Prop)(h0:Pv 0 σ H)(hl:∀i σ H,i<=xs.length->Pv i σ H->SqL K H a xs)
  (hs:∀i x σ H,xs[i]? = some x->Pv i σ H->g x σ H λσ2 H2=>tb { D with nx:=Pv (i+1),ct:=Pv (i+1),bk:=D.nx } σ2 H2) (hd:∀σ H,Pv xs.length σ H->D.nx σ H) :
  ∃W:Nat->Nat->St->Hp->Prop,(∃m,W 0 m σ H)/\∀i m σ H,W i m σ H →
   ((Itl K a).stop i H/\D.nx σ H)\/((Itl K a).go i H/\∃N:St->Hp->Prop,(∀σ' H',N σ' H'->∃m',m'<m/\W (i+1) m' σ' H')/\∀x H',(Itl K a).yld i H x H'->g x σ H' λσ2 H2=>tb { D with nx:=N,ct:=N,bk:=D.nx } σ2 H2):=by
 refine ⟨λi m σ H=>m=xs.length-i/\i<=xs.length/\Pv i σ H,⟨xs.length,by simp,DQ _,h0⟩,?_⟩
 rintro i m σ H ⟨rfl,hi,p⟩
 have q:=hl i σ H hi p
 by_cases hlt:i<xs.length
 ·refine .inr ⟨⟨xs,xs[i],q,by simp[hlt]⟩,Pv (i+1),λσ' H' p'=>⟨xs.length-(i+1),by lia,rfl,hlt,p'⟩,λx H' y =>?_⟩
  obtain ⟨e,y⟩:=y
  subst e
  exact hs i x σ _ (y xs q) p
 ·have e:i=xs.length:=by lia
  subst e
  exact .inl ⟨⟨xs,q,CO _⟩,hd σ H p⟩
theorem tR {K:CM}{a:Addr}{xs:List V}{g:TG}{tb:TS}{D:Ends}{σ:St}{H:Hp}(Pv:Nat->St->Hp->Prop)(h0:Pv 0 σ H)(hl:∀i σ H,i<=xs.length->Pv i σ H->SqT K H a xs)
  (hs:∀i x σ H,xs[i]? = some x->Pv i σ H->g x σ H λσ2 H2=>tb { D with nx:=Pv (i+1),ct:=Pv (i+1),bk:=D.nx } σ2 H2) (hd:∀σ H,Pv xs.length σ H->D.nx σ H) :
  ∃W:Nat->Nat->St->Hp->Prop,(∃m,W 0 m σ H)/\∀i m σ H,W i m σ H →
   ((Itt K a).stop i H/\D.nx σ H)\/((Itt K a).go i H/\∃N:St->Hp->Prop,(∀σ' H',N σ' H'->∃m',m'<m/\W (i+1) m' σ' H')/\∀x H',(Itt K a).yld i H x H'->g x σ H' λσ2 H2=>tb { D with nx:=N,ct:=N,bk:=D.nx } σ2 H2):=by
 refine ⟨λi m σ H=>m=xs.length-i/\i<=xs.length/\Pv i σ H,⟨xs.length,by simp,DQ _,h0⟩,?_⟩
 rintro i m σ H ⟨rfl,hi,p⟩
 have q:=hl i σ H hi p
 by_cases hlt:i<xs.length
 ·refine .inr ⟨⟨xs,xs[i],q,by simp[hlt]⟩,Pv (i+1),λσ' H' p'=>⟨xs.length-(i+1),by lia,rfl,hlt,p'⟩,λx H' y =>?_⟩
  obtain ⟨e,y⟩:=y
  subst e
  exact hs i x σ _ (y xs q) p
 ·have e:i=xs.length:=by lia
  subst e
  exact .inl ⟨⟨xs,q,CO _⟩,hd σ H p⟩
theorem bL {lo:Int}{n:Nat}{g:TG}{tb:TS}{D:Ends}{σ:St}{H:Hp}(Pv:Nat->St->Hp->Prop)(h0:Pv 0 σ H)
  (hs:∀i σ H,i<n->Pv i σ H->g (.int (lo+i)) σ H λσ2 H2=>tb { D with nx:=Pv (i+1),ct:=Pv (i+1),bk:=D.nx } σ2 H2) (hd:∀σ H,Pv n σ H->D.nx σ H) :
  ∃W:Nat->Nat->St->Hp->Prop,(∃m,W 0 m σ H)/\∀i m σ H,W i m σ H →
   ((Itr lo n).stop i H/\D.nx σ H)\/((Itr lo n).go i H/\∃N:St->Hp->Prop,(∀σ' H',N σ' H'->∃m',m'<m/\W (i+1) m' σ' H')/\∀x H',(Itr lo n).yld i H x H'->g x σ H' λσ2 H2=>tb { D with nx:=N,ct:=N,bk:=D.nx } σ2 H2):=by
 refine ⟨λi m σ H=>m=n-i/\i<=n/\Pv i σ H,⟨n,by simp,DQ _,h0⟩,?_⟩
 rintro i m σ H ⟨rfl,hi,p⟩
 by_cases hlt:i<n
 ·refine .inr ⟨hlt,Pv (i+1),λσ' H' p'=>⟨n-(i+1),by lia,rfl,hlt,p'⟩,λx H' y =>?_⟩
  obtain ⟨e,y⟩:=y
  subst e y
  exact hs i σ _ hlt p
 ·have e:i=n:=by lia
  subst e
  exact .inl ⟨CO _,hd σ H p⟩
theorem iN {c:TT}{tb:TS}{D:Ends}{σ:St}{H:Hp}(Pv:St->Hp->Prop)(μ:St->Hp->Nat)(h0:Pv σ H)
  (hs:∀σ H,Pv σ H->c σ H λb H1=>if b=true then tb { D with nx:=λσ' H'=>Pv σ' H' /\ μ σ' H'<μ σ H,ct:=λσ' H'=>Pv σ' H' /\ μ σ' H'<μ σ H,bk:=D.nx } σ H1 else D.nx σ H1)
  (mono:∀σ H Q Q',(∀b H1,Q b H1->Q' b H1)->c σ H Q->c σ H Q'):wF c tb D σ H:=by
 refine ⟨λm σ H=>m=μ σ H/\Pv σ H,⟨_,rfl,h0⟩,?_⟩
 rintro m σ H ⟨rfl,p⟩
 refine mono σ H _ _ (λb H1 q =>?_) (hs σ H p)
 cases b with
 | true=>exact ⟨_,λσ' H' ⟨p',l⟩=>⟨_,l,rfl,p'⟩,q⟩
 | false=>exact q
open PySem PySem.Spec PyProof.Rows
abbrev R2:=V->V->Hp->VK->Prop
def OpR (X:Cx)(f:CJ->CJ->Sem CJ)(r:R2):Prop :=
 ∀(pins:List (Addr×Obj)) (s:CN) (σ:St) (H:Hp) (x y:V) (v u:CJ) (Q:VK),Inv X pins σ H s->RelV x v->RelV y u->r x y H Q →
  Dh (DA X.prog X.w) X.A (f v u) (EP X pins σ Q) X.xe s
def UnR (X:Cx)(f:CJ->Sem CJ)(r:V->Hp->VK->Prop):Prop :=
 ∀(pins:List (Addr×Obj)) (s:CN) (σ:St) (H:Hp) (x:V) (v:CJ) (Q:VK),Inv X pins σ H s->RelV x v->r x H Q →
  Dh (DA X.prog X.w) X.A (f v) (EP X pins σ Q) X.xe s
def bK (X:Cx)(f:CJ)(r:List V->Hp->VK->Prop):Prop :=
 ∀(pins:List (Addr×Obj)) (s:CN) (σ:St) (H:Hp) (xs:List V) (us:List CJ) (Q:VK),Inv X pins σ H s->Vals xs us->r xs H Q →
  Dh (DA X.prog X.w) X.A (call f us) (EP X pins σ Q) X.xe s
def TruR (X:Cx)(r:V->Hp->(Bool->Hp->Prop)->Prop):Prop :=
 ∀(pins:List (Addr×Obj)) (s:CN) (σ:St) (H:Hp) (x:V) (v:CJ) (Q:Bool->Hp->Prop),Inv X pins σ H s->RelV x v->r x H Q →
  Dh (DA X.prog X.w) X.A (truthy v) (TP X pins σ Q) X.xe s
def tOp (r:R2)(ta tb:TE):TE:=λσ H Q=>ta σ H λx H1=>tb σ H1 λy H2=>r x y H2 Q
def tUn (r:V->Hp->VK->Prop)(ta:TE):TE:=λσ H Q=>ta σ H λx H1=>r x H1 Q
def rI (C:Int->Int->Prop)(g:Int->Int->V):R2:=λx y H Q=>∃i j,x = .int i/\y = .int j/\C i j/\Q (g i j) H
def rI0 (g:Int->Int->V):R2:=λx y H Q=>∃i j,x = .int i/\y = .int j/\Q (g i j) H
def rU (g:Int->V):V->Hp->VK->Prop:=λx H Q=>∃i,x = .int i/\Q (g i) H
section
variable  {X:Cx}{a b c:Expr}{ta tb tc:TE}{pos:Pos}
theorem AR (ha:PE X a ta)(hb:PE X b tb){pins:List (Addr×Obj)}{s:CN}{σ:St}{H:Hp}{R:V->V->Hp->Prop}(I:Inv X pins σ H s)
  (h:ta σ H λx H1=>tb σ H1 λy H2=>R x y H2) {Q:CJ->CN->Prop} {f:CJ->CJ->Sem CJ}
  (hf:∀v u s2 x y H2,Inv X pins σ H2 s2->RelV x v->RelV y u->R x y H2->Dh (DA X.prog X.w) X.A (f v u) Q X.xe s2) :
  Dh (DA X.prog X.w) X.A (eval a X.env) (λv s₁=>Dh (DA X.prog X.w) X.A (eval b X.env) (λu s₂=>Dh (DA X.prog X.w) X.A (f v u) Q X.xe s₂) X.xe s₁) X.xe s:=by
 refine thn (ha pins s σ H _ I h) λv s1 ⟨x,H1,I1,r1,q1⟩ =>?_
 refine thn (hb pins s1 σ H1 _ I1 q1) λu s2 ⟨y,H2,I2,r2,q2⟩ =>?_
 exact hf v u s2 x y H2 I2 r1 r2 q2
theorem aT {op:Operator}{r:R2}(ho:OpR X (binaryOp op) r)(ha:PE X a ta)(hb:PE X b tb):PE X (.BinOp a op b pos) (tOp r ta tb):=by
 intro pins s σ H Q I h
 exact wpAny_BinOp (AR ha hb I h λv u s2 x y H2 I2 rx ry q=>ho pins s2 σ H2 x y v u Q I2 rx ry q)
theorem BY {op:UnaryOp}{r:V->Hp->VK->Prop}(ho:UnR X (unaryOp op) r)(ha:PE X a ta):PE X (.UnaryOp op a pos) (tUn r ta):=by
 intro pins s σ H Q I h
 exact UnaryOp_ (thn (ha pins s σ H _ I h) λv s1 ⟨x,H1,I1,r1,q1⟩=>ho pins s1 σ H1 x v Q I1 r1 q1)
theorem opI {f:CJ->CJ->Sem CJ}{C:Int->Int->Prop}{g:Int->Int->Int}
  (rule:∀(i j:Int) (t u:Tok) (s:CN) (Q:CJ->CN->Prop) (E:CJ->CN->Prop),C i j->Q (.int (g i j) s.toks) { s with toks:=s.toks+1 }->Dh (DA X.prog X.w) X.A (f (.int i t) (.int j u)) Q E s) :
  OpR X f (rI C λi j =>.int (g i j)):=by
 intro pins s σ H x y v u Q I rx ry h
 obtain ⟨i,j,rfl,rfl,hc,q⟩:=h
 obtain ⟨t,rfl⟩:=rx
 obtain ⟨t',rfl⟩:=ry
 exact rule i j t t' s _ _ hc ⟨.int (g i j),H,I.tok _,⟨_,rfl⟩,q⟩
theorem BZ {f:CJ->CJ->Sem CJ}{g:Int->Int->Int}
  (rule:∀(i j:Int) (t u:Tok) (s:CN) (Q:CJ->CN->Prop) (E:CJ->CN->Prop),Q (.int (g i j) s.toks) { s with toks:=s.toks+1 }->Dh (DA X.prog X.w) X.A (f (.int i t) (.int j u)) Q E s) :
  OpR X f (rI0 λi j =>.int (g i j)):=by
 intro pins s σ H x y v u Q I rx ry h
 obtain ⟨i,j,rfl,rfl,q⟩:=h
 obtain ⟨t,rfl⟩:=rx
 obtain ⟨t',rfl⟩:=ry
 exact rule i j t t' s _ _ ⟨.int (g i j),H,I.tok _,⟨_,rfl⟩,q⟩
theorem yP {f:CJ->CJ->Sem CJ}{g:Int->Int->Bool}
  (rule:∀(i j:Int) (t u:Tok) (s:CN) (Q:CJ->CN->Prop) (E:CJ->CN->Prop),Q (.bool (g i j)) s->Dh (DA X.prog X.w) X.A (f (.int i t) (.int j u)) Q E s) :
  OpR X f (rI0 λi j =>.bl (g i j)):=by
 intro pins s σ H x y v u Q I rx ry h
 obtain ⟨i,j,rfl,rfl,q⟩:=h
 obtain ⟨t,rfl⟩:=rx
 obtain ⟨t',rfl⟩:=ry
 exact rule i j t t' s _ _ ⟨.bl (g i j),H,I,rfl,q⟩
def CDiv (i j:Int):Prop:=0<j/\j<1073741824
def CPow (i j:Int):Prop:=0<=j/\j<=1000000/\i.natAbs<2 ^ 64
def AS (i j:Int):Prop:=(-(2 ^ 64)<i/\i<2 ^ 64)\/(-(2 ^ 64)<j/\j<2 ^ 64)
theorem AS.ok {i j:Int}(h:AS i j):IntMulOk i j:=by
 rcases h with ⟨h1,h2⟩ | ⟨h1,h2⟩
 ·exact .of_left (intBits_le_64 h1 h2)
 ·exact .of_right (intBits_le_64 h1 h2)
theorem cB:OpR X (binaryOp .Add) (rI0 λi j =>.int (i+j)):=BZ λ_ _ _ _ _ _ _ q=>add_int q
theorem cY:OpR X (binaryOp .Sub) (rI0 λi j =>.int (i-j)):=BZ λ_ _ _ _ _ _ _ q=>sub_int q
theorem fH:OpR X (binaryOp .Mult) (rI AS λi j =>.int (i*j)):=opI λ_ _ _ _ _ _ _ hc q=>mul_int q hc.ok
theorem yQ:OpR X (binaryOp .FloorDiv) (rI CDiv λi j =>.int (i/j)):=opI λi j _ _ _ _ _ hc q=>by
 have h1:(0:Int)<j:=hc.1
 have h2:j<1073741824:=hc.2
 exact floordiv_int (by lia) (by rw[ID i (by lia)];exact q) (.inl (PyProof.noPylong_small (by lia)))
theorem f7:OpR X (binaryOp .Mod) (rI (λ_ j=>0<j) λi j =>.int (i%j)):=opI λi j _ _ _ _ _ hc q=>by
 have h1:(0:Int)<j:=hc
 exact mod_int' (by lia) (by rw[IE i (by lia)];exact q)
theorem wI:OpR X (binaryOp .Pow) (rI CPow λi j =>.int (i ^ j.toNat)):=opI λ_ _ _ _ _ _ _ hc q=>pow_int_small hc.1 hc.2.1 hc.2.2 q
theorem unI {f:CJ->Sem CJ}{g:Int->Int}
  (rule:∀(i:Int) (t:Tok) (s:CN) (Q:CJ->CN->Prop) (E:CJ->CN->Prop),Q (.int (g i) s.toks) { s with toks:=s.toks+1 }->Dh (DA X.prog X.w) X.A (f (.int i t)) Q E s) :
  UnR X f (rU λi =>.int (g i)):=by
 intro pins s σ H x v Q I rx h
 obtain ⟨i,rfl,q⟩:=h
 obtain ⟨t,rfl⟩:=rx
 exact rule i t s _ _ ⟨.int (g i),H,I.tok _,⟨_,rfl⟩,q⟩
theorem AU:UnR X (unaryOp .USub) (rU λi =>.int (-i)):=unI λ_ _ _ _ _ q=>neg_int q
end
def B0:V->V->Bool
 | .non,.non=>true | .non,.int _=>true | .int _,.non=>true | .non,.bl _=>true | .bl _,.non=>true | .non,.str _=>true | .str _,.non=>true
 | .int _,.int _=>true | .bl _,.bl _=>true | .str _,.str _=>true | .byt _,.byt _=>true
 | .int _,.str _=>true | .str _,.int _=>true | .bl _,.str _=>true | .str _,.bl _=>true
 | _,_=>false
def rEq:R2:=λx y H Q=>B0 x y=true/\Q (.bl (decide (x=y))) H
def rNe:R2:=λx y H Q=>B0 x y=true/\Q (.bl (!decide (x=y))) H
theorem tS {i j:Int}:decide (V.int i=V.int j)=(i == j):=by
 rw[Fh]
 simp
theorem wJ {i j:Bool}:decide (V.bl i=V.bl j)=(i == j):=by
 rw[Fh]
 simp
theorem tW {i j:Str}:decide (V.str i=V.str j)=(i == j):=by
 rw[Fh]
 simp
theorem tX {i j:Array UInt8}:decide (V.byt i=V.byt j)=(i.toList == j.toList):=by
 rw[Fh]
 cases i
 cases j
 simp
section
variable  {X:Cx}{a b c:Expr}{ta tb tc:TE}{pos:Pos}
theorem a6 {pins:List (Addr×Obj)}{σ:St}{H:Hp}{s:CN}{Q:VK}{k k':Bool}(I:Inv X pins σ H s)(q:Q (.bl k) H)(e:k=k'):EP X pins σ Q (.bool k') s:=by
 subst e
 exact ⟨.bl k,H,I,rfl,q⟩
theorem cQ:OpR X (EV .Eq) rEq:=by
 intro pins s σ H x y v u Q I rx ry h
 obtain ⟨hs,q⟩:=h
 cases x with
 | non =>
  cases rx
  cases y with
  | non=>cases ry;exact PySem.EqNone.eq_none_none (a6 I q (by simp))
  | bl j=>cases ry;exact PySem.EqNone.eq_none_bool (a6 I q (by simp))
  | int j=>obtain ⟨t',rfl⟩:=ry;exact PySem.EqNone.eq_none_int (a6 I q (by simp))
  | str j=>obtain ⟨t',rfl⟩:=ry;exact PySem.EqNone.eq_none_str (a6 I q (by simp))
  | _=>exact absurd (show false=true from hs) C8
 | bl i =>
  cases rx
  cases y with
  | non=>cases ry;exact PySem.EqNone.eq_bool_none (a6 I q (by simp))
  | bl j=>cases ry;exact eq_bool (a6 I q wJ)
  | str j=>obtain ⟨t',rfl⟩:=ry;exact LI (a6 I q (by simp))
  | _=>exact absurd (show false=true from hs) C8
 | int i =>
  obtain ⟨t,rfl⟩:=rx
  cases y with
  | non=>cases ry;exact PySem.EqNone.eq_int_none (a6 I q (by simp))
  | int j=>obtain ⟨t',rfl⟩:=ry;exact eq_int (a6 I q tS)
  | str j=>obtain ⟨t',rfl⟩:=ry;exact LP (a6 I q (by simp))
  | _=>exact absurd (show false=true from hs) C8
 | str i =>
  obtain ⟨t,rfl⟩:=rx
  cases y with
  | non=>cases ry;exact PySem.EqNone.eq_str_none (a6 I q (by simp))
  | bl j=>cases ry;exact LJ (a6 I q (by simp))
  | int j=>obtain ⟨t',rfl⟩:=ry;exact LQ (a6 I q (by simp))
  | str j=>obtain ⟨t',rfl⟩:=ry;exact eq_str (a6 I q tW)
  | _=>exact absurd (show false=true from hs) C8
 | byt i =>
  obtain ⟨t,rfl⟩:=rx
  cases y with
  | byt j=>obtain ⟨t',rfl⟩:=ry;exact PySem.W.eq_bytes (a6 I q tX)
  | _=>exact absurd (show false=true from hs) C8
 | _=>cases y <;> exact absurd (show false=true from hs) C8
theorem kO:OpR X (EV .NotEq) rNe:=by
 intro pins s σ H x y v u Q I rx ry h
 obtain ⟨hs,q⟩:=h
 cases x with
 | non =>
  cases rx
  cases y with
  | non=>cases ry;exact PySem.EqNone.ne_none_none (a6 I q (by simp))
  | bl j=>cases ry;exact PySem.EqNone.ne_none_bool (a6 I q (by simp))
  | int j=>obtain ⟨t',rfl⟩:=ry;exact PySem.EqNone.ne_none_int (a6 I q (by simp))
  | str j=>obtain ⟨t',rfl⟩:=ry;exact PySem.EqNone.ne_none_str (a6 I q (by simp))
  | _=>exact absurd (show false=true from hs) C8
 | bl i =>
  cases rx
  cases y with
  | non=>cases ry;exact PySem.EqNone.ne_bool_none (a6 I q (by simp))
  | bl j=>cases ry;exact ne_bool (a6 I q (congrArg not wJ))
  | str j=>obtain ⟨t',rfl⟩:=ry;exact LK (a6 I q (by simp))
  | _=>exact absurd (show false=true from hs) C8
 | int i =>
  obtain ⟨t,rfl⟩:=rx
  cases y with
  | non=>cases ry;exact PySem.EqNone.ne_int_none (a6 I q (by simp))
  | int j=>obtain ⟨t',rfl⟩:=ry;exact ne_int (a6 I q (congrArg not tS))
  | str j=>obtain ⟨t',rfl⟩:=ry;exact LR (a6 I q (by simp))
  | _=>exact absurd (show false=true from hs) C8
 | str i =>
  obtain ⟨t,rfl⟩:=rx
  cases y with
  | non=>cases ry;exact PySem.EqNone.ne_str_none (a6 I q (by simp))
  | bl j=>cases ry;exact LL (a6 I q (by simp))
  | int j=>obtain ⟨t',rfl⟩:=ry;exact LS (a6 I q (by simp))
  | str j=>obtain ⟨t',rfl⟩:=ry;exact ne_str (a6 I q (congrArg not tW))
  | _=>exact absurd (show false=true from hs) C8
 | byt i =>
  obtain ⟨t,rfl⟩:=rx
  cases y with
  | byt j=>obtain ⟨t',rfl⟩:=ry;exact PySem.W.ne_bytes (a6 I q (congrArg not tX))
  | _=>exact absurd (show false=true from hs) C8
 | _=>cases y <;> exact absurd (show false=true from hs) C8
theorem qi:OpR X (EV .Lt) (rI0 λi j =>.bl (decide (i<j))):=yP λ_ _ _ _ _ _ _ q=>lt_int q
theorem Ae:OpR X (EV .LtE) (rI0 λi j =>.bl (decide (i<=j))):=yP λ_ _ _ _ _ _ _ q=>le_int q
theorem Af:OpR X (EV .Gt) (rI0 λi j =>.bl (decide (j<i))):=yP λ_ _ _ _ _ _ _ q=>gt_int q
theorem wK:OpR X (EV .GtE) (rI0 λi j =>.bl (decide (j<=i))):=yP λ_ _ _ _ _ _ _ q=>ge_int q
theorem AV:OpR X (EV .Is) (λx y H Q=>y = .non/\Q (.bl (decide (x = .non))) H):=by
 intro pins s σ H x y v u Q I rx ry h
 obtain ⟨rfl,q⟩:=h
 cases ry
 refine is_none_gen (a6 I q ?_)
 cases x <;> first
  | (cases rx;rfl)
  | (obtain ⟨t,rfl⟩:=rx;rfl)
theorem tY:OpR X (EV .IsNot) (λx y H Q=>y = .non/\Q (.bl (!decide (x = .non))) H):=by
 intro pins s σ H x y v u Q I rx ry h
 obtain ⟨rfl,q⟩:=h
 cases ry
 refine isnot_none_gen (a6 I q ?_)
 cases x <;> first
  | (cases rx;rfl)
  | (obtain ⟨t,rfl⟩:=rx;rfl)
theorem aS (b:Expr){op:CmpOp}(h:op ≠ .In:=by decide)(h2:op ≠ .NotIn:=by decide):behindInMarks op b=false:=by
 have e1:(op == CmpOp.In)=false:=by cases op <;> first | rfl | exact absurd rfl h
 have e2:(op == CmpOp.NotIn)=false:=by cases op <;> first | rfl | exact absurd rfl h2
 cases b <;> simp[behindInMarks,e1,e2]
theorem di {op:CmpOp}{r:R2}(ho:OpR X (EV op) r)(ha:PE X a ta)(hb:PE X b tb)(hm:behindInMarks op b=false):PE X (.Compare a [op] [b] pos) (tOp r ta tb):=by
 intro pins s σ H Q I h
 exact wpAny_Compare1 (AR ha hb I h λv u s2 x y H2 I2 rx ry q=>ho pins s2 σ H2 x y v u Q I2 rx ry q) hm
def B1 (t:TE):TT:=λσ H Q=>t σ H λx H'=>∃k,x = .bl k/\Q k H'
theorem aK {op:CmpOp}{r:R2}(ho:OpR X (EV op) r)(ha:PE X a ta)(hb:PE X b tb)(hm:behindInMarks op b=false):PT X (.Compare a [op] [b] pos) (B1 (tOp r ta tb)):=by
 intro pins s σ H Q I h
 refine JT (thn (ha pins s σ H _ I h) λv s1 ⟨x,H1,I1,r1,q1⟩=>thn (hb pins s1 σ H1 _ I1 q1) λu s2 ⟨y,H2,I2,r2,q2⟩ =>
  thn (ho pins s2 σ H2 x y v u _ I2 r1 r2 q2) λc s3 ⟨z,H3,I3,r3,k,e,q3⟩ =>?_) hm
 subst e
 cases r3
 exact ES ⟨H3,I3,q3⟩
def AW (r r':R2)(ta tb tc:TE):TE:=λσ H Q=>ta σ H λx H1=>tb σ H1 λy H2=>r x y H2 λz H3=>∃k,z = .bl k ∧
 (if k=true then tc σ H3 λw' H4=>r' y w' H4 Q else Q (.bl false) H3)
theorem wL {op op':CmpOp}{r r':R2}(ho:OpR X (EV op) r)(ho':OpR X (EV op') r')(ha:PE X a ta)(hb:PE X b tb)(hc:PE X c tc)
  (hm:lastMarks [op,op'] [b,c]=false:=by with_unfolding_all rfl):PE X (.Compare a [op,op'] [b,c] pos) (AW r r' ta tb tc):=by
 intro pins s σ H Q I h
 refine Compare_chain (thn (ha pins s σ H _ I h) λv s1 ⟨x,H1,I1,r1,q1⟩=>chain_link (thn (hb pins s1 σ H1 _ I1 q1) λu s2 ⟨y,H2,I2,r2,q2⟩ =>
  thn (ho pins s2 σ H2 x y v u _ I2 r1 r2 q2) λd s3 ⟨z,H3,I3,r3,k,e,q3⟩ =>?_)) hm
 subst e
 cases r3
 refine ES ?_
 cases k with
 | false=>exact ite_ff ⟨.bl false,H3,I3,rfl,q3⟩
 | true=>exact ite_tt (chain_last (thn (hc pins s3 σ H3 _ I3 q3) λw' s4 ⟨z',H4,I4,r4,q4⟩=>ho' pins s4 σ H4 y z' u w' Q I4 r2 r4 q4))
def B2 (K:CM)(x:V)(H:Hp)(k:Bool):Prop :=
 match x with
 | .non=>k=false
 | .bl b=>k=b
 | .int i=>k=(i != 0)
 | .str y=>y.length<=C6/\k=((y.length:Int) != 0)
 | .byt y=>y.size<=C6/\k=((y.size:Int) != 0)
 | .ref p=>(∃xs,SqL K H p xs/\k = !xs.isEmpty)\/(∃xs,SqT K H p xs/\k = !xs.isEmpty)\/∃kvs,H p=some (.dK kvs)/\k = !kvs.isEmpty
 | _=>False
theorem r9 {κ:Type}{kvs:List (κ×V)}{vs:List (κ×CJ)}(r:KV kvs vs):(!vs.isEmpty) = !kvs.isEmpty:=by
 cases r <;> rfl
theorem kP {xs:List V}{its:List CJ}(r:Vals xs its):(!its.toArray.isEmpty) = !xs.isEmpty:=by
 cases r <;> simp
theorem jz:(C6:Nat)<2 ^ 63:=by rw[FQ];decide
theorem AX:TruR X (λx H Q=>∃k,B2 X.K x H k/\Q k H):=by
 intro pins s σ H x v Q I rx h
 obtain ⟨k,e,q⟩:=h
 have hl:=jz
 have hs:C6=16777216:=FQ
 cases x with
 | non =>
  cases rx
  have e':k=false:=e
  subst e'
  exact truthy_none ⟨H,I,q⟩
 | bl b =>
  cases rx
  have e':k=b:=e
  subst e'
  exact ES ⟨H,I,q⟩
 | int i =>
  obtain ⟨t,rfl⟩:=rx
  have e':k=(i != 0):=e
  subst e'
  exact PySem.P.truthy_int ⟨H,I,q⟩
 | str y =>
  obtain ⟨t,rfl⟩:=rx
  obtain ⟨hy,e'⟩:y.length<=C6/\k=((y.length:Int) != 0):=e
  subst e'
  exact PySem.P.truthy_str (by lia) ⟨H,I.tok _,q⟩
 | byt y =>
  obtain ⟨t,rfl⟩:=rx
  obtain ⟨hy,e'⟩:y.size<=C6/\k=((y.size:Int) != 0):=e
  subst e'
  exact PySem.W.truthy_bytes (by lia) ⟨H,I.tok _,q⟩
 | ref p =>
  cases rx
  have e':(∃xs,SqL X.K H p xs/\k = !xs.isEmpty)\/(∃xs,SqT X.K H p xs/\k = !xs.isEmpty)\/∃kvs,H p=some (.dK kvs)/\k = !kvs.isEmpty:=e
  rcases e' with ⟨xs,hx,e'⟩ | ⟨xs,hx,e'⟩ | ⟨kvs,hx,e'⟩
  ·subst e'
   obtain ⟨its,r,pl,hz⟩:=I.list hx
   have hlen:=r.length
   exact wpAny_truthy_list pl.isList (by simp only[CS];lia) ⟨H,I.tok _,by rw[kP r];exact q⟩
  ·subst e'
   obtain ⟨its,r,pl,hz⟩:=I.tuple hx
   have hlen:=r.length
   exact truthy_tuple pl (by simp only[CS];lia) ⟨H,I.tok _,by rw[kP r];exact q⟩
  ·subst e'
   obtain ⟨hz,hS,vs,r,m⟩:kvs.length<=C6/\(p == sysModules)=false/\∃vs,KV kvs vs/\s.heap.DictOf (bQ X.prog X.w) p vs:=I.hok p _ hx
   have hlen:kvs.length=vs.length:=Gy r
   exact wpAny_truthy_dict hS m (by lia) ⟨H,I.tok _,by rw[r9 r];exact q⟩
 | _=>exact (show False from e).elim
theorem kQ (ha:PE X a ta)(he:∀whole,isTrue a X.env whole=(do let v ← whole;standAt a.pos;HU [v] (truthy v))) :
    PT X a (λσ H Q=>ta σ H λx H'=>∃k,B2 X.K x H' k/\Q k H'):=by
  intro pins s σ H Q I h
  exact isTrue_plain (thn (ha pins s σ H _ I h) λv s1 ⟨x,H1,I1,r1,q1⟩=>AX pins s1 σ H1 x v Q I1 r1 q1) (he _)
theorem vals1 {x:V}{us:List CJ}(r:Vals [x] us):∃u,us=[u]/\RelV x u:=by
 cases r with
 | cons r1 r2=>cases r2;exact ⟨_,rfl,r1⟩
theorem vals2 {x y:V}{us:List CJ}(r:Vals [x,y] us):∃u w',us=[u,w']/\RelV x u/\RelV y w':=by
 cases r with
 | cons r1 r2 =>
  cases r2 with
  | cons r3 r4=>cases r4;exact ⟨_,_,rfl,r1,r3⟩
theorem gJ (hc:X.calm=true):bK X (.builtin "max") (λxs H Q=>∃i j,xs=[.int i,.int j]/\Q (.int (if j>i then j else i)) H):=by
 intro pins s σ H xs us Q I r h
 obtain ⟨i,j,rfl,q⟩:=h
 obtain ⟨u,w',rfl,⟨t,rfl⟩,⟨t',rfl⟩⟩:=vals2 r
 refine max_two_ints (I.ok.hd hc) λh' tk k=>⟨_,H,I.kept k,?_,q⟩
 by_cases hj:j>i
 ·rw[if_pos hj,if_pos hj];exact ⟨_,rfl⟩
 ·rw[if_neg hj,if_neg hj];exact ⟨_,rfl⟩
theorem gK (hc:X.calm=true):bK X (.builtin "min") (λxs H Q=>∃i j,xs=[.int i,.int j]/\Q (.int (if j<i then j else i)) H):=by
 intro pins s σ H xs us Q I r h
 obtain ⟨i,j,rfl,q⟩:=h
 obtain ⟨u,w',rfl,⟨t,rfl⟩,⟨t',rfl⟩⟩:=vals2 r
 refine min_two_ints (I.ok.hd hc) λh' tk k=>⟨_,H,I.kept k,?_,q⟩
 by_cases hj:j<i
 ·rw[if_pos hj,if_pos hj];exact ⟨_,rfl⟩
 ·rw[if_neg hj,if_neg hj];exact ⟨_,rfl⟩
theorem gL:bK X (.type "int") (λxs H Q=>(∃i,xs=[.int i]/\Q (.int i) H)\/∃k,xs=[.bl k]/\Q (.int (if k then 1 else 0)) H):=by
 intro pins s σ H xs us Q I r h
 rcases h with ⟨i,rfl,q⟩ | ⟨k,rfl,q⟩
 ·obtain ⟨u,rfl,t,rfl⟩:=vals1 r
  exact call_int_int ⟨.int i,H,I,⟨_,rfl⟩,q⟩
 ·obtain ⟨u,rfl,r1⟩:=vals1 r
  cases r1
  exact call_int_bool ⟨.int (if k then 1 else 0),H,I.tok _,⟨_,rfl⟩,q⟩
end
open PySem PySem.Spec PyProof.Rows
structure AY (h:Heap)(x dx C:Addr)(mA:Str->Option CJ):Prop where
 obj:h.get? x=some (PySem.W.instObj C dx)
 ns:h.Ns1 dx mA
 ne:dx≠x
theorem vf {h:Heap}{dx:Addr}{mA:Str->Option CJ}(n:h.Ns1 dx mA):∃od,h.get? dx=some od/\∀name,PySem.W.lookIn name od=some (mA name):=by
 obtain ⟨o,es,ep,ho,hd,hk,_,hm⟩:=n
 refine ⟨o,ho,λname =>?_⟩
 have e:=hm name
 unfold nsFind findBy at e
 rw[<- Array.find?_toList] at e
 unfold PySem.W.lookIn
 rw[hd]
 dsimp only
 split
 ·rename_i y q
  rw[q] at e
  exact congrArg some e
 ·rename_i q
  rw[q] at e
  have a:es.toList.any (·.refKey)=false:=by
   rw[List.any_eq_false]
   intro y hy
   obtain ⟨z,t,hkey⟩:=hk y (DH.mp hy)
   simp[DictEntry.refKey,hkey]
  have a':¬ es.toList.any (·.refKey)=true:=by rw[a];exact C8
  rw[if_neg a']
  exact congrArg some e
theorem AY.look {h:Heap}{x dx C:Addr}{mA:Str->Option CJ}(I:AY h x dx C mA):∃od,PySem.W.InstAt h x (PySem.W.instObj C dx) C (some od)/\∀name,PySem.W.lookIn name od=some (mA name) :=
 let ⟨od,ho,hl⟩:=vf I.ns
 ⟨od,⟨I.obj,rfl,rfl,ho⟩,hl⟩
section
variable  {prog:De}{w:DN}{A:D1}{E:CJ->CN->Prop}{s:CN}{K:CM}{x dx C f:Addr}{mA:Str->Option CJ}{name:Str}{v:CJ}
end
theorem kJ.some_of {v:V}{o:Option CJ}(r:kJ (some v) o):∃u,o=some u/\RelV v u:=by
 cases o with
 | none=>exact (show False from r).elim
 | some u=>exact ⟨u,rfl,r⟩
section
variable  {P:De}{w:DN}{H H':Hp}{h h':Heap}{a C dx:Addr}{fs fs':List (Str×V)}
theorem yR (hok:HOk P w H h)(e:H a=some (.ins C dx fs)):∃mA,AY h a dx C mA/\(∀f,kJ (fs.lookup f) (mA f))/\PySem.Within mA (fs.map (·.1))/\fs.length<=1000/\H dx=some (.own a):=by
 obtain ⟨d,z,ne,ob,mA,n,r,q⟩:=(show bB P w H h a (.ins C dx fs) from hok a _ e)
 exact ⟨mA,⟨ob,n,ne⟩,r,q,z,d⟩
end
structure Cls (K:CM)(C:Addr):Prop where
 pg:PySem.W.plainGet K C Str.empty=true
 hd:PySem.W.hasDictIn K C=true
 po:PySem.W.plainOver K C=true
 sa:PySem.W.findIn K (.ref C) "__setattr__" = some (some (.builtin "object.__setattr__"))
theorem Cls.get {K:CM}{C:Addr}(c:Cls K C)(f:Str):PySem.W.plainGet K C f=true:=c.pg
structure Con (K:CM)(C:Addr)(f:Str)(v:V)(u:CJ):Prop where
 at_:PySem.W.findIn K (.ref C) f=some (some u)
 rel:RelV v u
 get:PySem.W.specialIn K u "__get__" = some none
 cp:PySem.W.copiedNames.contains f=false
section
variable  {X:Cx}{pins:List (Addr×Obj)}{σ:St}{H:Hp}{s:CN}{a C dx:Addr}{fs:List (Str×V)}{f:Str}{v:V}{A:D1}{E:CJ->CN->Prop}
end
section
variable  {X:Cx}{o e value:Expr}{f:Str}{pos pos' tpos:Pos}{ta tv:TE}
end
section
variable  {X:Cx}{pins:List (Addr×Obj)}{σ:St}{H:Hp}{s:CN}{A:D1}{E:CJ->CN->Prop}{Q:CJ->CN->Prop}{c:CJ}{b:Bool}
inductive iO (K:CM)(H:Hp):V->CJ->Prop where
 | non:iO K H .non (.type "NoneType")
 | bl (x:Bool):iO K H (.bl x) (.type "bool")
 | int (i:Int):iO K H (.int i) (.type "int")
 | str (x:Str):iO K H (.str x) (.type "str")
 | flt (x:UInt64):iO K H (.flt x) (.type "float")
 | lst {a:Addr} {xs:List V} (e:H a=some (.lst xs)):iO K H (.ref a) (.type "list")
 | frz {a:Addr} {o:Obj} {xs:List V} (e:H a=some (.frz o (.lst xs))):iO K H (.ref a) (.type "list")
 | tup {a:Addr} {xs:List V} (e:H a=some (.tup xs)):iO K H (.ref a) (.type "tuple")
 | dK {a:Addr} {kvs:List (Key×V)} (e:H a=some (.dK kvs)):iO K H (.ref a) (.type "dict")
 | dT {a:Addr} {kvs:List (List Key×V)} (e:H a=some (.dT kvs)):iO K H (.ref a) (.type "dict")
 | ins {a C dx:Addr} {fs:List (Str×V)} (e:H a=some (.ins C dx fs)) (cl:Cls K C) (ha:PySem.W.findIn K (.ref C) "__class__" = some (some (.builtin "object.__class__")))
   (hn:PySem.W.specialIn K (.builtin "object.__class__") "__get__" = some (some (.builtin "getset_descriptor.__get__"))) (htk:PySem.W.takesIn K (.builtin "object.__class__")=some true)
   (hm:PySem.W.mroIn K C (.type "object")=some true):iO K H (.ref a) (.ref C)
theorem vg {x:V}{u t:CJ}(I:Inv X pins σ H s)(rx:RelV x u)(ty:iO X.K H x t)(e:PySem.W.kitOne X.K t c=some b)(h:∀tk,Q (.bool b) { s with toks:=tk }) :
  Dh (DA X.prog X.w) A (call (.builtin "isinstance") [u,c]) Q E s:=by
 cases ty with
 | non=>cases (show u=EW from rx);exact E4 PySem.W.kitx_none I.kIn True.intro e (λz=>nomatch z) h
 | bl y=>cases (show u=Value.bool y from rx);exact E4 PySem.W.kitx_bool I.kIn True.intro e (λz=>nomatch z) h
 | int i=>obtain ⟨t,q⟩:=(show ∃t,u=Ex i t from rx);cases q;exact E4 PySem.W.kitx_int I.kIn True.intro e (λz=>nomatch z) h
 | str y=>obtain ⟨t,q⟩:=(show ∃t,u=Value.str y t from rx);cases q;exact E4 PySem.W.kitx_str I.kIn True.intro e (λz=>nomatch z) h
 | flt y=>obtain ⟨t,q⟩:=(show ∃t,u=Value.float y t from rx);cases q;exact E4 PySem.W.kitx_float I.kIn True.intro e (λz=>nomatch z) h
 | @lst a xs ea =>
  cases (show u=Dd a from rx)
  obtain ⟨_,_,n,_,h1⟩:=(show bB X.prog X.w H s.heap a (.lst xs) from I.hok a _ ea)
  exact E4 KN I.kIn ⟨_,h1,rfl⟩ e (λz=>nomatch z) h
 | @frz a ob xs ea =>
  cases (show u=Dd a from rx)
  obtain ⟨_,_,_,n,_,h1⟩:=(show bB X.prog X.w H s.heap a (.frz ob (.lst xs)) from I.hok a _ ea)
  exact E4 KN I.kIn ⟨_,h1,rfl⟩ e (λz=>nomatch z) h
 | @tup a xs ea =>
  cases (show u=Dd a from rx)
  obtain ⟨_,_,_,p⟩:=(show bB X.prog X.w H s.heap a (.tup xs) from I.hok a _ ea)
  obtain ⟨o,h1,h2,_⟩:=p
  exact E4 PySem.W.kitx_tuple I.kIn ⟨o,h1,h2.1⟩ e (λz=>nomatch z) h
 | @dK a kvs ea =>
  cases (show u=Dd a from rx)
  obtain ⟨_,_,vs,_,p⟩:=(show bB X.prog X.w H s.heap a (.dK kvs) from I.hok a _ ea)
  obtain ⟨o,es,ep,h1,h2,_⟩:=p
  exact E4 KO I.kIn ⟨o,h1,h2.1⟩ e (λz=>nomatch z) h
 | @dT a kvs ea =>
  cases (show u=Dd a from rx)
  obtain ⟨_,_,xs,_,o,es,ep,h1,h2,_⟩:=(show bB X.prog X.w H s.heap a (.dT kvs) from I.hok a _ ea)
  exact E4 KO I.kIn ⟨o,h1,h2.1⟩ e (λz=>nomatch z) h
 | @ins a C dx fs ea cl ha hn htk hm =>
  cases (show u=Dd a from rx)
  obtain ⟨mA,O,_⟩:=yR I.hok ea
  obtain ⟨od,J,_⟩:=O.look
  exact E4 (PySem.W.kitx_own (cl.get _) cl.hd ha hn htk hm) I.kIn J e (λz=>nomatch z) h
end
open PySem PySem.Spec PyProof.Rows
structure dF (k:Nat)(A:D1):Prop where
 hd:A.handled=none
 dp:A.depth+3*k+5<recursionLimit
 un:A.units+16*k+200<cLine
theorem dF.mono {j k:Nat}{A:D1}(r:dF k A)(h:j<=k):dF j A:=⟨r.hd,by have:=r.dp;lia,by have:=r.un;lia⟩
theorem dF.deeper {k:Nat}{A:D1}(r:dF (k+1) A)(env:Env):dF k (A.deeper env) :=
 ⟨r.hd,by have:=r.dp;show A.depth+1+3*k+5<_;lia,by have:=r.un;show A.units+3+16*k+200<_;lia⟩
theorem dF.depth {k:Nat}{A:D1}(r:dF k A):A.depth<recursionLimit:=by have:=r.dp;lia
theorem dF.units {k:Nat}{A:D1}(r:dF k A):A.units+64<cLine:=by have:=r.un;lia
def tNil:TA:=λ_ H Q=>Q [] H
def B3 (ta:TE)(tr:TA):TA:=λσ H Q=>ta σ H λx H1=>tr σ H1 λxs H2=>Q (x :: xs) H2
section
variable  {X:Cx}{e:Expr}{es:List Expr}{te:TE}{t:TA}{pos:Pos}
theorem ah:PA X [] tNil:=λ_ _ _ _ H Q I h=>Jb ⟨[],H,I,.nil,h⟩
theorem aa (ha:PE X e te)(hr:PA X es t)(hs:D6 (e :: es) X.env=(false,eval e X.env) :: D6 es X.env:=by rfl):PA X (e :: es) (B3 te t):=by
 intro pos pins s σ H Q I h
 rw[hs]
 show Dh _ _ (spliced ((false,eval e X.env) :: HA pos (D6 es X.env))) _ _ s
 refine IL (thn (ha pins s σ H _ I h) λu s1 ⟨x,H1,I1,r1,q1⟩ =>?_)
 exact thn (hr pos pins s1 σ H1 _ I1 q1) λus s2 ⟨xs,H2,I2,r2,q2⟩=>⟨x :: xs,H2,I2,.cons r1 r2,q2⟩
def tTup (t:TA):TE:=λσ H Q=>t σ H λxs H1=>xs.length<=C6/\∀p,H1 p=none->Q (.ref p) (upd H1 p (.tup xs))
def tLst (t:TA):TE:=λσ H Q=>t σ H λxs H1=>xs.length<=C6/\∀p,H1 p=none->Q (.ref p) (upd H1 p (.lst xs))
theorem bo {x1}(h:PA X es t):PE X (.Tuple es x1 pos) (tTup t):=by
 intro pins s σ H Q I hq
 refine wpAny_Tuple_spliced (thn (h pos pins s σ H _ I hq) λus s1 ⟨xs,H1,I1,r,z,q⟩=>⟨by rw[<- r.length];exact z,?_⟩)
 have hf:H1 s1.heap.objs.size=none:=I1.hok.fresh (CO _)
 refine ⟨.ref s1.heap.objs.size,upd H1 s1.heap.objs.size (.tup xs),I1.laid (t':=s1.toks) (λb u e=>CH _ e) (CO _) ?_,rfl,q _ hf⟩
 exact ⟨z,us,r,⟨_,CZ _ rfl,⟨rfl,rfl⟩,_,rfl⟩⟩
theorem bX (h:PA X es t):PE X (.List es pos) (tLst t):=by
 intro pins s σ H Q I hq
 refine wpAny_List_spliced (thn (h pos pins s σ H _ I hq) λus s1 ⟨xs,H1,I1,r,z,q⟩=>⟨by rw[<- r.length];exact z,?_⟩)
 have hf:H1 s1.heap.objs.size=none:=I1.hok.fresh (CO _)
 refine ⟨.ref s1.heap.objs.size,upd H1 s1.heap.objs.size (.lst xs),I1.laid (t':=s1.toks) (λb u e=>CH _ e) (CO _) ?_,rfl,q _ hf⟩
 exact ⟨z,us,0,r,CZ _ rfl⟩
end
abbrev Sp:=List V->Hp->VK->XK->Prop
abbrev CXT:=List Env->Hp->CN->XK->CJ->CN->Prop
structure yS (P:De)(w:DN)(K:CM)(mg:Str->Option CJ)(base:Heap)(A:D1)(outer:List Env)(s:CN)(H:Hp):Prop where
 frames:A.frames=some outer
 mod:Mod K mg base
 bs:∀b o,base.get? b=some o->s.heap.get? b=some o/\H b=none
 bsz:base.objs.size<=s.heap.objs.size
 funs:s.heap.FunFrames base outer
 frf:∀b∈frs outer,H b=none
 hok:HOk P w H s.heap
 bare:AllBare s.gens
def CE (outer:List Env)(P:De)(w:DN)(H:Hp)(s:CN)(Q:VK)(u:CJ)(s':CN):Prop :=
 ∃v H',s'.os=s.os/\AllBare s'.gens/\Un (frs outer) [] H H' s.heap s'.heap/\HOk P w H' s'.heap/\RelV v u/\Q v H'
def CR (CX:CXT)(outer:List Env)(P:De)(w:DN)(H:Hp)(s:CN)(Q:VK)(E:XK)(r:Result)(s':CN):Prop :=
 match r with
 | .ok (.ret u)=>CE outer P w H s Q u s'
 | .ok _=>False
 | .error e=>CX outer H s E e s'
structure bS (P:De)(w:DN)(K:CM)(mg:Str->Option CJ)(base:Heap)(CX:CXT)(k:Nat)(f:Addr)(fd:Eh)(ps:List Str)(sp:Sp):Prop where
 len:∀vs H Q E,sp vs H Q E->vs.length=ps.length
 run:∀(A:D1) (outer:List Env) (s:CN) (H:Hp) (args:Args) (us:List CJ) (vs:List V) (Q:VK) (E:XK),dF k A->yS P w K mg base A outer s H->BindsTo s fd args (ps.zip us)->Vals vs us->sp vs H Q E →
  He (DA P w) A (.call (.ref f) args) (CR CX outer P w H s Q E) s
section
variable  {X:Cx}{pins:List (Addr×Obj)}{σ:St}{H:Hp}{s s':CN}
theorem Inv.env0 (I:Inv X pins σ H s):yS X.prog X.w X.K X.mg X.base X.A X.stack s H :=
 ⟨I.ok.frames,I.ok.mod,I.bs,DT I.ok.bsz I.sz,I.stack,I.tQ,I.hok,I.bare⟩
theorem Inv.after {Q:VK}{u:CJ}(I:Inv X pins σ H s)(h:CE X.stack X.prog X.w H s Q u s'):EP X pins σ Q u s':=by
 obtain ⟨v,H',os,bare,un,hok,r,q⟩:=h
 obtain ⟨hh,g,d,t,os'⟩:=s'
 obtain rfl:os'=s.os:=os
 exact ⟨v,H',I.call (h':=hh) (g':=g) (d':=d) (t':=t) (ch:=[]) un hok bare (λb z=>absurd z (by simp)),r,q⟩
end
def Ag (sp:Sp)(dvs:List V)(E:XK)(t:TA):TE:=λσ H Q=>t σ H λvs H1=>sp (vs++dvs) H1 Q E
def Binds (K:CM)(fd:Eh)(ps:List Str)(ds:List CJ):Prop :=
 ∀(s:CN) (us:List CJ),K.In s.heap->(us++ds).length=ps.length->BindsTo s fd ⟨us,[]⟩ (ps.zip (us++ds))
theorem Binds.all {K:CM}{fd:Eh}{ps:List Str}(h:∀us:List CJ,us.length=ps.length->bindArgs fd ⟨us,[]⟩=pure (ps.zip us)):Binds K fd ps []:=λs us _ hl=>by
 rw[DU] at hl ⊢
 exact .of_eq (h us hl)
def Passes (CX:CXT)(X:Cx)(E:XK):Prop:=∀(pins:List (Addr×Obj)) (σ:St) (H:Hp) (s:CN) (e:CJ) (s':CN),Inv X pins σ H s->CX X.stack H s E e s'->X.xe e s'
section
variable  {X:Cx}{CX:CXT}{k:Nat}{f C:Addr}{fd:Eh}{ps:List Str}{sp:Sp}{dvs:List V}{ds:List CJ}{E:XK}{x m:Str}{p pos apos:Pos}{e o:Expr}{es:List Expr}{ta:TE}{t:TA}
theorem AZ {pins:List (Addr×Obj)}{σ:St}{H:Hp}{s:CN}{Q:VK}{us:List CJ}{vs:List V}(F:bS X.prog X.w X.K X.mg X.base CX k f fd ps sp)(hr:dF k X.A)(hb:Binds X.K fd ps ds)(hd:Vals dvs ds)(hx:Passes CX X E)
  (I:Inv X pins σ H s) (r:Vals vs us) (h:sp (vs++dvs) H Q E):Dh (DA X.prog X.w) X.A (call (.ref f) us) (EP X pins σ Q) X.xe s:=by
 have r2:Vals (vs++dvs) (us++ds):=r.append hd
 have hl:(us++ds).length=ps.length:=by rw[<- r2.length];exact F.len _ _ _ _ h
 refine K2 (Hy (F.run X.A X.stack s H ⟨us,[]⟩ (us++ds) (vs++dvs) Q E hr I.env0 (hb s us I.kIn hl) r2 h) λr s' hq =>?_)
 cases r with
 | error e=>exact hx pins σ H s e s' I hq
 | ok fl =>
  cases fl with
  | ret u=>exact I.after hq
  | next=>exact False.elim hq
  | brk=>exact False.elim hq
  | cont=>exact False.elim hq
theorem yT (F:bS X.prog X.w X.K X.mg X.base CX k f fd ps sp)(hr:dF k X.A)(hg:Gl X x)(hm:X.mg x=some (.ref f))(hk:PySem.W.keepIn X.K (.ref f)=true)(hb:Binds X.K fd ps ds)(hd:Vals dvs ds)(hx:Passes CX X E)
  (ha:PA X (e :: es) t) (hdb:(x == ("__debug__" : Str))=false:=by decide) (he:D6 (e :: es) X.env=(false,eval e X.env) :: D6 es X.env:=by rfl) (hpl:(HA pos (D6 es X.env)).any (·.1)=false:=by rfl) :
  PE X (.Call (.Name x p) (e :: es) [] pos) (Ag sp dvs E t):=by
 intro pins s σ H Q I h
 refine Fn (yM I hg hm ?_ hdb)
 refine PySem.W.callWith_K (h₀:=X.base) I.ok.mod.kin hk (thn (ha pos pins s σ H _ I h) λus s1 ⟨vs,H1,I1,r,q⟩=>⟨I1.kIn,?_⟩) he hpl
 exact AZ F hr hb hd hx I1 r q
end
section
variable  {X:Cx}{CX:CXT}{k:Nat}{f C:Addr}{fd:Eh}{ps ks:List Str}{sp:Sp}{E:XK}{x m:Str}{p pos apos kpos:Pos}{e o:Expr}{es:List Expr}{kws:List Keyword}{te ta:TE}{t tk:TA}{nm:Option Str}
variable  {g:List CJ->List CJ->List CJ}{gV:List V->List V->List V}
end
structure aO (N P:List Str)(sc:Scope):Prop where
 kind:sc.kind = .function
 co:sc.isCoroutine=false
 gen:sc.isGenerator=false
 nd:N.Nodup
 pre:N.take P.length=P
 par:∀x∈P,sc.names.lookup x=some .local\/sc.names.lookup x=some .cell
 nofree:∀y∈sc.names,y.2 ≠ .free
theorem nj {kindOf:Str->Option NameKind}{x:Str}:∀{binds:List (Str×CJ)} {m:Str->Option CJ},(∀v,(x,v)∉binds)->bindL kindOf binds m x=m x
 | [],_,_=>rfl
 | (n,v) :: r,m,h=>by
  unfold bindL
  rw[nj λw hw=>h w (Dj _ hw)]
  split
  ·have:x≠n:=by rintro rfl;exact h v Di
   simp[this]
  ·rfl
theorem nk {kindOf:Str->Option NameKind}{x:Str}:∀{binds:List (Str×CJ)} {m:Str->Option CJ},(∀v,(x,v)∉binds)->bindC kindOf binds m x=m x
 | [],_,_=>rfl
 | (n,v) :: r,m,h=>by
  unfold bindC
  rw[nk λw hw=>h w (Dj _ hw)]
  split
  ·rfl
  ·have:x≠n:=by rintro rfl;exact h v Di
   simp[this]
theorem nq {kindOf:Str->Option NameKind}{x:Str}{v:CJ}:∀{P:List Str} {vs:List CJ} {i:Nat} {m:Str->Option CJ},P.Nodup->P[i]? = some x->vs[i]? = some v->kindOf x=some .local →
  bindL kindOf (P.zip vs) m x=some v
 | [],_,_,_,_,h,_,_=>by simp at h
 | _ :: _,[],_,_,_,_,h,_=>by simp at h
 | p :: P,w :: vs,0,m,nd,h1,h2,hk=>by
  simp at h1 h2;subst h1;subst h2
  show bindL kindOf ((p,w) :: P.zip vs) m p=_
  unfold bindL
  rw[nj λv hv=>(E5.mp nd).1 (JF hv).1,if_pos hk]
  simp
 | p :: P,w :: vs,i+1,m,nd,h1,h2,hk=>by
  show bindL kindOf ((p,w) :: P.zip vs) m x=_
  unfold bindL
  exact nq (i:=i) (E5.mp nd).2 (by simpa using h1) (by simpa using h2) hk
theorem nA {kindOf:Str->Option NameKind}{x:Str}{v:CJ}:∀{P:List Str} {vs:List CJ} {i:Nat} {m:Str->Option CJ},P.Nodup->P[i]? = some x->vs[i]? = some v->kindOf x≠some .local →
  bindC kindOf (P.zip vs) m x=some v
 | [],_,_,_,_,h,_,_=>by simp at h
 | _ :: _,[],_,_,_,_,h,_=>by simp at h
 | p :: P,w :: vs,0,m,nd,h1,h2,hk=>by
  simp at h1 h2;subst h1;subst h2
  show bindC kindOf ((p,w) :: P.zip vs) m p=_
  unfold bindC
  rw[nk λv hv=>(E5.mp nd).1 (JF hv).1,if_neg hk]
  simp
 | p :: P,w :: vs,i+1,m,nd,h1,h2,hk=>by
  show bindC kindOf ((p,w) :: P.zip vs) m x=_
  unfold bindC
  exact nA (i:=i) (E5.mp nd).2 (by simpa using h1) (by simpa using h2) hk
def start (N:List Str)(vs:List V):St:=vs.map some++DV (N.length-vs.length) none
def oO (CX:CXT)(P:De)(w:DN)(K:CM)(mg:Str->Option CJ)(base:Heap)(N:List Str)(qual:Str)(scope:Scope)(f:Addr)(cd:CJ)(A:D1)(outer:List Env)(s:CN)(H:Hp)(E:XK):Cx where
 prog:=P
 w:=w
 K:=K
 mg:=mg
 base:=base
 A:=A.deeper (envOfC qual scope s.heap.objs.size f cd)
 N:=N
 s₀:=s
 H₀:=H
 env:=envOfC qual scope s.heap.objs.size f cd
 outer:=outer
 stack:=envOfC qual scope s.heap.objs.size f cd :: outer
 ex:=[]
 calm:=true
 fn:=λ_=>true
 pn:=[]
 xe:=λe s'=>Dh (DA P w) (A.deeper (envOfC qual scope s.heap.objs.size f cd)) (leaving (envOfC qual scope s.heap.objs.size f cd) e) (λ_ s''=>CX outer H s E e s'') (λe' s''=>CX outer H s E e' s'') s'
theorem qj {sc:Scope}{n:Nat}{x:Str}(h:sc.names.lookup x=some .cell):∃c,(cellsFrom n sc.names []).lookup x=some c:=by
 have q:=Jz sc.names n [] (.inl h)
 exact Jc.mp q
theorem vh {CX:CXT}{P:De}{w:DN}{K:CM}{mg:Str->Option CJ}{base:Heap}{N ps:List Str}{qual:Str}{scope:Scope}{f:Addr}{cd:CJ}{A:D1}{outer:List Env}{s s1:CN}{H:Hp}{E:XK}{us:List CJ}{vs:List V}
  (S:aO N ps scope) (hd:A.handled=none) (e0:yS P w K mg base A outer s H) (hl:vs.length=ps.length) (r:Vals vs us)
  (x:InCallC s s.heap.objs.size (bindL (envOfC qual scope s.heap.objs.size f cd).kindOf (ps.zip us) λ_=>none) (cellsFrom (s.heap.objs.size+1) scope.names []) (bindC (envOfC qual scope s.heap.objs.size f cd).kindOf (ps.zip us) λ_=>none) s1) :
  Inv (oO CX P w K mg base N qual scope f cd A outer s H E) [] (start N vs) H s1:=by
 have hpl:ps.length<=N.length:=by have:=congrArg List.length S.pre;rw[Eb] at this;lia
 obtain ⟨h1,tk,rfl,hk⟩:=x.done
 have noA:∀b:Addr,b∉(oO CX P w K mg base N qual scope f cd A outer s H E).ex:=λb z=>absurd (show b∈([]:List Addr) from z) (by simp)
 refine ⟨⟨e0.mod,S.kind,rfl,rfl,CO _,λy z c h1 h2 =>?_,λy hy =>?_,λy c _ h =>?_,λ_=>hd,Around.frames_deeper e0.frames,.inr ⟨rfl,rfl⟩,λb z=>absurd z (noA b),e0.bs,e0.bsz,λb _ _=>noA b,λb z=>absurd z (noA b),e0.funs,e0.frf⟩,
  rfl,e0.bare,Un.kept hk,⟨_,x.toInCall.ns,λi y v h1 h2 h3 =>?_⟩,λy c h=>⟨_,x.cell y c h⟩,e0.hok.fresh (CO _),λy c h =>?_,λp hp=>absurd (show p∈([]:List (Addr×Obj)) from hp) (by simp),e0.hok.kept hk,?_⟩
 ·exact name_of_addr x.apart (FY h1) (FY h2)
 ·have hy:scope.names.lookup y=some .cell\/scope.names.lookup y=some .free:=hy
  rcases hy with hy | hy
  ·exact qj hy
  ·exact absurd rfl (S.nofree _ (FY hy))
 ·exact GP (x.above y c (FY h))
 ·have hi:i<vs.length:=by
   unfold start at h2
   by_cases hi:i<vs.length
   ·exact hi
   ·rw[DB (by simpa using hi)] at h2
    rw[HB] at h2
    split at h2 <;> cases h2
  have ha:vs[i]? = some v:=by
   unfold start at h2
   rw[Dv (by simpa using hi),CU] at h2
   cases e:vs[i]? with
   | none=>rw[e] at h2;cases h2
   | some a=>rw[e] at h2;cases h2;rfl
  obtain ⟨u,hu,rv⟩:=r.get ha
  have hp:ps[i]? = some y:=by
   rw[<- S.pre,List.getElem?_take_of_lt (by lia)];exact h1
  have ndP:ps.Nodup:=by rw[<- S.pre];exact S.nd.sublist (Ez _ _)
  refine ⟨u,rv,?_⟩
  rcases S.par y (CT hp) with k | k
  ·exact .inl ⟨k,nq ndP hp hu k⟩
  ·obtain ⟨c,e⟩:=qj (n:=s.heap.objs.size+1) k
   refine .inr ⟨.inl k,c,e,?_⟩
   have q:=x.cell y c e
   rw[nA ndP hp hu (by show scope.names.lookup y≠_;rw[k];decide)] at q
   exact q
 ·exact e0.hok.fresh (GP (x.above y c (FY h)))
 ·unfold start
  show _=N.length
  rw[CL,CG,Ga]
  lia
theorem B4 {CX:CXT}{P:De}{w:DN}{K:CM}{mg:Str->Option CJ}{base:Heap}{k:Nat}{f:Addr}{name qual:Str}{params:Arguments}{body:List Stmt}{scope:Scope}{dV kV doc pm cdv ct oc:CJ}{an od:Option Addr}
  {osl:Array (Option CJ)} {N ps:List Str} {sp:Sp} (lk:K.lookup f=some ⟨oc,od,.func (PySem.W.fnOf name qual params body scope dV kV doc pm an cdv ct),osl⟩) (hcd:PySem.W.codeIn K cdv qual=true) (S:aO N ps scope)
  (len:∀vs H Q E,sp vs H Q E->vs.length=ps.length)
  (hbody:∀(A:D1) (outer:List Env) (s:CN) (H:Hp) (vs:List V) (Q:VK) (E:XK),dF k (A.deeper (envOfC qual scope s.heap.objs.size f cdv))->sp vs H Q E →
   ∃t,PSs (oO CX P w K mg base N qual scope f cdv A outer s H E) body t/\t { nx:=λ_ H'=>Q .non H',rt:=Q } (start N vs) H) :
  bS P w K mg base CX (k+1) f (PySem.W.fnOf name qual params body scope dV kV doc pm an cdv ct) ps sp:=by
 refine ⟨len,λA outer s H args us vs Q E hr e0 hb r hsp =>?_⟩
 have hl:=len _ _ _ _ hsp
 have KX:K.In s.heap:=e0.mod.kin.keeps λb o e=>(e0.bs b o e).1
 have lim:s.heap.NoLimit:=e0.mod.nolimit.keeps λb o e=>(e0.bs b o e).1
 have hkind:∀y∈ps.zip us,scope.names.lookup y.1=some .local\/(scope.names.lookup y.1=some .cell/\((cellsFrom (s.heap.objs.size+1) scope.names []).lookup y.1).isSome=true):=λ⟨n,v⟩ hy=>by
  rcases S.par n (JF hy).1 with q | q
  ·exact .inl q
  ·exact .inr ⟨q,Jz _ _ _ (.inl q)⟩
 refine codeAny_call_function hr.depth (KX _ _ lk) rfl S.co S.gen rfl (PySem.W.codeRec_of KX hcd) (hb _ _ _ _ ?_)
 refine wpAny_newFunctionEnv_cells S.kind hkind λenv he s1 x =>?_
 subst he
 refine ⟨lim.keeps x.toInCall.keep,codeAny_func ?_⟩
 obtain ⟨t,ht,hq⟩:=hbody A outer s H vs Q E (hr.deeper _) hsp
 have I:Inv (oO CX P w K mg base N qual scope f cdv A outer s H E) [] (start N vs) H s1:=vh S hr.hd e0 hl r x
 refine FD (ht [] s1 (start N vs) H _ I hq) (λfl s' hs =>?_) λe s' hs=>hs
 have fin:∀{σ':St} {H':Hp} {v:V} {u:CJ},Inv (oO CX P w K mg base N qual scope f cdv A outer s H E) [] σ' H' s'->RelV v u->Q v H'->CE outer P w H s Q u s' :=
  λ{σ' H' v u} J rv q=>⟨v,H',J.os,J.bare,J.base,J.hok,rv,q⟩
 cases fl with
 | ret u =>
  obtain ⟨v,σ',H',J,rv,q⟩:=hs
  exact fin J rv q
 | next =>
  obtain ⟨σ',H',J,q⟩:=hs
  exact fin (v:=V.non) (u:=EW) J rfl q
 | brk =>
  obtain ⟨_,_,_,q⟩:=hs
  exact False.elim q
 | cont =>
  obtain ⟨_,_,_,q⟩:=hs
  exact False.elim q
open PySem PySem.Spec PyProof.Rows
section
variable  {X:Cx}{x:Str}{p pos:Pos}{e:Expr}{es:List Expr}{t:TA}{id T:String}{r:List V->Hp->VK->Prop}
def tCB (r:List V->Hp->VK->Prop)(t:TA):TE:=λσ H Q=>t σ H λvs H1=>r vs H1 Q
theorem az (hc:bK X (.builtin id) r)(hg:Gl X x)(hm:X.mg x=none)(hv:Ec x=some (.builtin id))(ha:PA X (e :: es) t)(hn:x ≠ "__name__" := by decide)(hdb:(x == ("__debug__" : Str))=false:=by decide)
  (he:D6 (e :: es) X.env=(false,eval e X.env) :: D6 es X.env:=by rfl) (hpl:(HA pos (D6 es X.env)).any (·.1)=false:=by rfl):PE X (.Call (.Name x p) (e :: es) [] pos) (tCB r t):=by
 intro pins s σ H Q I h
 refine Fn (dD I hg hm hv ?_ hn hdb)
 exact PyProof.Rows.callWith_builtin1 (thn (ha pos pins s σ H _ I h) λus s1 ⟨vs,H1,I1,r1,q1⟩=>hc pins s1 σ H1 vs us Q I1 r1 q1) he hpl
theorem aJ (hc:bK X (.type T) r)(hg:Gl X x)(hm:X.mg x=none)(hv:Ec x=some (.type T))(ha:PA X (e :: es) t)(hn:x ≠ "__name__" := by decide)(hdb:(x == ("__debug__" : Str))=false:=by decide)
  (he:D6 (e :: es) X.env=(false,eval e X.env) :: D6 es X.env:=by rfl) (hpl:(HA pos (D6 es X.env)).any (·.1)=false:=by rfl):PE X (.Call (.Name x p) (e :: es) [] pos) (tCB r t):=by
 intro pins s σ H Q I h
 refine Fn (dD I hg hm hv ?_ hn hdb)
 exact Eo (thn (ha pos pins s σ H _ I h) λus s1 ⟨vs,H1,I1,r1,q1⟩=>hc pins s1 σ H1 vs us Q I1 r1 q1) he hpl
end
end L2
namespace HT
open PySem PyProof.Rows
def lexLt:List Int->List Int->Bool
 | [],[]=>false
 | [],_ :: _=>true
 | _ :: _,[]=>false
 | x :: xs,y :: ys=>if x=y then lexLt xs ys else decide (x<y)
theorem cZ (x y:Int)(xs ys:List Int):lexLt (x :: xs) (y :: ys)=if x=y then lexLt xs ys else decide (x<y):=rfl
theorem mK:lexLt [] []=false:=rfl
theorem kR (y:Int)(ys:List Int):lexLt [] (y :: ys)=true:=rfl
theorem kS (x:Int)(xs:List Int):lexLt (x :: xs) []=false:=rfl
theorem wM (A:D1)(s:CN)(a:Int)(t:Tok)(c:Int)(u:Tok):∃e,G8 A s (.int a t) (.int c u) e/\(e=true↔a=c) :=
 ⟨(a == c),Gb a t c u,by simp⟩
theorem qk (A:D1)(s:CN)(a:Int)(t:Tok)(c:Int)(u:Tok)(prog:De)(w:DN)(E:CJ->CN->Prop)(Q:CJ->CN->Prop)(h:Q (.bool (decide (a<c))) s) :
  Dh (DA prog w) A (richCompare .Lt (.int a t) (.int c u)) Q E s :=
 (PyProof.Rows.lt_int h:Dh (DA prog w) A (EV .Lt (.int a t) (.int c u)) Q E s)
section
open PySem.SeqAt
open PySem.AutoSeq1 (wpAny_loadPart')
open PySem.MeetsSeq PySem.MeetsSeq2 PySem.MeetsSeq3
theorem mL (l b:Addr)(items items2:Array CJ)(n n2:Nat)(dd dd2:Option Addr)(sl sl2:Array (Option CJ))(ns ms:List Int)(hi:FF items.toList ns)(hj:FF items2.toList ms) :
  Meets (Builtin.«tuple.__lt__» ⟨[.ref l,.ref b],[]⟩)
   (λ_ R s=>s.heap.get? l=some { cls :=.type "tuple",dict:=dd,data :=.seq items n,slots:=sl }/\s.heap.get? b=some { cls :=.type "tuple",dict:=dd2,data :=.seq items2 n2,slots:=sl2 } ∧
    R (.ok (.ret (.bool (lexLt ns ms)))) s) :=
 .of_wp λprog w A R s h=>by
  obtain ⟨hp,g,d,tk,os⟩:=s;obtain ⟨hl,hb,h⟩:=h
  have f2:=AutoSeq1.sub_tuple_tuple
  have z1:items.size=ns.length:=by rw[<- hi.length];simp
  have z2:items2.size=ms.length:=by rw[<- hj.length];simp
  wp_walk using wpAny_loadPart' hl,wpAny_loadPart' hb,Hl _ (λrest b s'=>b.1=none/\s'=⟨hp,g,d,tk,os⟩/\∃(vs ws:List CJ) (ns' ms':List Int),rest=vs.zip ws ∧
   FF vs ns'/\FF ws ms'/\ns'.length+items2.size=ms'.length+items.size/\R (.ok (.ret (.bool (lexLt ns' ms')))) ⟨hp,g,d,tk,os⟩) _
  case turn =>
   rintro ⟨y,x⟩ rest b s' ⟨hb',rfl,vs,ws,ns',ms',hz,hvi,hwi,hlen,hR⟩
   cases hvi with
   | nil=>rw[List.zip_nil_left] at hz;cases hz
   | cons a t hvi' =>
    cases hwi with
    | nil=>rw[List.zip_nil_right] at hz;cases hz
    | cons c u hwi' =>
     rw[HC] at hz
     injection hz with hyx hrest
     injection hyx with hy hx
     subst hy hx
     rw[cZ] at hR
     simp only[Dx] at hlen
     obtain ⟨e,he,hiff⟩:=wM A.in1 ⟨hp,g,d,tk,os⟩ a t c u
     refine CD (he prog w _ _ ?_)
     cases e with
     | true =>
      rw[if_pos (hiff.mp rfl)] at hR
      wp_walk
      exact ⟨rfl,rfl,_,_,_,_,hrest,hvi',hwi',by lia,hR⟩
     | false =>
      rw[if_neg (λq=>absurd (hiff.mpr q) C8)] at hR
      have hri:=qk A.in1 ⟨hp,g,d,tk,os⟩ a t c u prog w
      wp_walk using hri
      exact ⟨_,rfl,by simpa using hR⟩
  case fin =>
   rintro ⟨b1,b2⟩ s' ⟨hb',rfl,vs,ws,ns',ms',hz,hvi,hwi,hlen,hR⟩
   simp only at hb'
   subst hb'
   have hv:lexLt ns' ms'=decide (items.size<items2.size):=by
    cases hvi with
    | nil =>
     cases hwi with
     | nil =>
      simp only[FH] at hlen
      rw[mK]
      exact (decide_eq_false (by lia)).symm
     | cons c u hw =>
      simp only[FH,Dx] at hlen
      rw[kR]
      exact (decide_eq_true (by lia)).symm
    | cons a t hv =>
     cases hwi with
     | nil =>
      simp only[FH,Dx] at hlen
      rw[kS]
      exact (decide_eq_false (by lia)).symm
     | cons c u hw =>
      rw[HC] at hz
      cases hz
   rw[hv] at hR
   wp_walk
   exact ⟨_,rfl,by simpa [Builtin.Tuple.tupleCompareSizes] using hR⟩
  case h =>
   exact ⟨rfl,rfl,items.toList,items2.toList,ns,ms,rfl,hi,hj,by lia,h⟩
end
section
variable  {prog:De}{w:DN}{A:D1}{E:CJ->CN->Prop}{s:CN}
theorem sd {l b:Addr}{items items2:Array CJ}{ns ms:List Int}{Q:CJ->CN->Prop}(hl:IsTup s.heap l items)(hb:IsTup s.heap b items2)(hi:FF items.toList ns)(hj:FF items2.toList ms)
  (hu:A.units<cLine) (h:Q (.bool (lexLt ns ms)) s):Dh (DA prog w) A (EV .Lt (.ref l) (.ref b)) Q E s:=by
 obtain ⟨⟨cls,dd,data,sl⟩,ho,hc,n,hd⟩:=id hl
 obtain ⟨⟨cls2,dd2,data2,sl2⟩,ho2,hc2,n2,hd2⟩:=id hb
 simp only at hc hd hc2 hd2
 subst hc hd hc2 hd2
 exact F3 (op :=.Lt) ⟨_,ho,rfl⟩ ⟨_,ho2,rfl⟩ PySem.F.slot_tuple_lt PySem.F.entry_tuple_lt (PySem.F.args_tuple_lt_2 _ _) (mL l b items items2 n n2 dd dd2 sl sl2 ns ms hi hj)
  ⟨ho,ho2,show Value.bool (lexLt ns ms)≠Value.notImplemented/\Q (.bool (lexLt ns ms)) s from ⟨(λx=>nomatch x),h⟩⟩ hu
theorem yU {t b:Addr}{vs ws:List CJ}{Q:CJ->CN->Prop}(ht:IsTup s.heap t vs.toArray)(hb:IsTup s.heap b ws.toArray)(hv:vs≠[])
  (h1:ws=[]->Q (.ref t) s) (h2:ws≠[]->Q (.ref s.heap.objs.size) { s with heap:=s.heap.push { cls :=.type "tuple",data :=.seq (vs++ws).toArray } })
  (hsz:vs.length+ws.length<=C6):Dh (DA prog w) A (binaryOp .Add (.ref t) (.ref b)) Q E s:=by
 obtain ⟨⟨cls,dd,data,sl⟩,ho,hc,n,hd⟩:=id ht
 obtain ⟨⟨cls2,dd2,data2,sl2⟩,ho2,hc2,n2,hd2⟩:=id hb
 simp only at hc hd hc2 hd2
 subst hc hd hc2 hd2
 have e:vs.toArray++ws.toArray=(vs++ws).toArray:=by simp
 by_cases hw:ws=[]
 ·exact JU ⟨_,ho,rfl⟩ ⟨_,ho2,rfl⟩ Jw Kz HK HD (Hq _ _)
   (tuple_addW1 t b vs.toArray ws.toArray n n2 dd dd2 sl sl2 (by simpa using hv) (by simp[hw])) ⟨ho,ho2,h1 hw⟩
 ·refine JU ⟨_,ho,rfl⟩ ⟨_,ho2,rfl⟩ Jw Kz HK HD (Hq _ _)
   (tuple_addW2 t b vs.toArray ws.toArray n n2 dd dd2 sl sl2 (by simpa using hv) (by simpa using hw) (by rw[CS,CS];exact hsz)) ⟨ho,ho2,?_⟩
  rw[e]
  exact h2 hw
def sIx (n d:Nat):Option Int->Nat
 | none=>d
 | some v=>if v<0 then (v+(n:Int)).toNat else min v.toNat n
theorem A0 (n d:Nat)(hd:d<=n)(o:Option Int):sIx n d o<=n:=by
 cases o with
 | none=>exact hd
 | some v =>
  show (if v<0 then (v+(n:Int)).toNat else min v.toNat n)<=n
  by_cases hv:v<0
  ·rw[if_pos hv];lia
  ·rw[if_neg hv];exact Nat.min_le_right _ _
theorem tZ (v:Int)(n d:Nat):(if v<0 then max (v+(n:Int)) 0 else min v (n:Int))=((sIx n d (some v):Nat):Int):=by
 show (if v<0 then max (v+(n:Int)) 0 else min v (n:Int))=(((if v<0 then (v+(n:Int)).toNat else min v.toNat n):Nat):Int)
 by_cases hv:v<0
 ·simp only[if_pos hv];lia
 ·simp only[if_neg hv];lia
theorem se (lo hi:Option Int)(n:Nat):Builtin.Slice.sliceAdjust lo hi 1 (n:Int)=(((sIx n 0 lo:Nat):Int),((sIx n n hi:Nat):Int)):=by
 have h1:¬ ((1:Int)<0):=by lia
 unfold Builtin.Slice.sliceAdjust
 simp only[h1,if_false]
 refine Ko ?_ ?_
 ·cases lo with
  | none=>rfl
  | some v=>exact tZ v n 0
 ·cases hi with
  | none=>rfl
  | some v=>exact tZ v n n
theorem sf (i j:Nat):Builtin.Slice.slicePlaces (i:Int) (j:Int) 1=j-i:=by
 unfold Builtin.Slice.slicePlaces
 have h1:(1:Int)>0:=by lia
 simp only[h1,if_true,Int.ediv_one]
 split <;> lia
theorem kT {v:CJ}{o:Option Int}{Q:Option Int->CN->Prop}(p:IsPart v o)(h:Q o s):Dh (DA prog w) A (Builtin.Slice.slicePartIndex v) Q E s:=by
 cases p with
 | none=>exact slicePart_none h
 | int i t=>exact slicePart_int h
theorem fc {sl:Addr}{vl vu:CJ}{lo hi:Option Int}{n:Nat}{Q:Int×Int×Nat->CN->Prop}(hs:s.heap.IsSliceOf sl vl vu .none)(pl:IsPart vl lo)(pu:IsPart vu hi)
  (h:Q (((sIx n 0 lo:Nat):Int),1,sIx n n hi-sIx n 0 lo) s):Dh (DA prog w) A (Builtin.Slice.sliceApplied (.ref sl) (pure (n:Int))) Q E s:=by
 obtain ⟨os,hos,hcs,hds⟩:=id hs
 unfold Builtin.Slice.sliceApplied Builtin.Slice.sliceFields
 refine CD (CD (Fo hos hds (x:=vl) rfl (CD (Fo hos hds (x:=vu) rfl (CD (Fo hos hds (x :=.none) rfl (CK ?_)))))))
 refine CD (slicePart_none ?_)
 show Dh _ _ (if ((1:Int) == 0)=true then _ else _) _ _ s
 rw[if_neg (by decide)]
 refine CD (kT pl (CD (kT pu (CD (CK ?_)))))
 show Dh _ _ (match Builtin.Slice.sliceAdjust lo hi 1 (n:Int) with | (lo,hi)=>pure (lo,(1:Int),Builtin.Slice.slicePlaces lo hi 1)) _ _ s
 rw[se lo hi n]
 show Dh _ _ (pure (((sIx n 0 lo:Nat):Int),(1:Int),Builtin.Slice.slicePlaces ((sIx n 0 lo:Nat):Int) ((sIx n n hi:Nat):Int) 1)) _ _ s
 rw[sf]
 exact CK h
theorem wN (xs:Array CJ)(i k:Nat):((Ei k).filterMap λ(m:Nat)=>xs[((i:Int)+(m:Int)*1).toNat]?).toArray=((xs.toList.drop i).take k).toArray:=by
 have e:(λ(m:Nat)=>xs[((i:Int)+(m:Int)*1).toNat]?)=λm=>xs[i+m]? := by
  funext m
  have:((i:Int)+(m:Int)*1).toNat=i+m:=by lia
  rw[this]
 rw[e]
 have:=pick_run xs i k
 rw[Kp] at this
 have e2:((λx=>xs[x]?) ∘ λx=>i+x)=λm=>xs[i+m]? := rfl
 rw[e2] at this
 rw[this]
theorem iP {t sl:Addr}{items:Array CJ}{vl vu:CJ}{lo hi:Option Int}{Q:CJ->CN->Prop}(ht:IsTup s.heap t items)(hs:s.heap.IsSliceOf sl vl vu .none)(pl:IsPart vl lo)(pu:IsPart vu hi)
  (hw:¬ (sIx items.size 0 lo=0/\sIx items.size items.size hi=items.size))
  (h:Q (.ref s.heap.objs.size) { s with heap:=s.heap.push { cls :=.type "tuple",data :=.seq ((items.toList.drop (sIx items.size 0 lo)).take (sIx items.size items.size hi-sIx items.size 0 lo)).toArray } })
  (hsz:items.size<=C6):Dh (DA prog w) A (getItem (.ref t) (.ref sl)) Q E s:=by
 have htake:sizeOk (.seq ((items.toList.drop (sIx items.size 0 lo)).take (sIx items.size items.size hi-sIx items.size 0 lo)).toArray):=by
  show ((items.toList.drop (sIx items.size 0 lo)).take (sIx items.size items.size hi-sIx items.size 0 lo)).toArray.size<=C6
  rw[CS,Eb,Es,CV]
  omega
 have hj:sIx items.size items.size hi<=items.size:=A0 _ _ (CO _) hi
 obtain ⟨os,hos,hcs,hds⟩:=id hs
 have hTs:s.TypeIs (.ref sl) "slice" :=⟨os,hos,hcs⟩
 unfold getItem
 try with_reducible refine D5 ?_
 first | refine CD (CK ?_) | skip
 refine CD (K3 ht.typeIs (by decide) ?_)
 refine CD (EN (name:=Str.ofString "__getitem__") ht.typeIs Ed
  (Em Ed ht.typeIs entry_tuple_getitem ?_ (KA _ _)))
 show Dh _ _ (Builtin.Tuple.tupleItemsOf (.ref t) >>= _) _ _ s
 refine CD (tupleItemsOf_ ht ?_)
 refine CD (Fs hTs ?_)
 rw[if_pos (by decide)]
 refine CD (fc hs pl pu ?_)
 have hno:¬ ((((sIx items.size 0 lo:Nat):Int) == 0 && (1:Int) == 1 && (sIx items.size items.size hi-sIx items.size 0 lo) == items.size)=true):=by
  intro q
  rw[EO,EO] at q
  have q1:((sIx items.size 0 lo:Nat):Int)=0:=eq_of_beq q.1.1
  have q2:sIx items.size items.size hi-sIx items.size 0 lo=items.size:=eq_of_beq q.2
  exact hw ⟨by omega,by omega⟩
 show Dh _ _ (if (((sIx items.size 0 lo:Nat):Int) == 0 && (1:Int) == 1 && (sIx items.size items.size hi-sIx items.size 0 lo) == items.size)=true then _ else _) _ _ s
 rw[if_neg hno,wN]
 first
  | exact CD (m:=Builtin.Tuple.tupleExact _) (DM (CK ⟨_,rfl,CK h⟩) htake)
  | exact CD (m:=Builtin.Tuple.tupleExact _) (DM (CD (CK (CK ⟨_,rfl,CK h⟩))) htake)
  | exact CD (CD (m:=Builtin.Tuple.tupleExact _) (DM (CK (CK ⟨_,rfl,CK h⟩)) htake))
  | exact CD (CD (m:=Builtin.Tuple.tupleExact _) (DM (CK ⟨_,rfl,CK h⟩) htake))
end
end HT
namespace L2
open PySem PySem.Spec PyProof.Rows
abbrev TO:=St->Hp->(Option Int->Hp->Prop)->Prop
def PO (X:Cx)(e:Option Expr)(t:TO):Prop :=
 ∀(pins:List (Addr×Obj)) (s:CN) (σ:St) (H:Hp) (Q:Option Int->Hp->Prop),Inv X pins σ H s->t σ H Q →
  Dh (DA X.prog X.w) X.A (evalPart e X.env) (λu s'=>∃o H',Inv X pins σ H' s'/\IsPart u o/\Q o H') X.xe s
def yV:TO:=λ_ H Q=>Q none H
def B5 (t:TE):TO:=λσ H Q=>t σ H λx H1=>∃i,x = .int i/\Q (some i) H1
theorem intsAre_of {ns:List Int}:∀{us:List CJ},Vals (ns.map V.int) us->FF us ns:=by
 induction ns with
 | nil=>intro us r;rw[HX] at r;cases r;exact .nil
 | cons n ns ih =>
  intro us r
  rw[Dy] at r
  cases r with
  | cons r1 r2 =>
   obtain ⟨t,e⟩:=r1
   subst e
   exact .cons n t (ih r2)
section
variable  {X:Cx}{e:Expr}{te:TE}{lo hi:Option Expr}{tl th:TO}{pos p2:Pos}
theorem fI:PO X none yV:=by
 intro pins s σ H Q I h
 rw[evalPart_none]
 exact CK ⟨none,H,I,.none,h⟩
theorem dG (h:PE X e te):PO X (some e) (B5 te):=by
 intro pins s σ H Q I hw
 rw[evalPart_some]
 refine thn (h pins s σ H _ I hw) λu s1 ⟨x,H1,I1,r1,q1⟩ =>?_
 obtain ⟨i,rfl,q⟩:=q1
 obtain ⟨t,rfl⟩:=r1
 exact ⟨some i,H1,I1,.int i t,q⟩
def SlR (X:Cx)(r:V->Option Int->Option Int->Hp->VK->Prop):Prop :=
 ∀(pins:List (Addr×Obj)) (s:CN) (σ:St) (H:Hp) (x:V) (v vl vu:CJ) (lo hi:Option Int) (sl:Addr) (Q:VK),Inv X pins σ H s->RelV x v->s.heap.IsSliceOf sl vl vu .none->IsPart vl lo->IsPart vu hi->r x lo hi H Q →
  ∃T id,typeLookup (.type T) "__getitem__" = pure (some (.builtin id))/\s.TypeIs v T/\Dh (DA X.prog X.w) X.A (getItem v (.ref sl)) (EP X pins σ Q) X.xe s
def tSl (r:V->Option Int->Option Int->Hp->VK->Prop)(te:TE)(tl th:TO):TE:=λσ H Q=>te σ H λx H1=>tl σ H1 λl H2=>th σ H2 λu H3=>r x l u H3 Q
theorem du {r:V->Option Int->Option Int->Hp->VK->Prop}(hr:SlR X r)(he:PE X e te)(hl:PO X lo tl)(hu:PO X hi th):PE X (.Subscript e (.Slice lo hi none p2) pos) (tSl r te tl th):=by
 intro pins s σ H Q I h
 refine Subscript_ (thn (he pins s σ H _ I h) λv s1 ⟨x,H1,I1,r1,q1⟩ =>?_)
 refine wpAny_Slice (thn (hl pins s1 σ H1 _ I1 q1) λvl s2 ⟨l,H2,I2,pl,q2⟩=>thn (hu pins s2 σ H2 _ I2 q2) λvu s3 ⟨u,H3,I3,pu,q3⟩ =>?_)
 rw[evalPart_none]
 refine CK ?_
 have I4:Inv X pins σ H3 { s3 with heap:=s3.heap.push { cls :=.type "slice",data :=.fields #[vl,vu,.none] } }:=I3.kept (t':=s3.toks) λb ob q=>CH _ q
 obtain ⟨T,id,hT,ht,hg⟩:=hr pins { s3 with heap:=s3.heap.push { cls :=.type "slice",data :=.fields #[vl,vu,.none] } } σ H3 x v vl vu l u s3.heap.objs.size Q I4 r1 (L9 ..) pl pu q3
 show Dh (DA X.prog X.w) X.A (subscriptTail e (.Slice lo hi none p2) v (.ref s3.heap.objs.size)) (EP X pins σ Q) X.xe { s3 with heap:=s3.heap.push { cls :=.type "slice",data :=.fields #[vl,vu,.none] } }
 exact tail_any (ops:=[.ref s3.heap.objs.size,v]) ht hT hg (by with_unfolding_all rfl)
def fX (xs:List V)(lo hi:Option Int):List V:=(xs.drop (HT.sIx xs.length 0 lo)).take (HT.sIx xs.length xs.length hi-HT.sIx xs.length 0 lo)
theorem jU (xs:List V)(lo hi:Option Int):(fX xs lo hi).length<=xs.length:=by
 unfold fX
 rw[Eb,Es]
 lia
def rSlT (K:CM):V->Option Int->Option Int->Hp->VK->Prop:=λx lo hi H Q=>∃a xs,x = .ref a/\SqT K H a xs ∧
 ¬ (HT.sIx xs.length 0 lo=0/\HT.sIx xs.length xs.length hi=xs.length)/\∀p,H p=none->Q (.ref p) (upd H p (.tup (fX xs lo hi)))
theorem A1:SlR X (rSlT X.K):=by
 intro pins s σ H x v vl vu lo hi sl Q I rx hs pl pu h
 obtain ⟨a,xs,rfl,hx,hw,q⟩:=h
 cases rx
 obtain ⟨its,r,ht,hz⟩:=I.tuple hx
 have hlen:its.toArray.size=xs.length:=by rw[CS];exact r.length.symm
 refine ⟨"tuple",_,Ed.lookup,ht.typeIs,?_⟩
 refine HT.iP ht hs pl pu (by rw[hlen];exact hw) ?_ (by rw[hlen];exact hz)
 rw[hlen]
 refine ⟨.ref s.heap.objs.size,_,I.laid (t':=s.toks) (o :=.tup (fX xs lo hi)) (λb ob q=>CH _ q) (CO _) ?_,rfl,q _ (I.hok.fresh (CO _))⟩
 exact ⟨DT (jU xs lo hi) hz,_,(r.drop (HT.sIx xs.length 0 lo)).take (HT.sIx xs.length xs.length hi-HT.sIx xs.length 0 lo),eM.new _ _⟩
def B6 (K:CM):R2:=λx y H Q=>∃a b xs ys,x = .ref a/\y = .ref b/\SqT K H a xs/\SqT K H b ys/\xs≠[]/\xs.length+ys.length<=C6 ∧
 (ys=[]->Q (.ref a) H)/\(ys≠[]->∀p,H p=none->Q (.ref p) (upd H p (.tup (xs++ys))))
theorem Vals.kg {xs:List V}{us:List CJ}(r:Vals xs us):us=[]↔xs=[]:=by
 cases r with
 | nil=>simp
 | cons _ _=>simp
theorem yW:OpR X (binaryOp .Add) (B6 X.K):=by
 intro pins s σ H x y v u Q I rx ry h
 obtain ⟨a,b,xs,ys,rfl,rfl,ha,hb,hx,hz,q1,q2⟩:=h
 cases rx
 cases ry
 obtain ⟨its,r1,p1,_⟩:=I.tuple ha
 obtain ⟨its2,r2,p2,_⟩:=I.tuple hb
 refine HT.yU p1 p2 (λz=>hx (r1.kg.mp z)) (λz=>⟨.ref a,H,I,rfl,q1 (r2.kg.mp z)⟩) (λz =>?_) (by rw[<- r1.length, <- r2.length];exact hz)
 refine ⟨.ref s.heap.objs.size,_,I.laid (t':=s.toks) (o :=.tup (xs++ys)) (λb ob q=>CH _ q) (CO _) ?_,rfl,q2 (λw=>z (r2.kg.mpr w)) _ (I.hok.fresh (CO _))⟩
 exact ⟨by rw[CL];exact hz,_,r1.append r2,eM.new _ _⟩
end
open PySem PySem.Spec PyProof.Rows
def ixN (n:Nat)(i:Int):Option Nat:=if 0<=i then (if i<n then some i.toNat else none) else if -(n:Int)<=i then some (i+n).toNat else none
def atI {α:Type}(xs:List α)(i:Int):Option α:=(ixN xs.length i).bind λj=>xs[j]?
theorem t4 {n:Nat}{i:Int}{j:Nat}(h:ixN n i=some j):seqIndex? i n=some j/\j<n /\ -(n:Int)<=i/\i<n:=by
 unfold ixN at h
 by_cases h0:0<=i
 ·rw[if_pos h0] at h
  by_cases h1:i<n
  ·rw[if_pos h1] at h
   have e:i.toNat=j:=Dk h
   exact ⟨by rw[Ki h0 h1,e],by lia,by lia,h1⟩
  ·rw[if_neg h1] at h;cases h
 ·rw[if_neg h0] at h
  by_cases h1 : -(n:Int)<=i
  ·rw[if_pos h1] at h
   have e:(i+n).toNat=j:=Dk h
   exact ⟨by rw[K6 (by lia) h1,e],by lia,h1,by lia⟩
  ·rw[if_neg h1] at h;cases h
theorem t5 {α:Type}{xs:List α}{i:Int}{v:α}(h:atI xs i=some v):∃j,seqIndex? i xs.length=some j/\xs[j]? = some v/\j<xs.length /\ -(xs.length:Int)<=i/\i<xs.length:=by
 unfold atI at h
 cases e:ixN xs.length i with
 | none=>rw[e] at h;cases h
 | some j =>
  rw[e] at h
  obtain ⟨h1,h2,h3,h4⟩:=t4 e
  exact ⟨j,h1,h,h2,h3,h4⟩
theorem cD {α:Type}{xs:List α}{j:Nat}{v:α}(h:xs[j]? = some v):atI xs (j:Int)=some v:=by
 have hj:j<xs.length:=(CP.mp h).1
 have e:ixN xs.length (j:Int)=some j:=by
  unfold ixN
  rw[if_pos (by lia),if_pos (by lia)];simp
 unfold atI;rw[e];exact h
def yX (b:Expr):Prop:=∀o i,subscripted b false o i=operate [o,i] (getItem o i)
def IxR (X:Cx)(r:R2):Prop :=
 ∀(value slice:Expr) (pins:List (Addr×Obj)) (s:CN) (σ:St) (H:Hp) (x y:V) (v u:CJ) (Q:VK),Inv X pins σ H s->RelV x v->RelV y u->r x y H Q →
  subscripted slice false v u=operate [v,u] (getItem v u)->Dh (DA X.prog X.w) X.A (subscriptTail value slice v u) (EP X pins σ Q) X.xe s
def MtR (X:Cx)(id:String)(r:V->List V->Hp->VK->Prop):Prop :=
 ∀(pins:List (Addr×Obj)) (s:CN) (σ:St) (H:Hp) (x:V) (xs:List V) (v:CJ) (us:List CJ) (Q:VK),Inv X pins σ H s->RelV x v->Vals xs us->r x xs H Q →
  Dh (DA X.prog X.w) X.A (call (.builtin id) (v :: us)) (EP X pins σ Q) X.xe s
section
variable  {X:Cx}{a b:Expr}{ta tb:TE}{pos:Pos}
theorem aH {r:R2}(hr:IxR X r)(ha:PE X a ta)(hb:PE X b tb)(hs:yX b):PE X (.Subscript a b pos) (tOp r ta tb):=by
 intro pins s σ H Q I h
 exact Subscript_ (AR ha hb I h λv u s2 x y H2 I2 rx ry q=>hr a b pins s2 σ H2 x y v u Q I2 rx ry q (hs _ _))
def B7 (K:CM):R2:=λx y H Q=>∃p xs i v,x = .ref p/\y = .int i/\SqL K H p xs/\atI xs i=some v/\Q v H
def B8 (K:CM):R2:=λx y H Q=>∃p xs i v,x = .ref p/\y = .int i/\SqT K H p xs/\atI xs i=some v/\Q v H
theorem b8:IxR X (B7 X.K):=by
 intro value slice pins s σ H x y v u Q I rx ry h hs
 obtain ⟨p,xs,i,z,rfl,rfl,hq,he,q⟩:=h
 cases rx
 obtain ⟨t,rfl⟩:=ry
 obtain ⟨its,r,pl,hz⟩:=I.list hq
 obtain ⟨j,h1,h2,h3,h4,h5⟩:=t5 he
 obtain ⟨w,ew,rw'⟩:=r.get h2
 have hl:=r.length
 have hn:=jz
 have fin:EP X pins σ Q w s:=⟨z,H,I,rw',q⟩
 by_cases h0:0<=i
 ·have hj:i.toNat=j:=by
   rw[Ki h0 h5] at h1
   exact Dk h1
  exact item_listR pl.isList h0 (by lia) (by rw[hj];simpa using ew) fin hs
 ·have hj:(i+(its.toArray.size:Int)).toNat=j:=by
   rw[K6 (by lia) h4] at h1
   rw[CS, <- hl]
   exact Dk h1
  exact JD (x:=w) pl.isList.typeIs slot_list_getitem.lookup
   (wpAny_getItem_list_neg (Q:=λr s'=>r=w/\EP X pins σ Q r s') pl.isList (by lia) (by rw[CS] <;> lia) (by lia) (by rw[hj];simpa using ew) ⟨rfl,fin⟩) hs
theorem aI:IxR X (B8 X.K):=by
 intro value slice pins s σ H x y v u Q I rx ry h hs
 obtain ⟨p,xs,i,z,rfl,rfl,hq,he,q⟩:=h
 cases rx
 obtain ⟨t,rfl⟩:=ry
 obtain ⟨its,r,pl,hz⟩:=I.tuple hq
 obtain ⟨j,h1,h2,h3,h4,h5⟩:=t5 he
 obtain ⟨w,ew,rw'⟩:=r.get h2
 have hl:=r.length
 have hn:=jz
 have fin:EP X pins σ Q w s:=⟨z,H,I,rw',q⟩
 exact JD (x:=w) pl.typeIs slot_tuple_getitem.lookup
  (getItem_tuple (j:=j) (Q:=λr s'=>r=w/\EP X pins σ Q r s') pl (by lia) (by lia) (by rw[CS, <- hl];exact h1) (by simpa using ew) ⟨rfl,fin⟩) hs
theorem sg (its:List CJ)(n j:Nat)(u:CJ):EL (·.setIfInBounds j u) { cls :=.type "list",data :=.seq its.toArray n }={ cls :=.type "list",data :=.seq (its.set j u).toArray n }:=by
 simp[EL]
theorem Inv.lst {pins:List (Addr×Obj)}{σ:St}{H:Hp}{s:CN}{p:Addr}{xs:List V}(I:Inv X pins σ H s)(h:H p=some (.lst xs)) :
  ∃(its:List CJ) (n:Nat),Vals xs its/\s.heap.get? p=some { cls :=.type "list",data :=.seq its.toArray n }/\xs.length<=C6:=by
 obtain ⟨z,its,n,r,e⟩:=I.hok p _ h
 exact ⟨its,n,r,e,z⟩
theorem Inv.A2 {pins:List (Addr×Obj)}{σ:St}{H:Hp}{s:CN}{p:Addr}{xs ys:List V}{its its':List CJ}{n n':Nat}{f:Obj->Obj}(I:Inv X pins σ H s)(h:H p=some (.lst xs))
  (ho:s.heap.get? p=some { cls :=.type "list",data :=.seq its.toArray n }) (hf:f { cls :=.type "list",data :=.seq its.toArray n }={ cls :=.type "list",data :=.seq its'.toArray n' }) (r:Vals ys its') (hz:ys.length<=C6) (t:Nat) :
  Inv X pins σ (upd H p (.lst ys)) { s with heap:=s.heap.update p f,toks:=t }:=by
 have e:(s.heap.update p f).get? p=some { cls :=.type "list",data :=.seq its'.toArray n' }:=by
  rw[DI f ho (by rw[hf] <;> rfl),hf]
 refine I.write (x:=p) (e:=p) (by rw[h];trivial) (.inl rfl) (λb u hb q=>(Dl _ _ (D8 hb)).trans q) ⟨_,e⟩ ?_
 exact ⟨hz,its',n',r,e⟩
def B9:V->V->V->Hp->(Hp->Prop)->Prop:=λo i v H Q=>∃p xs k j,o = .ref p/\i = .int k/\H p=some (.lst xs)/\ixN xs.length k=some j/\Q (upd H p (.lst (xs.set j v)))
theorem set_list:AM X B9:=by
 intro pins s σ H o i v ov iv u Q I ro ri rv h
 obtain ⟨p,xs,k,j,rfl,rfl,hp,hj,q⟩:=h
 cases ro
 obtain ⟨t,rfl⟩:=ri
 obtain ⟨its,n,r,ho,hz⟩:=I.lst hp
 obtain ⟨h1,h2,h3,h4⟩:=t4 hj
 have hl:=r.length
 have hn:=jz
 have I':Inv X pins σ (upd H p (.lst (xs.set j v))) { s with heap:=s.heap.update p (EL (·.setIfInBounds j u)) } :=
  I.A2 hp ho (sg its n j u) (r.set rv j) (by rw[Gn];exact hz) s.toks
 by_cases h0:0<=k
 ·have hk:k.toNat=j:=by
   rw[Ki h0 h4] at h1
   exact Dk h1
  exact PySem.W.ki_setAt ho h0 (by lia) (by rw[CS, <- hl];exact h4) (by rw[hk];exact ⟨_,I',q⟩)
 ·have hk:(k+(its.toArray.size:Int)).toNat=j:=by
   rw[K6 (by lia) h3] at h1
   rw[CS, <- hl]
   exact Dk h1
  exact PySem.W.ki_setBack ho (by lia) (by rw[CS, <- hl];exact h3) (by lia) (by rw[hk];exact ⟨_,I',q⟩)
theorem oP (lo hi:Option Int)(n:Nat):(sliceBounds lo hi none n).1=((HT.sIx n 0 lo:Nat):Int)/\(sliceBounds lo hi none n).2.1=((HT.sIx n n hi:Nat):Int)/\(sliceBounds lo hi none n).2.2=1:=by
 refine ⟨?_,?_,rfl⟩
 ·cases lo with
  | none=>simp[sliceBounds,HT.sIx]
  | some i =>
   simp only[sliceBounds,HT.sIx,Ld,show (1:Int)>0 by decide,if_true]
   by_cases h:i<0
   ·simp only[h,if_true] <;> lia
   ·simp only[h,if_false] <;> lia
 ·cases hi with
  | none=>simp[sliceBounds,HT.sIx]
  | some i =>
   simp only[sliceBounds,HT.sIx,Ld,show (1:Int)>0 by decide,if_true]
   by_cases h:i<0
   ·simp only[h,if_true] <;> lia
   ·simp only[h,if_false] <;> lia
theorem mN (its:List CJ)(lo hi:Option Int):slicePick its.toArray lo hi none=((its.drop (HT.sIx its.length 0 lo)).take (HT.sIx its.length its.length hi-HT.sIx its.length 0 lo)).toArray:=by
 obtain ⟨h1,h2,h3⟩:=oP lo hi its.toArray.size
 unfold slicePick
 rw[h1,h2,h3]
 simp only[sliceRange_one,pick_run,CS] <;> rfl
def rSlL (K:CM):V->Option Int->Option Int->Hp->VK->Prop:=λx lo hi H Q=>∃a xs,x = .ref a/\SqL K H a xs/\∀p,H p=none->Q (.ref p) (upd H p (.lst (fX xs lo hi)))
theorem t6:SlR X (rSlL X.K):=by
 intro pins s σ H x v vl vu lo hi sl Q I rx hs pl pu h
 obtain ⟨a,xs,rfl,hx,q⟩:=h
 cases rx
 obtain ⟨its,r,ht,hz⟩:=I.list hx
 have hlen:=r.length
 refine ⟨"list",_,slot_list_getitem.lookup,ht.isList.typeIs,?_⟩
 refine wpAny_getItem_list_slice ht.isList hs pl pu .none (by simp) ?_ (by rw[CS] <;> lia)
 rw[mN, <- hlen]
 refine ⟨.ref s.heap.objs.size,_,I.laid (t':=s.toks) (o :=.lst (fX xs lo hi)) (λb ob q=>CH _ q) (CO _) ?_,rfl,q _ (I.hok.fresh (CO _))⟩
 exact ⟨DT (jU xs lo hi) hz,_,0,(r.drop (HT.sIx xs.length 0 lo)).take (HT.sIx xs.length xs.length hi-HT.sIx xs.length 0 lo),CZ _ rfl⟩
def iQ:V->Bool
 | .non=>true
 | .bl _=>true
 | .int _=>true
 | .str _=>true
 | _=>false
def eqV:V->V->Bool
 | .non,.non=>true
 | .bl a,.bl b=>a == b
 | .bl a,.int b=>(if a then 1 else 0) == b
 | .int a,.bl b=>a == (if b then 1 else 0)
 | .int a,.int b=>a == b
 | .str a,.str b=>a == b
 | _,_=>false
theorem A3 {A:D1}{s:CN}{y x:V}{u v:CJ}(ry:RelV y u)(rx:RelV x v)(fy:iQ y=true)(fx:iQ x=true):G8 A s u v (eqV y x):=by
 cases y with
 | non =>
  cases ry
  cases x with
  | non=>cases rx;exact JG _
  | bl b=>cases rx;exact SeqAt.EqAt.none_bool b
  | int b=>obtain ⟨t,rfl⟩:=rx;exact SeqAt.EqAt.none_int b t
  | str b=>obtain ⟨t,rfl⟩:=rx;exact SeqAt.EqAt.none_str b t
  | _=>exact absurd (show false=true from fx) C8
 | bl a =>
  cases ry
  cases x with
  | non=>cases rx;exact SeqAt.EqAt.bool_none a
  | bl b=>cases rx;exact SeqAt.EqAt.bool_bool a b
  | int b=>obtain ⟨t,rfl⟩:=rx;exact SeqAt.EqAt.bool_int a b t
  | str b=>obtain ⟨t,rfl⟩:=rx;exact SeqAt.EqAt.bool_str a b t
  | _=>exact absurd (show false=true from fx) C8
 | int a =>
  obtain ⟨t',rfl⟩:=ry
  cases x with
  | non=>cases rx;exact SeqAt.EqAt.int_none a t'
  | bl b=>cases rx;exact SeqAt.EqAt.int_bool a t' b
  | int b=>obtain ⟨t,rfl⟩:=rx;exact Gb a t' b t
  | str b=>obtain ⟨t,rfl⟩:=rx;exact Km a t' b t
  | _=>exact absurd (show false=true from fx) C8
 | str a =>
  obtain ⟨t',rfl⟩:=ry
  cases x with
  | non=>cases rx;exact SeqAt.EqAt.str_none a t'
  | bl b=>cases rx;exact SeqAt.EqAt.str_bool a t' b
  | int b=>obtain ⟨t,rfl⟩:=rx;exact Kn a t' b t
  | str b=>obtain ⟨t,rfl⟩:=rx;exact Kq a t' b t
  | _=>exact absurd (show false=true from fx) C8
 | _=>exact absurd (show false=true from fy) C8
def eqU (x:V)(u:CJ):Bool:=match u with
 | .none=>eqV .non x
 | .bool b=>eqV (.bl b) x
 | .int i _=>eqV (.int i) x
 | .str z _=>eqV (.str z) x
 | _=>false
theorem wO {x y:V}{u:CJ}(r:RelV y u)(f:iQ y=true):eqU x u=eqV y x:=by
 cases y with
 | non=>cases r;rfl
 | bl b=>cases r;rfl
 | int i=>obtain ⟨t,rfl⟩:=r;rfl
 | str z=>obtain ⟨t,rfl⟩:=r;rfl
 | _=>exact absurd (show false=true from f) C8
theorem iR {x:V}:∀{xs:List V} {us:List CJ},Vals xs us->xs.all iQ=true->us.any (eqU x)=xs.any λy=>eqV y x
 | _,_,.nil,_=>rfl
 | y :: xs,u :: us,.cons r t,f=>by
  rw[LV,EO] at f
  rw[HE,HE,wO r f.1,iR t f.2]
theorem f9 {A:D1}{s:CN}{x:V}{v:CJ}(rx:RelV x v)(fx:iQ x=true):∀{xs:List V} {us:List CJ},Vals xs us->xs.all iQ=true->∀u∈us,G8 A s u v (eqU x u)
 | _,_,.nil,_=>λu hu=>by cases hu
 | y :: xs,u :: us,.cons r t,f=>λu' hu=>by
  rw[LV,EO] at f
  rcases C9.mp hu with rfl | hu
  ·rw[wO r f.1];exact A3 r rx f.1 fx
  ·exact f9 rx fx t f.2 u' hu
def inV (x:V)(xs:List V):Bool:=xs.any λy=>eqV y x
def rIn (K:CM)(neg:Bool):R2:=λx y H Q=>∃p xs,y = .ref p/\(SqL K H p xs\/SqT K H p xs)/\iQ x=true/\xs.all iQ=true/\Q (.bl (if neg then !inV x xs else inV x xs)) H
theorem vi:OpR X (EV .In) (rIn X.K false):=by
 intro pins s σ H x y v u Q I rx ry h
 obtain ⟨p,xs,rfl,hq,fx,fs,q⟩:=h
 cases ry
 rcases hq with hq | hq
 ·obtain ⟨its,r,pl,hz⟩:=I.list hq
  refine SeqAt.in_listAt (eqU x) pl.isList (λw hw=>f9 rx fx r fs w (by simpa using hw)) ⟨.bl _,H,I,rfl,?_⟩
  rw[show its.toArray.any (eqU x)=its.any (eqU x) by simp,iR r fs]
  exact q
 ·obtain ⟨its,r,pl,hz⟩:=I.tuple hq
  refine SeqAt.in_tupleAt (eqU x) pl (λw hw=>f9 rx fx r fs w (by simpa using hw)) ⟨.bl _,H,I,rfl,?_⟩
  rw[show its.toArray.any (eqU x)=its.any (eqU x) by simp,iR r fs]
  exact q
theorem oQ:OpR X (EV .NotIn) (rIn X.K true):=by
 intro pins s σ H x y v u Q I rx ry h
 obtain ⟨p,xs,rfl,hq,fx,fs,q⟩:=h
 cases ry
 rcases hq with hq | hq
 ·obtain ⟨its,r,pl,hz⟩:=I.list hq
  refine SeqAt.notIn_listAt (eqU x) pl.isList (λw hw=>f9 rx fx r fs w (by simpa using hw)) ⟨.bl _,H,I,rfl,?_⟩
  rw[show its.toArray.any (eqU x)=its.any (eqU x) by simp,iR r fs]
  exact q
 ·obtain ⟨its,r,pl,hz⟩:=I.tuple hq
  refine SeqAt.notIn_tupleAt (eqU x) pl (λw hw=>f9 rx fx r fs w (by simpa using hw)) ⟨.bl _,H,I,rfl,?_⟩
  rw[show its.toArray.any (eqU x)=its.any (eqU x) by simp,iR r fs]
  exact q
theorem aY:bK X (.builtin "len") (λxs H Q=>∃p ys,xs=[.ref p]/\(SqL X.K H p ys\/SqT X.K H p ys)/\Q (.int ys.length) H):=by
 intro pins s σ H xs us Q I r h
 obtain ⟨p,ys,rfl,hq,q⟩:=h
 obtain ⟨u,rfl,rx⟩:=vals1 r
 cases rx
 have hn:=jz
 rcases hq with hq | hq
 ·obtain ⟨its,r',pl,hz⟩:=I.list hq
  have hlen:=r'.length
  exact Calls.call_len_list pl.isList (by simp only[CS] <;> lia) ⟨.int ys.length,H,I.tok _,⟨s.toks+1,by rw[CS,hlen]⟩,q⟩
 ·obtain ⟨its,r',pl,hz⟩:=I.tuple hq
  have hlen:=r'.length
  exact LD pl (by simp only[CS] <;> lia) ⟨.int ys.length,H,I.tok _,⟨s.toks+1,by rw[CS,hlen]⟩,q⟩
theorem cS:bK X (.type "list") (λxs H Q=>∃p ys,xs=[.ref p]/\(SqL X.K H p ys\/SqT X.K H p ys)/\∀l,H l=none->Q (.ref l) (upd H l (.lst ys))):=by
 intro pins s σ H xs us Q I r h
 obtain ⟨p,ys,rfl,hq,q⟩:=h
 obtain ⟨u,rfl,rx⟩:=vals1 r
 cases rx
 have fin:∀(its:List CJ),Vals ys its->ys.length<=C6->∀(h':Heap) (c':Nat),(∀b o',s.heap.get? b=some o'->h'.get? b=some o') →
   h'.get? s.heap.objs.size=some { cls :=.type "list",dict:=none,data :=.seq its.toArray c',slots := #[] }->EP X pins σ Q (.ref s.heap.objs.size) { s with heap:=h' }:=λits r' hz h' c' kp e =>
  ⟨.ref s.heap.objs.size,_,I.laid (t':=s.toks) kp (CO _) (show bB X.prog X.w _ h' _ (.lst ys) from ⟨hz,its,c',r',e⟩),rfl,q _ (I.hok.fresh (CO _))⟩
 rcases hq with hq | hq
 ·obtain ⟨its,r',pl,hz⟩:=I.list hq
  have hlen:=r'.length
  obtain ⟨o,ho,hc,n,hd⟩:=pl.isList
  exact call_list_seq p (.inl rfl) ho hc hd (λh' c' kp e=>fin its r' hz h' c' kp e) (by simp only[CS] <;> lia)
 ·obtain ⟨its,r',pl,hz⟩:=I.tuple hq
  have hlen:=r'.length
  obtain ⟨o,ho,hc,n,hd⟩:=pl
  exact call_list_seq p (.inr rfl) ho hc hd (λh' c' kp e=>fin its r' hz h' c' kp e) (by simp only[CS] <;> lia)
theorem aX:bK X (.type "tuple") (λxs H Q=>∃p ys,xs=[.ref p]/\((SqL X.K H p ys/\∀l,H l=none->Q (.ref l) (upd H l (.tup ys)))\/(SqT X.K H p ys/\Q (.ref p) H))):=by
 intro pins s σ H xs us Q I r h
 obtain ⟨p,ys,rfl,h⟩:=h
 obtain ⟨u,rfl,rx⟩:=vals1 r
 cases rx
 rcases h with ⟨hq,q⟩ | ⟨hq,q⟩
 ·obtain ⟨its,r',pl,hz⟩:=I.list hq
  have hlen:=r'.length
  refine call_tuple_list pl.isList (λh' kp =>?_) (by simp only[CS] <;> lia)
  have I1:Inv X pins σ H { s with heap:=h' }:=I.kept (t':=s.toks) kp
  have I2:Inv X pins σ (upd H h'.objs.size (.tup ys)) { s with heap:=h'.push { cls :=.type "tuple",data :=.seq its.toArray } } :=
   I1.laid (t':=s.toks) (λb o e=>CH _ e) (CO _) (show bB X.prog X.w _ _ _ (.tup ys) from ⟨hz,its,r',eM.new _ _⟩)
  exact ⟨.ref h'.objs.size,_,I2,rfl,q _ (I1.hok.fresh (CO _))⟩
 ·obtain ⟨its,r',pl,hz⟩:=I.tuple hq
  exact call_tuple_same pl ⟨.ref p,H,I,rfl,q⟩
def tyV (K:CM)(T:String)(x:V)(H:Hp):Prop:=match x with
 | .str _=>T = "str"
 | .int _=>T = "int"
 | .ref p=>(T = "list" /\ ∃xs,SqL K H p xs)\/(T = "tuple" /\ ∃o,K.lookup p=some o/\o.cls = .type "tuple" /\ o.dict=none) ∨
   (T = "dict" /\ ((∃kvs,H p=some (.dK kvs))\/∃kvs,H p=some (.dT kvs)))\/(T = "set" /\ ∃S n,H p=some (.set S n))
 | _=>False
theorem wQ {pins:List (Addr×Obj)}{σ:St}{H:Hp}{s:CN}{T:String}{x:V}{v:CJ}(I:Inv X pins σ H s)(r:RelV x v)(ty:tyV X.K T x H) :
  s.TypeIs v T/\∀a,v = .ref a->∃ob,s.heap.get? a=some ob/\ob.dict=none:=by
 cases x with
 | str z =>
  obtain ⟨t,rfl⟩:=r
  cases (show T = "str" from ty)
  exact ⟨typeIs_str s z t,λ_ e=>nomatch e⟩
 | int i =>
  obtain ⟨t,rfl⟩:=r
  cases (show T = "int" from ty)
  exact ⟨J0 s i t,λ_ e=>nomatch e⟩
 | ref p =>
  cases r
  rcases ty with ⟨rfl,xs,hq⟩ | ⟨rfl,o,hk,hc,hd⟩ | ⟨rfl,hk⟩ | ⟨rfl,S,n,hk⟩
  ·obtain ⟨its,_,pl,_⟩:=I.list hq
   refine ⟨pl.isList.typeIs,λa e =>?_⟩
   cases e
   obtain ⟨o,n,e,c,hd,_⟩:=pl
   exact ⟨o,e,hd⟩
  ·refine ⟨⟨o,I.kIn p o hk,hc⟩,λa e =>?_⟩
   cases e
   exact ⟨o,I.kIn _ o hk,hd⟩
  ·have z:∃o,s.heap.get? p=some o/\o.ExactDict:=by
    rcases hk with ⟨kvs,hk⟩ | ⟨kvs,hk⟩
    ·obtain ⟨_,_,_,_,o,_,_,e,ex,_⟩:=I.hok p _ hk
     exact ⟨o,e,ex⟩
    ·obtain ⟨_,_,_,_,o,_,_,e,ex,_⟩:=I.hok p _ hk
     exact ⟨o,e,ex⟩
   obtain ⟨o,e,ex⟩:=z
   refine ⟨⟨o,e,ex.1⟩,λa e2 =>?_⟩
   cases e2
   exact ⟨o,e,ex.2.1⟩
  ·obtain ⟨o,_,_,_,e,ex,_⟩:=I.hok p _ hk
   refine ⟨⟨o,e,ex.1⟩,λa e2 =>?_⟩
   cases e2
   exact ⟨o,e,ex.2.1⟩
 | _=>exact False.elim ty
def tBM0 (K:CM)(T:String)(r:V->List V->Hp->VK->Prop)(to:TE):TE:=λσ H Q=>to σ H λx H1=>tyV K T x H1/\r x [] H1 Q
def tBM (K:CM)(T:String)(r:V->List V->Hp->VK->Prop)(to:TE)(t:TA):TE:=λσ H Q=>to σ H λx H1=>tyV K T x H1/\t σ H1 λxs H2=>r x xs H2 Q
variable  {o e:Expr}{es:List Expr}{to:TE}{t:TA}{name:Str}{apos cpos:Pos}{T id:String}{r:V->List V->Hp->VK->Prop}
theorem wR (pa:PlainAttrs T)(slot:Slot T name id)(hty:typeOf (.builtin id)=pure (.type "method_descriptor"))(hm:MtR X id r)(ho:PE X o to)
  (hbase:attributeBase o name X.env (eval o X.env)=eval o X.env:=by rfl) (hline:(apos.endLine == cpos.line)=true:=by rfl):PE X (.Call (.Attribute o name apos) [] [] cpos) (tBM0 X.K T r to):=by
 intro pins s σ H Q I h
 refine wpAny_Call_method0_late hbase hline (thn (ho pins s σ H _ I h) λv s1 ⟨x,H1,I1,r1,ty,q1⟩ =>?_)
 obtain ⟨h1,h2⟩:=wQ I1 r1 ty
 exact ⟨T,id,pa,slot,hty,h1,h2,HL rfl (PySem.evalArgs_none (hm pins s1 σ H1 x [] v [] Q I1 r1 .nil q1))⟩
theorem cU (pa:PlainAttrs T)(slot:Slot T name id)(hty:typeOf (.builtin id)=pure (.type "method_descriptor"))(hm:MtR X id r)(ho:PE X o to)(ha:PA X (e :: es) t)
  (hbase:attributeBase o name X.env (eval o X.env)=eval o X.env:=by rfl)
  (hfew:((HA cpos (D6 (e :: es) X.env)).all (λx => !x.1) && (backToKw cpos (keywordEach [] X.env)).all (λx=>x.1.isSome)
   && decide ((e :: es).length+([]:List Keyword).length+(if ([]:List Keyword).isEmpty then 0 else 1)<30))=true:=by rfl)
  (hline:(apos.endLine == cpos.line)=true:=by rfl) (hs:D6 (e :: es) X.env=(false,eval e X.env) :: D6 es X.env:=by rfl) (hplain:(HA cpos (D6 es X.env)).any (·.1)=false:=by rfl) :
  PE X (.Call (.Attribute o name apos) (e :: es) [] cpos) (tBM X.K T r to t):=by
 intro pins s σ H Q I h
 refine JE hbase hfew hline rfl (thn (ho pins s σ H _ I h) λv s1 ⟨x,H1,I1,r1,ty,q1⟩ =>?_)
 obtain ⟨h1,h2⟩:=wQ I1 r1 ty
 refine ⟨T,id,pa,slot,hty,h1,h2,?_⟩
 have hA:=ha cpos pins s1 σ H1 _ I1 q1
 rw[hs] at hA ⊢
 refine HL (by show (false || (HA cpos (D6 es X.env)).any (·.1))=false;rw[hplain] <;> rfl) (J1 ?_)
 exact thn hA λus s2 ⟨vs,H2,I2,r2,q2⟩=>hm pins s2 σ H2 x vs v us Q I2 r1 r2 q2
end
open PySem PySem.Spec PyProof.Rows
def MtM (X:Cx)(id:String)(r:V->List V->Hp->VK->Prop):Prop :=
 ∀(pins:List (Addr×Obj)) (s:CN) (σ:St) (H:Hp) (x:V) (xs:List V) (v:CJ) (us:List CJ) (Q:VK),Inv X pins σ H s->RelV x v->Vals xs us->r x xs H Q →
  Dh (DA X.prog X.w) X.A (call (.builtin id) (v :: us)) (EP X pins σ Q) X.xe s
theorem Vals.one:∀{x:V} {us:List CJ},Vals [x] us->∃u,us=[u]/\RelV x u
 | _,_,.cons r .nil=>⟨_,rfl,r⟩
theorem Vals.zero:∀{us:List CJ},Vals [] us->us=[]
 | _,.nil=>rfl
theorem Vals.dropLast {xs:List V}{us:List CJ}(h:Vals xs us):Vals xs.dropLast us.dropLast:=by
 induction h with
 | nil=>exact .nil
 | cons r t ih =>
  cases t with
  | nil=>exact .nil
  | cons q t'=>exact .cons r ih
theorem Vals.eraseIdx:∀{xs:List V} {us:List CJ} (i:Nat),Vals xs us->Vals (xs.eraseIdx i) (us.eraseIdx i)
 | _,_,_,.nil =>.nil
 | _,_,0,.cons _ t=>t
 | _,_,i+1,.cons r t =>.cons r (Vals.eraseIdx i t)
theorem Vals.rep {xs:List V}{us:List CJ}(h:Vals xs us):∀k:Nat,Vals (DV k xs).flatten (DV k us).flatten
 | 0 =>.nil
 | k+1=>by
  rw[Fw,Fw,Fx,Fx]
  exact Vals.append h (Vals.rep h k)
theorem sj {α:Type}(l:List α):l.eraseIdx (l.length-1)=l.dropLast:=by
 induction l with
 | nil=>rfl
 | cons a r ih =>
  cases r with
  | nil=>rfl
  | cons b r =>
   have e:(a :: b :: r).length-1=((b :: r).length-1)+1:=by
    have h1:(a :: b :: r).length=r.length+2:=rfl
    have h2:(b :: r).length=r.length+1:=rfl
    lia
   rw[e,HF,ih]
   all_goals rfl
theorem nB {α:Type}:∀(l:List α) (i:Nat),(l.eraseIdx i).length<=l.length
 | [],_=>CO _
 | _ :: _,0=>Iu _
 | _ :: r,i+1=>Js (nB r i)
theorem foldl_rep (its:List CJ):∀(k:Nat) (acc:List CJ),
  List.foldl (λx1 x2=>x1++x2) acc.toArray (DV k its.toArray)=(acc++(DV k its).flatten).toArray
 | 0,acc=>by simp
 | k+1,acc=>by
  have e:acc.toArray++its.toArray=(acc++its).toArray:=by simp
  have e2:(acc++its)++(DV k its).flatten=acc++(DV (k+1) its).flatten:=by
   rw[Fw,Fx,DD]
  rw[<- e2, <- foldl_rep its k (acc++its), <- e,Fw,JH]
section
variable  {X:Cx}{pins:List (Addr×Obj)}{σ:St}{H:Hp}{s:CN}{l b:Addr}{xs ys zs:List V}
theorem Inv.yY {its its':List CJ}{n:Nat}{f:Array CJ->Array CJ}{t':Nat}(I:Inv X pins σ H s)(hH:H l=some (.lst xs))
  (e:s.heap.get? l=some { cls :=.type "list",data :=.seq its.toArray n }) (hf:f its.toArray=its'.toArray) (hv:Vals ys its') (hz:ys.length<=C6) :
  Inv X pins σ (upd H l (.lst ys)) { s with heap:=s.heap.update l (EL f),toks:=t' }:=by
 have q:=PySem.IsL.update e f
 rw[hf] at q
 refine I.write (x:=l) (e:=l) (by rw[hH];exact trivial) (.inl rfl) (λb' u hb hu=>(Dl s.heap (EL f) (D8 hb)).trans hu) ⟨_,q⟩ ?_
 exact ⟨hz,its',_,hv,q⟩
theorem Inv.Ca {its:List CJ}{t':Nat}(I:Inv X pins σ H s)(hv:Vals ys its)(hz:ys.length<=C6) :
  Inv X pins σ (upd H s.heap.objs.size (.lst ys)) { s with heap:=s.heap.push { cls :=.type "list",data :=.seq its.toArray },toks:=t' } :=
 I.laid (λ_ _ q=>CH _ q) (CO _) ⟨hz,its,0,hv,CZ _ rfl⟩
theorem Inv.fresh (I:Inv X pins σ H s):H s.heap.objs.size=none:=I.hok.fresh (CO _)
theorem Inv.vj (I:Inv X pins σ H s)(hH:H l=some (.lst xs)):xs.length<=C6/\∃(its:List CJ) (n:Nat),Vals xs its/\xs.length=its.length/\s.heap.get? l=some { cls :=.type "list",data :=.seq its.toArray n }:=by
 obtain ⟨z,its,n,r,e⟩:=I.hok l _ hH
 exact ⟨z,its,n,r,r.length,e⟩
theorem kU {n:Nat}(h:n<=C6):Builtin.List.listTooLong n=false:=by
 unfold Builtin.List.listTooLong
 exact decide_eq_false (by lia)
end
section
variable  {X:Cx}
def yZ:V->List V->Hp->VK->Prop:=λx vs H Q=>∃l xs y,x = .ref l/\vs=[y]/\H l=some (.lst xs)/\xs.length<C6/\Q .non (upd H l (.lst (xs++[y])))
theorem bD:MtM X "list.append" yZ:=by
 intro pins s σ H x vs v us Q I rx rv h
 obtain ⟨l,xs,y,rfl,rfl,hH,hz,q⟩:=h
 cases rx
 obtain ⟨u,rfl,ru⟩:=rv.one
 obtain ⟨z,its,n,r,hl,e⟩:=I.vj hH
 refine Hz F.slot_list_append ⟨_,e,rfl⟩ F.entry_list_append (F.args_list_append_2 _ _) (PySem.list_append l its.toArray n u (by rw[CS];lia)) ⟨e,?_⟩
 refine ⟨.non,_,I.yY (its':=its++[u]) hH e (by simp) (r.append (.cons ru .nil)) ?_,rfl,q⟩
 rw[CL,D2]
 lia
def y6:V->List V->Hp->VK->Prop:=λx vs H Q=>∃l b xs zs,x = .ref l/\vs=[.ref b]/\H l=some (.lst xs)/\H b=some (.lst zs)/\xs.length+zs.length<=C6/\Q .non (upd H l (.lst (xs++zs)))
theorem jA:MtM X "list.extend" y6:=by
 intro pins s σ H x vs v us Q I rx rv h
 obtain ⟨l,b,xs,zs,rfl,rfl,hH,hB,hz,q⟩:=h
 cases rx
 obtain ⟨u,rfl,ru⟩:=rv.one
 cases ru
 obtain ⟨z,its,n,r,hl,e⟩:=I.vj hH
 obtain ⟨z2,its2,n2,r2,hl2,e2⟩:=I.vj hB
 have hsz:its.toArray.size+its2.toArray.size<=C6:=by rw[CS,CS];lia
 have hlong:¬ (!its.toArray.isEmpty && Builtin.List.listTooLong (its.toArray.size+its2.toArray.size))=true:=by
  rw[kU hsz,IW]
  exact C8
 refine Hz F.slot_list_extend ⟨_,e,rfl⟩ F.entry_list_extend (F.args_list_extend_2 _ _)
  (AutoSeq1.list_extend_list_list_0 l its.toArray n b its2.toArray n2 hlong (by rw[CS];lia) (by lia)) ⟨e,e2,?_⟩
 refine ⟨.non,_,I.yY (its':=its++its2) hH e (by simp) (r.append r2) ?_,rfl,q⟩
 rw[CL]
 lia
def rPop:V->List V->Hp->VK->Prop:=λx vs H Q=>∃l xs y,x = .ref l/\vs=[]/\H l=some (.lst xs)/\xs[xs.length-1]? = some y/\Q y (upd H l (.lst xs.dropLast))
theorem wU:MtM X "list.pop" rPop:=by
 intro pins s σ H x vs v us Q I rx rv h
 obtain ⟨l,xs,y,rfl,rfl,hH,hy,q⟩:=h
 cases rx
 have hus:=rv.zero
 subst hus
 obtain ⟨z,its,n,r,hl,e⟩:=I.vj hH
 obtain ⟨u,hu,ru⟩:=r.get hy
 have hy':its.toArray[its.toArray.size-1]? = some u:=by
  show its.toArray[its.length-1]? = some u
  rw[<- C3, <- hl]
  exact hu
 refine Hz Lr ⟨_,e,rfl⟩ Lf (F.args_list_pop_1 _) (MeetsSeq.list_pop_last l its.toArray n u hy' (by rw[CS];lia)) ⟨e,?_⟩
 refine ⟨y,_,I.yY (its':=its.dropLast) hH e ?_ r.dropLast ?_,ru,q⟩
 ·show its.toArray.eraseIdxIfInBounds (its.toArray.size-1)=its.dropLast.toArray
  rw[CS,HN,sj]
 ·rw[List.length_dropLast]
  lia
def A4:V->List V->Hp->VK->Prop:=λx vs H Q=>∃l xs i k y,x = .ref l/\vs=[.int i]/\H l=some (.lst xs) /\ -(2 ^ 63)<=i/\i<2 ^ 63/\seqIndex? i xs.length=some k/\xs[k]? = some y/\Q y (upd H l (.lst (xs.eraseIdx k)))
theorem ql:MtM X "list.pop" A4:=by
 intro pins s σ H x vs v us Q I rx rv h
 obtain ⟨l,xs,i,k,y,rfl,rfl,hH,h1,h2,hk,hy,q⟩:=h
 cases rx
 obtain ⟨u,rfl,ru⟩:=rv.one
 obtain ⟨t,rfl⟩:=ru
 obtain ⟨z,its,n,r,hl,e⟩:=I.vj hH
 obtain ⟨w,hw,rw'⟩:=r.get hy
 refine Hz Lr ⟨_,e,rfl⟩ Lf (F.args_list_pop_2 _ _)
  (MeetsSeq.list_pop_at l its.toArray n i t k w (fitsIndex_both h1 h2) (by rw[CS, <- hl];exact hk) (by rw[<- C3];exact hw) (by rw[CS];lia)) ⟨e,?_⟩
 refine ⟨y,_,I.yY (its':=its.eraseIdx k) hH e ?_ (r.eraseIdx k) ?_,rw',q⟩
 ·show its.toArray.eraseIdxIfInBounds k=(its.eraseIdx k).toArray
  rw[HN]
 ·have:=nB xs k
  lia
def rRep:R2:=λx y H Q=>∃l k xs,x = .ref l/\y = .int k/\H l=some (.lst xs) /\ -(2 ^ 63)<=k/\k<2 ^ 63/\xs.length*k.toNat<=C6 ∧
 ∀p,H p=none->Q (.ref p) (upd H p (.lst (DV k.toNat xs).flatten))
theorem len_rep {α:Type}(xs:List α)(k:Nat):(DV k xs).flatten.length=k*xs.length:=by
 induction k with
 | zero=>simp
 | succ k ih=>rw[Fw,Fx,CL,ih,Nat.succ_mul,Nat.add_comm]
theorem wV:OpR X (binaryOp .Mult) rRep:=by
 intro pins s σ H x y v u Q I rx ry h
 obtain ⟨l,k,xs,rfl,rfl,hH,h1,h2,hz,q⟩:=h
 cases rx
 obtain ⟨t,rfl⟩:=ry
 obtain ⟨z,its,n,r,hl,e⟩:=I.vj hH
 have hlen:its.toArray.size*k.toNat<=C6:=by rw[CS, <- hl];exact hz
 have hcap:¬ its.toArray.size*k.toNat>(2 ^ 63-1)/8:=by
  have:(C6:Nat)<=(2 ^ 63-1)/8:=by decide
  lia
 have hfit:¬ (!Builtin.List.listFitsIndex k)=true:=by
  rw[fitsIndex_both h1 h2]
  exact C8
 have hlong:¬ Builtin.List.listTooLong (its.toArray.size*k.toNat)=true:=by
  rw[kU hlen]
  exact C8
 have hnew:List.foldl (λx1 x2=>x1++x2) #[] (DV (if its.toArray.isEmpty=true then 0 else k.toNat) its.toArray)=(DV k.toNat its).flatten.toArray:=by
  have f0:∀m:Nat,List.foldl (λx1 x2=>x1++x2) #[] (DV m its.toArray)=(DV m its).flatten.toArray:=λm=>by
   have:=foldl_rep its m []
   rw[HG] at this
   exact this
  rw[f0]
  cases its with
  | nil=>simp
  | cons a r'=>rw[if_neg (by simp)]
 refine wpAny_binaryOp_repeat_ref (T := "list") (U := "int") (by decide) ⟨_,e,rfl⟩ (λs'=>J0 s' k t) noFill_list_mul F.fills_int_mul Ls repeat_list F.slot_int_index.lookup
  (Hz Ls (J0 s k t) F.entry_int_rmul (F.args_int_rmul_2 _ _) (int___rmul___int_list k t l its.toArray n)
   ⟨e,rfl,⟨_,e,rfl⟩,Hz F.slot_list_mul ⟨_,e,rfl⟩ F.entry_list_mul (F.args_list_mul_2 _ _) (AutoListH.list___mul___list_int_3 l its.toArray n k t hfit hcap hlong) ⟨e,?_⟩⟩)
 rw[hnew]
 exact ⟨.ref _,_,I.Ca (t':=s.toks) (r.rep k.toNat) (by rw[len_rep,Nat.mul_comm];exact hz),rfl,q _ I.fresh⟩
end
section
variable  {prog:De}{w:DN}{A:D1}{E:CJ->CN->Prop}{s:CN}
end
section
variable  {X:Cx}
end
end L2
namespace Att
open PySem PySem.W PySem.Calls PyProof.Rows
theorem j7 {P:Params}{h:Heap}:∀(ns:List Int) (vs:List CJ),WellAll P h vs (ns.map WData.int)->FF vs ns:=by
 intro ns
 induction ns with
 | nil =>
  intro vs w
  rw[HX] at w
  cases w
  exact .nil
 | cons n ns ih =>
  intro vs w
  rw[Dy] at w
  cases w with
  | cons a b =>
   cases a
   exact .cons _ _ (ih _ b)
theorem vk {l:OpenLaw}{n:Nat}(hn:l.most=some n){P:Params}{h:Heap}{args:List WData}{vals:List CJ}
  (hpre:l.row.toRowW.claim.pre args=true) (hwl:WellAll P h vals args) :
  ∃a vs ns,vals=[Dd a]/\args=[WData.list (ns.map WData.int)]/\h.get? a=some { cls :=.type "list",data :=.seq vs.toArray }/\FF vs ns/\ns.length<=n:=by
 have hsh:WShape.hasAll [] args [.list .int]=true:=(pre_splitW hpre).1
 have hc:l.pre.holds [] { args:=args }=true:=(pre_splitW hpre).2
 obtain ⟨d,r,rfl,h1,h2⟩:=hasAllW_cons hsh
 obtain rfl:=hasAllW_nil h2
 obtain ⟨xs,rfl,h3⟩:=hasW_list h1
 obtain ⟨ns,rfl⟩:=items_int h3
 have hlen:ns.length<=n:=by
  unfold OpenLaw.pre at hc
  have h4:(WTm.not (.lt (.lit (.int (n:Int))) (.len (.arg 0)))).holds [] { args:=[.list (ns.map .int)] }=true:=by
   have h4:=(holds_andW hc).1
   rw[hn] at h4
   exact h4
  have h5:=condW_of h4 (w_not (w_lt w_lit (w_len_list (w_arg rfl))))
  rw[CG] at h5
  refine Ib λq =>?_
  have q':(n:Int)<((ns.length:Nat):Int):=by omega
  first
   | (rw[decide_eq_true q'] at h5;exact absurd h5 (by decide))
   | (simp at h5;omega)
 cases hwl with
 | cons w1 w2 =>
  cases w2
  cases w1 with
  | list ho hall=>exact ⟨_,_,ns,rfl,rfl,ho,j7 ns _ hall,hlen⟩
theorem vn (l:OpenLaw)(args:List WData):l.row.toRowW.claim.post args (.bool true) args=true :=
 postW_of (r:=l.row.toRowW) (X:=(true == true))
  (show WShape.has [] (.bool true) .bool=true by first | rfl | decide | simp[WShape.has,WShape.arms,WShape.armsAll])
  (show (WTm.eq .res (.lit (.bool true))).value [] { args:=args,res:=some (.bool true),after:=args }=some (.bool (true == true)) from w_eq_bool (w_res rfl) w_lit) rfl
theorem qm {l:OpenLaw}{n:Nat}{q:De}{loose:List Str}{XP:(Str->Option CJ)->Heap->Prop}{YP:DN->Heap->Prop}{d:DefRec}
  (hn:l.most=some n) (hdf:d.params.defaults=[])
  (call:∀(w:DN) (s₀ s₁:CN) (mg mb:Str->Option CJ) (fa:Addr) (o:Obj) (pm cd doc:CJ) (a:Addr) (vs:List CJ) (ns:List Int),
   Ground q loose [] XP w s₀ mg mb s₁.heap->YP w s₁.heap →
   s₁.heap.get? fa=some o->o.data = .func (docDef d.name d.params d.body d.scope pm cd doc)->s₁.heap.CodeRec cd d.name->mg d.name=some (.ref fa) →
   s₁.heap.get? a=some { cls :=.type "list",data :=.seq vs.toArray }->FF vs ns->ns.length<=n->s₁.gens = #[] →
   He (DA l.prog w) callerA (.call (.ref fa) ⟨[.ref a],[]⟩) (λr s'=>r = .ok (.ret (.bool true))/\OldK s₁.heap s'.heap/\s'.os=s₁.os/\AllBare s'.gens) s₁) :
  WalkO q loose XP YP l.row.toRowW d [] (λf vs=>PySem.call f vs):=by
 intro w s₀ s₁ mg mb G Y fa o pm cd doc dV kV ho hd hcd hD hmg hg args vals as hpre hlay hrd hwl hlo
 obtain rfl:dV = .none:=Dflts.none hD hdf
 obtain rfl:kV = .none:=Dflts.noKw hD
 obtain ⟨a,vs,ns,rfl,rfl,hobj,hints,hlen⟩:=vk hn hpre hwl
 refine enter_call (Hy (call w s₀ s₁ mg mb fa o pm cd doc a vs ns G Y ho (fd_plain hd) hcd hmg hobj hints hlen hg) λr s' hq =>?_)
 obtain ⟨rfl,h2,h3,h4⟩:=hq
 exact ⟨.inl ⟨.bool true,.bool true,[],rfl,λ_=>rfl,.bool true,vn l _,λ_=>⟨List.Pairwise.nil,λ_ hm=>(nomatch hm)⟩⟩,h2,h3,h4⟩
section
variable  {prog:De}{w:DN}{A:D1}{E:CJ->CN->Prop}{s:CN}{K:Frag}
def ledger (h:Heap)(L d:Addr):List (Addr×Obj):=(Ei h.objs.size).filterMap λa=>if a=L\/a=d then none else (h.get? a).map λo=>(a,o)
end
end Att
namespace L2
open PySem PySem.Spec PyProof.Rows
theorem jB:∀{vs:List CJ} {ns:List Int},FF vs ns->Vals (ns.map V.int) vs
 | _,_,.nil =>.nil
 | _,_,.cons n t h =>.cons ⟨t,rfl⟩ (jB h)
def A5 (H:Hp):Prop:=∀b,H b=none\/∃o xs,H b=some (.frz o (.lst xs))
theorem wW {P:De}{w:DN}{K:CM}{mg mb:Str->Option CJ}{CX:CXT}{k:Nat}{fa a:Addr}{fd:Eh}{x:Str}{sp:Sp}{s₁:CN}{vs:List CJ}{ns:List Int}
  (KX:K.In s₁.heap) (hns:s₁.heap.Ns Ea mg) (hb:s₁.heap.Ns builtinsNs mb) (hbb:∀x:Str,x ≠ "__name__" -> mb x=Ec x) (hlim:s₁.heap.NoLimit) (hg:s₁.gens = #[])
  (ha:s₁.heap.get? a=some { cls :=.type "list",data :=.seq vs.toArray }) (hi:FF vs ns) (hl:ns.length<=C6) (hr:dF k callerA)
  (F:∀base:Heap,K.In base->base.Ns Ea mg->bS P w K mg base CX k fa fd [x] sp) (hbind:∀(s:CN) (u:CJ),BindsTo s fd ⟨[u],[]⟩ [(x,u)])
  (hsp:∀H:Hp,A5 H->SqL K H a (ns.map V.int)->sp [.ref a] H (λv _=>v = .bl true) λ_ _ _=>False)
  (hCX:∀H e s',CX [] H s₁ (λ_ _ _=>False) e s'->False) :
  He (DA P w) callerA (.call (.ref fa) ⟨[.ref a],[]⟩) (λr s'=>r = .ok (.ret (.bool true))/\OldK s₁.heap s'.heap/\s'.os=s₁.os/\AllBare s'.gens) s₁:=by
 have rv:=jB hi
 have lenV:=hi.length
 have core:∀H:Hp,A5 H->SqL K H a (ns.map V.int)->HOk P w H s₁.heap->(∀b,H b≠none->b=a)->(H a≠none->K.lookup a=none) →
   He (DA P w) callerA (.call (.ref fa) ⟨[.ref a],[]⟩) (λr s'=>r = .ok (.ret (.bool true))/\OldK s₁.heap s'.heap/\s'.os=s₁.os/\AllBare s'.gens) s₁:=by
  intro H hO hS hok hA hK
  have base_of:∀{b:Addr} {o:Obj},s₁.heap.get? b=some o->H b=none->(oK s₁.heap H).get? b=some o:=λe n=>wz e n
  have noA:∀{b:Addr} {o:Obj} {es:Array DictEntry} {ep:Nat},s₁.heap.get? b=some o->o.data = .dict es ep->H b=none:=λ{b o es ep} e d=>by
   cases q:H b with
   | none=>rfl
   | some u =>
    have e':b=a:=hA b (by rw[q];simp)
    subst e'
    rw[ha] at e;cases e
    have d':Data.seq vs.toArray _=Data.dict es ep:=d
    cases d'
  have nsK:∀{b:Addr} {m:Str->Option CJ},s₁.heap.Ns b m->(oK s₁.heap H).Ns b m:=λ{b m} ⟨o,es,ep,e,d,r⟩=>⟨o,es,ep,base_of e (noA e d),d,r⟩
  have hKb:K.In (oK s₁.heap H):=λb o e=>base_of (KX b o e) (by
   cases q:H b with
   | none=>rfl
   | some u =>
    have e':b=a:=hA b (by rw[q];simp)
    subst e'
    rw[hK (by rw[q];simp)] at e;cases e)
  have hM:Mod K mg (oK s₁.heap H):=⟨hKb,nsK hns,⟨mb,nsK hb,hbb⟩,let ⟨mc,h1,h2⟩:=hlim;⟨mc,nsK h1,h2⟩⟩
  have e0:yS P w K mg (oK s₁.heap H) callerA [] s₁ H:=⟨rfl,hM,λb o e=>yL e,Nat.le_of_eq (vd _ _),trivial,λb hb=>absurd (show b∈([]:List Addr) from hb) (by simp),hok,.of_eq hg⟩
  refine Hy ((F _ hKb (nsK hns)).run callerA [] s₁ H ⟨[.ref a],[]⟩ [.ref a] [.ref a] _ _ hr e0 (hbind s₁ (.ref a)) (.cons rfl .nil) (hsp H hO hS)) λr s' h =>?_
  cases r with
  | error e=>exact (hCX H e s' h).elim
  | ok fl =>
   cases fl with
   | next=>exact False.elim h
   | brk=>exact False.elim h
   | cont=>exact False.elim h
   | ret u =>
    obtain ⟨v,H',os,bare,un,hok',r',q⟩:=h
    have q':v = .bl true:=q
    subst q'
    obtain rfl:u=Value.bool true:=r'
    refine ⟨rfl,OldK.of_keep λb o e =>?_,os,bare⟩
    cases q:H b with
    | none=>exact un.keep b o e q (by intro z;exact absurd (show b∈([]:List Addr) from z) (by simp)) (by simp)
    | some u =>
     rcases hO b with z | ⟨ob,xs,z⟩
     ·rw[q] at z;cases z
     ·have z2:=un.frzs b ob _ z
      obtain ⟨e1,_⟩:=hok b _ z
      obtain ⟨e2,_⟩:=hok' b _ z2
      rw[e] at e1;cases e1
      exact e2
 cases hk:K.lookup a with
 | some o =>
  have e:=KX a o hk
  rw[ha] at e
  cases e
  refine core (λ_=>none) (λ_ =>.inl rfl) (.inr ⟨_,vs.toArray,_,hk,rfl,rfl,rfl,by rw[CS,lenV];exact hl,by simpa using rv⟩) (λb u z=>by have z':(none:Option HO)=some u:=z;cases z') (λb z=>absurd rfl z) λz=>absurd rfl z
 | none =>
  refine core (λb=>if b=a then some (.frz { cls :=.type "list",data :=.seq vs.toArray } (.lst (ns.map V.int))) else none) (λb =>?_) (.inl (.inr ⟨{ cls :=.type "list",data :=.seq vs.toArray },if_pos rfl⟩)) (λb u z =>?_) (λb z =>?_) λ_=>hk
  ·by_cases hb:b=a
   ·exact .inr ⟨_,_,if_pos hb⟩
   ·exact .inl (if_neg hb)
  ·by_cases hb:b=a
   ·have z':=(if_pos hb).symm.trans z
    cases z'
    subst hb
    exact ⟨ha,by rw[CG];exact hl,vs,_,rv,ha⟩
   ·have z':=(if_neg hb).symm.trans z
    cases z'
  ·by_cases hb:b=a
   ·exact hb
   ·exact absurd (if_neg hb) z
open PySem PySem.Spec PyProof.Rows
theorem y7 {l:PySem.W.OpenLaw}{n k:Nat}{q:De}{loose:List Str}{XP:(Str->Option CJ)->Heap->Prop}{YP:DN->Heap->Prop}{d:DefRec}{K:Params->CM}{CX:DN->CXT}{sp:DN->Sp}{x:Str}
  (hn:l.most=some n) (hn2:n<=C6) (hdf:d.params.defaults=[]) (hr:dF k callerA)
  (hY:∀(w:DN) (h:Heap),YP w h->(K w.params).In h)
  (F:∀(w:DN) (mg:Str->Option CJ) (fa:Addr) (h:Heap),(K w.params).In h->h.Ns Ea mg->mg d.name=some (.ref fa) →
   ∃fd:Eh,(∀(s:CN) (u:CJ),BindsTo s fd ⟨[u],[]⟩ [(x,u)]) ∧
    ∀base:Heap,(K w.params).In base->base.Ns Ea mg->bS l.prog w (K w.params) mg base (CX w) k fa fd [x] (sp w))
  (hsp:∀(w:DN) (H:Hp) (a:Addr) (ns:List Int),ns.length<=n->A5 H->SqL (K w.params) H a (ns.map V.int)->sp w [.ref a] H (λv _=>v = .bl true) λ_ _ _=>False)
  (hCX:∀(w:DN) (H:Hp) (s:CN) (e:CJ) (s':CN),CX w [] H s (λ_ _ _=>False) e s'->False) :
  PySem.W.WalkO q loose XP YP l.row.toRowW d [] (λf vs=>PySem.call f vs):=by
 refine Att.qm hn hdf λw s₀ s₁ mg mb fa o pm cd doc a vs ns G Y ho hd hcd hmg hobj hints hlen hg =>?_
 have KX:=hY w _ Y
 obtain ⟨fd,hb,hF⟩:=F w mg fa _ KX G.T.g hmg
 exact wW KX G.T.g G.T.b G.T.builtins G.T.nolimit hg hobj hints (DT hlen hn2) hr hF hb (λH hO hS=>hsp w H a ns hlen hO hS) λH e s'=>hCX w H s₁ e s'
open PySem PySem.Spec PyProof.Rows
def eI (s:Stmt):Arguments:=match s with
 | .FunctionDef _ a _ _ _ _ _ _ _ _=>a
 | _=>{ posonlyargs:=[],args:=[],vararg:=none,kwonlyargs:=[],kw_defaults:=[],kwarg:=none,defaults:=[] }
def cy (s:Stmt):List Stmt:=match s with
 | .FunctionDef _ _ b _ _ _ _ _ _ _=>b
 | _=>[]
def aF (s:Stmt):Scope:=match s with
 | .FunctionDef _ _ _ _ _ _ sc _ _ _=>sc
 | _=>{ kind :=.function,names:=[],isGenerator:=false,isCoroutine:=false }
abbrev CX0:CXT:=λ_ _ _ _ _ _=>False
abbrev E0:XK:=λ_ _ _=>False
theorem Cb {X:Cx}:Passes CX0 X E0:=λ_ _ _ _ _ _ _ h=>h.elim
structure Fun (K:CM)(x qual:Str)(st:Stmt)(f:Addr)(fd:Eh):Prop where
 ex:∃(oc:CJ) (od:Option Addr) (kV doc pm:CJ) (an:Option Addr) (cdv ct:CJ) (osl:Array (Option CJ)),
  fd=PySem.W.fnOf x qual (eI st) (cy st) (aF st) .none kV doc pm an cdv ct/\K.lookup f=some ⟨oc,od,.func fd,osl⟩/\PySem.W.codeIn K cdv qual=true
 kp:PySem.W.keepIn K (.ref f)=true
section
variable  {P:De}{w:DN}{K:CM}{mg:Str->Option CJ}{base:Heap}
theorem Fun.ok {x qual:Str}{st:Stmt}{f:Addr}{fd:Eh}{N ps:List Str}{k:Nat}{sp:Sp}(F:Fun K x qual st f fd)(S:aO N ps (aF st))(len:∀vs H Q E,sp vs H Q E->vs.length=ps.length)
  (hbody:∀(cdv:CJ) (A:D1) (outer:List Env) (s:CN) (H:Hp) (vs:List V) (Q:VK) (E:XK),dF k (A.deeper (envOfC qual (aF st) s.heap.objs.size f cdv))->sp vs H Q E →
   ∃t,PSs (oO CX0 P w K mg base N qual (aF st) f cdv A outer s H E).nox (cy st) t/\t { nx:=λ_ H'=>Q .non H',rt:=Q } (start N vs) H):bS P w K mg base CX0 (k+1) f fd ps sp:=by
 obtain ⟨oc,od,kV,doc,pm,an,cdv,ct,osl,rfl,lk,hcd⟩:=F.ex
 refine B4 lk hcd S len λA outer s H vs Q E hr hsp =>?_
 obtain ⟨t,h,q⟩:=hbody cdv A outer s H vs Q E hr hsp
 exact ⟨t,h.nox,q⟩
theorem Fun.binds {x qual:Str}{st:Stmt}{f:Addr}{fd:Eh}{ps:List Str}(F:Fun K x qual st f fd)
  (h:∀(kV doc pm:CJ) (an:Option Addr) (cdv ct:CJ) (us:List CJ),us.length=ps.length->bindArgs (PySem.W.fnOf x qual (eI st) (cy st) (aF st) .none kV doc pm an cdv ct) ⟨us,[]⟩=pure (ps.zip us)):Binds K fd ps []:=by
 obtain ⟨oc,od,kV,doc,pm,an,cdv,ct,osl,rfl,lk,hcd⟩:=F.ex
 exact .all (h kV doc pm an cdv ct)
theorem wX {x qual:Str}{st:Stmt}{f:Addr}{oc:CJ}{od an:Option Addr}{osl:Array (Option CJ)}{kV doc pm cdv ct:CJ}(l:K.lookup f=some ⟨oc,od,.func (PySem.W.fnOf x qual (eI st) (cy st) (aF st) .none kV doc pm an cdv ct),osl⟩)
  (c:PySem.W.codeIn K cdv qual=true) (k:PySem.W.keepIn K (.ref f)=true):Fun K x qual st f (PySem.W.fnOf x qual (eI st) (cy st) (aF st) .none kV doc pm an cdv ct):=⟨⟨oc,od,kV,doc,pm,an,cdv,ct,osl,rfl,l,c⟩,k⟩
end
theorem qo {A:D1}{k:Nat}(hr:dF k A):A.units+1<cLine:=HH (Hm (by decide:1<=64) _) hr.units
theorem bE {n:Nat}(h:n<=1000):n<C6:=HH h (by decide)
section
variable  {X:Cx}
theorem pv (i:Nat){x:Str}{pos:Pos}(hN:X.N[i]? = some x:=by rfl)(hv:Vis X.env.scope x:=by first | exact Or.inl rfl | exact Or.inr (Or.inl rfl) | exact Or.inr (Or.inr rfl))(hd:(x == ("__debug__" : Str))=false:=by decide)
  (hcd:(x == ("__classdict__" : Str))=false:=by decide):PE X (.Name x pos) (BL i):=AJ hN hv hd hcd
end
theorem bM {A B:Prop}(h:B):if false=true then A else B:=by
 rw[if_neg C8]
 exact h
theorem bF {A B:Prop}(h:A):if true=true then A else B:=by
 rw[if_pos rfl]
 exact h
theorem iS {c A B:Prop}[Decidable c](h1:c->A)(h2:¬ c->B):if c then A else B:=by
 by_cases h:c
 ·rw[if_pos h]
  exact h1 h
 ·rw[if_neg h]
  exact h2 h
theorem kX {c A B:Prop}[Decidable c](hc:c)(h:B):if (!decide c)=true then A else B:=by
 rw[decide_eq_true hc]
 exact bM h
def aE (H H':Hp):Prop:=∀b o,H b=some o->H' b=some o
theorem aE.refl (H:Hp):aE H H:=λ_ _ h=>h
theorem aE.trans {H H1 H2:Hp}(a:aE H H1)(b:aE H1 H2):aE H H2:=λc o h=>b c o (a c o h)
theorem aE.free {H H':Hp}(e:aE H H'){l:Addr}(h:H' l=Option.none):H l=Option.none:=by
 cases q:H l with
 | none=>rfl
 | some o =>
  rw[e l o q] at h
  cases h
theorem aE.seq {K:CM}{H H':Hp}{a:Addr}{xs:List V}(e:aE H H')(h:SqL K H a xs):SqL K H' a xs:=by
 rcases h with (h | ⟨o,h⟩) | h
 ·exact .inl (.inl (e _ _ h))
 ·exact .inl (.inr ⟨o,e _ _ h⟩)
 ·exact .inr h
end L2
set_option maxHeartbeats 4000000
namespace L2
open PySem PySem.Spec PyProof.Rows
def qp (on:List (Str×NameKind))(N:List Str)(sc:Scope)(N':List Str)(ix:List (Option Nat)):Bool :=
 decide (sc.kind = .function) &&
 sc.names.all (λy=>match y.2 with
  | .local=>decide (sc.names.lookup y.1=some .local)
  | .cell=>false
  | .free=>decide (on.lookup y.1=some .cell) || decide (on.lookup y.1=some .free)
  | _=>true) &&
 decide (ix.length=N'.length) &&
 (ix.zip N').all (λp=>match p.1 with
  | none=>true
  | some j=>decide (N[j]? = some p.2) && decide (sc.names.lookup p.2=some .free))
theorem jV {ns:List (Str×NameKind)}{y:Str}{k:NameKind}(h:ns.lookup y=some k):(y,k)∈ns:=FY h
structure kY (on:List (Str×NameKind))(N:List Str)(sc:Scope)(N':List Str)(ix:List (Option Nat)):Prop where
 kind:sc.kind = .function
 locs:∀y∈sc.names,y.2 = .local->sc.names.lookup y.1=some .local
 nocell:∀y∈sc.names,y.2 ≠ .cell
 frees:∀y∈sc.names,y.2 = .free->on.lookup y.1=some .cell\/on.lookup y.1=some .free
 len:ix.length=N'.length
 slot:∀(i j:Nat) (y:Str),ix[i]? = some (some j)->N'[i]? = some y->N[j]? = some y/\sc.names.lookup y=some .free
theorem kY.of {on:List (Str×NameKind)}{N:List Str}{sc:Scope}{N':List Str}{ix:List (Option Nat)}(h:qp on N sc N' ix=true):kY on N sc N' ix:=by
 unfold qp at h
 rw[EO,EO,EO] at h
 obtain ⟨⟨⟨h1,h2⟩,h3⟩,h4⟩:=h
 rw[F7] at h2 h4
 refine ⟨of_decide_eq_true h1,λy hy e =>?_,λy hy e =>?_,λy hy e =>?_,of_decide_eq_true h3,λi j y e1 e2 =>?_⟩
 ·have q:=h2 y hy
  rw[e] at q
  exact of_decide_eq_true q
 ·have q:=h2 y hy
  rw[e] at q
  cases q
 ·have q:=h2 y hy
  rw[e] at q
  exact ((Bool.or_eq_true _ _).mp q).imp of_decide_eq_true of_decide_eq_true
 ·have q:=h4 (some j,y) (CT (i:=i) (by rw[IX];exact ⟨e1,e2⟩))
  dsimp only at q
  rw[EO] at q
  exact ⟨of_decide_eq_true q.1,of_decide_eq_true q.2⟩
theorem jW {α β:Type}(f:α -> β -> β)(b:α -> β -> Sem (ForInStep β)):∀(l:List α) (c:β),(∀x∈l,∀d,b x d=pure (.yield (f x d)))->forIn l c b=pure (l.foldl (λd x=>f x d) c)
 | [],c,_=>rfl
 | x :: l,c,h=>by
  rw[List.forIn_cons,h x Di,pure_bind]
  exact jW f b l (f x c) λy hy=>h y (Dj _ hy)
def a7 (env:Env)(l:List (Str×NameKind))(c:List (Str×Addr)):List (Str×Addr) :=
 l.foldl (λd y=>if y.2 = .free then (y.1,(env.cells.lookup y.1).getD 0) :: d else d) c
theorem sk {sc:Scope}{env:Env}(h:∀y∈sc.names,y.2 = .free->∃c,env.cells.lookup y.1=some c):closureFor sc env=pure (a7 env sc.names []):=by
 simp only[closureFor]
 unfold a7
 rw[jW (λy d=>if y.2 = .free then (y.1,(env.cells.lookup y.1).getD 0) :: d else d)]
 ·rfl
 ·rintro ⟨n,k⟩ hy d
  by_cases hk:k = .free
  ·subst hk
   obtain ⟨c,e⟩:=h _ hy rfl
   have e':env.cells.lookup n=some c:=e
   simp only[beq_self_eq_true,if_true,cellOf,e',Option.getD_some]
   rfl
  ·have hb:(k == NameKind.free)=false:=by simpa using hk
   simp only[hb,Dg,if_false,hk]
theorem dH {env:Env}{y:Str}{c:Addr}:∀(l:List (Str×NameKind)) (d:List (Str×Addr)),(∀z∈l,z.2 = .free->∃c,env.cells.lookup z.1=some c)->(a7 env l d).lookup y=some c →
  d.lookup y=some c\/env.cells.lookup y=some c
 | [],d,_,h =>.inl h
 | (n,k) :: l,d,hf,h=>by
  have h':(a7 env l (if k = .free then (n,(env.cells.lookup n).getD 0) :: d else d)).lookup y=some c:=h
  have ih:=dH l _ (λz hz=>hf z (Dj _ hz)) h'
  by_cases hk:k = .free
  ·subst hk
   rw[if_pos rfl] at ih
   rcases ih with q | q
   ·rw[Hk] at q
    cases hx:(y == n) with
    | true =>
     rw[hx] at q
     obtain ⟨c',e⟩:=hf (n,.free) Di rfl
     have e':env.cells.lookup n=some c':=e
     have q':some ((env.cells.lookup n).getD 0)=some c:=q
     rw[e'] at q'
     have en:y=n:=eq_of_beq hx
     rw[en,e']
     exact .inr q'
    | false =>
     rw[hx] at q
     exact .inl q
   ·exact .inr q
  ·rw[if_neg hk] at ih
   exact ih
theorem fJ {env:Env}{y:Str}:∀(l:List (Str×NameKind)) (d:List (Str×Addr)),((y,NameKind.free)∈l\/∃c,d.lookup y=some c)->∃c,(a7 env l d).lookup y=some c
 | [],d,h=>by
  rcases h with h | h
  ·cases h
  ·exact h
 | (n,k) :: l,d,h=>by
  show ∃c,(a7 env l (if k = .free then (n,(env.cells.lookup n).getD 0) :: d else d)).lookup y=some c
  refine fJ l _ ?_
  have old:(∃c,d.lookup y=some c)->∃c,(if k = .free then (n,(env.cells.lookup n).getD 0) :: d else d).lookup y=some c:=λ⟨c,e⟩=>by
   by_cases hk:k = .free
   ·rw[if_pos hk,Hk]
    cases hx:(y == n) with
    | true=>exact ⟨_,rfl⟩
    | false=>exact ⟨c,e⟩
   ·rw[if_neg hk];exact ⟨c,e⟩
  rcases h with h | h
  ·rcases C9.mp h with q | q
   ·cases q
    rw[if_pos rfl,Hk,beq_self_eq_true]
    exact .inr ⟨_,rfl⟩
   ·exact .inl q
  ·exact .inr (old h)
theorem kZ {c:Str->NameKind->Bool}{y:Str}:∀l:List (Str×NameKind),(l.map λz=>if c z.1 z.2=true then (z.1,NameKind.cell) else (z.1,z.2)).lookup y=(l.lookup y).map λk=>if c y k=true then NameKind.cell else k
 | []=>rfl
 | (n,k) :: l=>by
  have ih:=kZ (c:=c) (y:=y) l
  rw[Dy]
  have e:(if c n k=true then (n,NameKind.cell) else (n,k))=(n,if c n k=true then NameKind.cell else k):=by split <;> rfl
  show List.lookup y ((if c n k=true then (n,NameKind.cell) else (n,k)) :: _)=_
  rw[e,Hk,Hk]
  cases hx:(y == n) with
  | true =>
   have en:y=n:=eq_of_beq hx
   subst en
   rfl
  | false=>exact ih
def blk (X:Cx)(sc:Scope)(cl:List (Str×Addr))(C:Addr)(N':List Str)(s:CN)(H:Hp)(fp:List Addr):Cx :=
 { X with N:=N',s₀:=s,H₀:=H,env:=compEnvC sc cl C X.env,outer:=X.stack,ex:=fp,fn:=λ_=>false,pn:=[],xe:=λ_ _=>False }
def PF (X:Cx)(ifs:List Expr)(t:TT):Prop :=
  ∀(pins:List (Addr×Obj)) (s:CN) (σ:St) (H:Hp) (Q:Bool->Hp->Prop),Inv X pins σ H s->t σ H Q →
    Dh (DA X.prog X.w) X.A (forIn ifs true λc r=>if r=true then do let ok ← isTrue c X.env (eval c X.env);pure (ForInStep.yield ok) else pure (ForInStep.yield r)) (TP X pins σ Q) X.xe s
theorem cG {X:Cx}:PF X [] (λ_ H Q=>Q true H):=λ_ _ _ H _ I h=>wpAny_tests_nil ⟨H,I,h⟩
theorem jC {X:Cx}{c:Expr}{t:TT}(h:PT X c t):PF X [c] t:=λpins s σ H Q I q=>wpAny_tests_one (h pins s σ H Q I q)
def inner (ix:List (Option Nat))(σ:St):St:=ix.map λo=>match o with | none=>none | some j=>(σ[j]?).join
def k7 (J:It)(g:TG)(tc:TT)(te:TE)(τ:St)(Q:VK)(H1:Hp):Prop:=∃W:Nat->Nat->St->List V->Hp->Prop,(∃m,W 0 m τ [] H1)/\∀i m τ ys H,W i m τ ys H →
 (J.stop i H/\ys.length<=C6/\∀l,H l=none->Q (.ref l) (upd H l (.lst ys))) ∨
 (J.go i H/\∀x H',J.yld i H x H'->g x τ H' λτ2 H2=>tc τ2 H2 λb H3=>if b=true then te τ2 H3 λy H4=>ys.length<C6/\∃m',m'<m/\W (i+1) m' τ2 (ys++[y]) H4 else ∃m',m'<m/\W (i+1) m' τ2 ys H3)
def wY (ix:List (Option Nat))(wi:TI)(g:TG)(tc:TT)(te:TE):TE:=λσ H Q=>wi σ H λJ H1=>k7 J g tc te (inner ix σ) Q H1
section
variable  {X:Cx}{sc:Scope}{N':List Str}{ix:List (Option Nat)}{pins:List (Addr×Obj)}{σ:St}{H:Hp}{s:CN}
theorem A6 (I:Inv X pins σ H s)(K:kY X.env.scope.names X.N sc N' ix){C:Addr}{fp:List Addr}(hC:s.heap.objs.size<=C)(f:∀b∈fp,j6 X pins H b)(fl:∀b∈fp,b<s.heap.objs.size) :
  (blk X sc (a7 X.env sc.names []) C N' s H fp).Ok:=by
 have hcl:∀y∈sc.names,y.2 = .free->∃c,X.env.cells.lookup y.1=some c:=λy hy e=>I.ok.has y.1 (K.frees y hy e)
 have up:∀y c,(a7 X.env sc.names []).lookup y=some c->X.env.cells.lookup y=some c:=λy c e=>by
  rcases dH sc.names [] hcl e with q | q
  ·cases q
  ·exact q
 have nfs:∀b∈fp,b∉frs X.stack:=λb hb z=>by
  rcases C9.mp (I.oM b z) with q | q
  ·exact (f b hb).2.1 q
  ·exact (f b hb).2.2.1 q
 refine ⟨I.ok.mod,K.kind,I.ok.glob,I.ok.blt,hC,λy z c h1 h2=>I.ok.inj y z c (up _ _ h1) (up _ _ h2),λy hy =>?_,(λy c h=>nomatch h),I.ok.hd,I.ok.frames,.inl rfl,λb hb =>?_,λb o e=>I.bs b o e,DT I.ok.bsz I.sz,λb o e hb =>?_,nfs,I.stack,I.tQ⟩
 ·have hy':(relabel sc X.env).names.lookup y=some .cell\/(relabel sc X.env).names.lookup y=some .free:=hy
  have em:=kZ (c:=λn k=>k == .free && X.env.scope.kind == .function && X.env.kindOf n == some .cell) (y:=y) sc.names
  have em':(relabel sc X.env).names.lookup y=_:=em
  rw[em'] at hy'
  cases hq:sc.names.lookup y with
  | none=>rw[hq] at hy';rcases hy' with q | q <;> cases q
  | some k =>
   have km:=jV hq
   have hk:k = .free:=by
    rw[hq] at hy'
    simp only[JI,Option.some.injEq] at hy'
    by_cases hc:(k == .free && X.env.scope.kind == .function && X.env.kindOf y == some .cell)=true
    ·rw[EO,EO] at hc
     exact by simpa using hc.1.1
    ·rw[if_neg hc] at hy'
     rcases hy' with q | q
     ·exact absurd q (K.nocell _ km)
     ·exact q
   subst hk
   exact fJ sc.names [] (.inl km)
 ·exact ⟨Dc (Dm (fl b hb) hC),λy c e=>(f b hb).2.2.2.2.1 y c (up y c e)⟩
 ·rcases (f b hb).2.2.2.1 with q | q
  ·exact I.ok.noex b o e q
  ·exact absurd (Dm (C1 e) (DT I.ok.bsz q)) (D4 _)
theorem y8 (I:Inv X pins σ H s)(K:kY X.env.scope.names X.N sc N' ix){C:Addr}{fp:List Addr}(hC:s.heap.objs.size<=C)(f:∀b∈fp,j6 X pins H b)(fl:∀b∈fp,b<s.heap.objs.size)
  {h1:Heap} {t:Nat} {m:Str->Option CJ} (k:∀b o,s.heap.get? b=some o->h1.get? b=some o) (ns:h1.Ns C m) :
  Inv (blk X sc (a7 X.env sc.names []) C N' s H fp) [] (inner ix σ) H { s with heap:=h1,toks:=t }:=by
 have hcl:∀y∈sc.names,y.2 = .free->∃c,X.env.cells.lookup y.1=some c:=λy hy e=>I.ok.has y.1 (K.frees y hy e)
 have up:∀y c,(a7 X.env sc.names []).lookup y=some c->X.env.cells.lookup y=some c:=λy c e=>by
  rcases dH sc.names [] hcl e with q | q
  ·cases q
  ·exact q
 refine ⟨A6 I K hC f fl,rfl,I.bare,Un.kept k,⟨m,ns,λi y v e1 e2 e3 =>?_⟩,λy c e =>?_,I.hok.fresh hC,λy c e=>I.freeC y c (up y c e),(λp hp=>nomatch hp),I.hok.kept k,?_⟩
 ·have e2':(ix.map λo=>match o with | none=>none | some j=>(σ[j]?).join)[i]? = some (some v):=e2
  rw[CU] at e2'
  cases hi:ix[i]? with
  | none=>rw[hi] at e2';cases e2'
  | some o =>
   cases o with
   | none=>rw[hi] at e2';cases e2'
   | some j =>
    rw[hi] at e2'
    have e4:(σ[j]?).join=some v:=Dk e2'
    have e5:σ[j]? = some (some v):=by
     cases hj:σ[j]? with
     | none=>rw[hj] at e4;cases e4
     | some z=>rw[hj] at e4;rw[show z=some v from e4]
    obtain ⟨n1,n2⟩:=K.slot i j y hi e1
    have mem:=jV n2
    have kc:X.env.kindOf y=some .cell\/X.env.kindOf y=some .free:=K.frees _ mem rfl
    obtain ⟨m',_,hl⟩:=I.loc
    obtain ⟨u,r,l⟩:=hl j y v n1 e5 (.inr kc)
    refine ⟨u,r,?_⟩
    rcases l with ⟨q,_⟩ | ⟨_,c,q,z⟩
    ·rcases kc with kc | kc <;> (rw[kc] at q;cases q)
    ·obtain ⟨c',hc'⟩:=fJ (env:=X.env) (y:=y) sc.names [] (.inl mem)
     have:=up y c' hc'
     rw[q] at this
     cases this
     refine .inr ⟨?_,c,hc',z.keeps k⟩
     have em:=kZ (c:=λn k=>k == .free && X.env.scope.kind == .function && X.env.kindOf n == some .cell) (y:=y) sc.names
     have em':(relabel sc X.env).names.lookup y=_:=em
     rcases kc with kc | kc
     ·left
      show (relabel sc X.env).names.lookup y=some .cell
      rw[em',n2]
      simp only[JI,kc,I.ok.kind]
      rfl
     ·right
      show (relabel sc X.env).names.lookup y=some .free
      rw[em',n2]
      simp only[JI,kc,I.ok.kind]
      rfl
 ·obtain ⟨v,z⟩:=I.cell y c (up y c e)
  exact ⟨v,z.keeps k⟩
 ·show (ix.map _).length=N'.length
  rw[CG]
  exact K.len
end
open PySem PySem.Spec PyProof.Rows
theorem so {prog:De}{w:DN}{A:D1}{R:Result->CN->Prop}{s:CN}{elt target iter:Expr}{ifs:List Expr}{sc:Scope}{pos:Pos}{it acc:CJ}{env:Env}(J:Nat->CN->Prop)
    (turn:∀n s,J n s->Dh (DA prog w) A (pyNext it) (λr s1=>match r with
      | none=>R (.ok .next) s1
      | some v=>Dh (DA prog w) A (letOwnedTupleGo target it v) (λ_ s2=>Dh (DA prog w) A (assign target env v) (λ_ s3 =>
          Dh (DA prog w) A (forIn ifs true λc r=>if r=true then do let ok ← isTrue c env (eval c env);pure (ForInStep.yield ok) else pure (ForInStep.yield r)) (λok s4 =>
            if ok=true then Dh (DA prog w) A (eval elt env) (λx s5=>Dh (DA prog w) A (call (.builtin "list.append") [acc,x]) (λ_ s6=>∃m,m<n/\J m s6) (λ_ _=>False) s5) (λ_ _=>False) s4
            else ∃m,m<n/\J m s4) (λ_ _=>False) s3) (λ_ _=>False) s2) (λ_ _=>False) s1) (λ_ _=>False) s)
    (n:Nat) (h:J n s):He (DA prog w) A (.compLoop (.ListComp elt [⟨target,iter,ifs,0⟩] sc pos) 0 it acc env) R s:=by
  refine codeAny_loop rfl J (λk t q =>?_) n h
  show Dh _ A (Sem.onRaise (compTurn (.ListComp elt [⟨target,iter,ifs,0⟩] sc pos) 0 it acc env) (λx=>do noteFrame x env;theTreesLotGoes x)) _ _ t
  refine wpAny_noted ?_
  rw[compTurn_list]
  have no:∀{E:CJ->CN->Prop} (x:CJ) (t:CN),False->E x t:=λ_ _ z=>z.elim
  refine CD (Ip (CD (FD (turn k t q) (λr s1 h1 =>?_) no)))
  cases r with
  | none=>exact CK h1
  | some v =>
    refine CD (FD h1 (λ_ s2 h2=>CD (FD h2 (λ_ s3 h3=>CD (FD h3 (λok s4 h4 =>?_) no)) no)) no)
    cases ok with
    | false=>exact CK ⟨rfl,h4⟩
    | true=>exact CD (CD (FD h4 (λx s5 h5=>CD (FD h5 (λ_ s6 h6=>CK (CK ⟨rfl,h6⟩)) no)) no))
section
variable  {X:Cx}
def y9 (X:Cx)(pins:List (Addr×Obj))(σ:St)(Q:VK)(use:Option (CJ->Sem Unit))(Q2:CJ->CN->Prop):Prop :=
 ∀(s4:CN) (H3:Hp) (acc C:Addr) (ys:List V) (oC:Obj),Inv X (pins++[(C,oC)]) σ (upd H3 acc (.lst ys)) s4->(∃m,s4.heap.Ns C m)->X.s₀.heap.objs.size<=C->(∀x c,X.env.cells.lookup x=some c->c≠C)->(∀p∈X.pn++pins,p.1≠C)->Q (.ref acc) (upd H3 acc (.lst ys)) →
  compPost (DA X.prog X.w) X.A X.xe use Q2 (.ref acc) C (.ok .next) s4
theorem nC {elt target iter:Expr}{ifs:List Expr}{sc:Scope}{pos ps:Pos}{wi:TI}{g:TG}{tc:TT}{te:TE}{N':List Str}{ix:List (Option Nat)}{use:Option (CJ->Sem Unit)}{Q2:CJ->CN->Prop}
  {pins:List (Addr×Obj)} {s:CN} {σ:St} {H:Hp} {Q:VK}
  (hcalm:X.calm=true) (hi:PI X target iter wi) (hk:qp X.env.scope.names X.N sc N' ix=true)
  (hg:∀cl C s H fp,PG (blk X sc cl C N' s H fp) target g) (hc:∀cl C s H fp,PF (blk X sc cl C N' s H fp) ifs tc) (he:∀cl C s H fp,PE (blk X sc cl C N' s H fp) elt te)
  (hs:∀x,foldedSetIterable iter X.env x=pure x) (fin:y9 X pins σ Q use Q2) (I:Inv X pins σ H s) (h:wY ix wi g tc te σ H Q) :
  Dh (DA X.prog X.w) X.A (comprehension (.ListComp elt [⟨target,iter,ifs,0⟩] sc pos) sc X.env ps (newList []) false (eval iter X.env) use) Q2 X.xe s:=by
 have K:=kY.of hk
 have hcl:∀y∈sc.names,y.2 = .free->∃c,X.env.cells.lookup y.1=some c:=λy hy e=>I.ok.has y.1 (K.frees y hy e)
 refine wpAny_comprehension_free rfl hs (sk hcl) K.kind K.locs (thn (hi pins s σ H _ I h) λv s1 h1=>thn h1 λitv s2 h2 =>?_)
 obtain ⟨it,fp,tn,J,H2,e,I2,T,st2,f2,W,⟨m0,w0⟩,turn⟩:=h2
 subst e
 refine DM (wpAny_newFunctionEnv K.nocell (by intro y hy;simp at hy) (λh1 ns1 sb1 =>?_) K.kind)
 dsimp only at ns1 sb1 ⊢
 generalize hP:s2.heap.push { cls :=.type "list",dict:=none,data :=.seq ([]:List CJ).toArray }=G at ns1 sb1 ⊢
 have sG:G.objs.size=s2.heap.objs.size+1:=by rw[<- hP,ED]
 have fl:∀b∈fp,b<s2.heap.objs.size:=λb hb=>by
  obtain ⟨o,e,_⟩:=T.obj _ _ st2 b hb
  exact C1 e
 have hC:s2.heap.objs.size<=G.objs.size:=by rw[sG];exact Iu _
 have aC:s2.heap.objs.size≠G.objs.size:=by rw[sG];exact Dc (Et _)
 have old:∀b o,s2.heap.get? b=some o->h1.get? b=some o:=λb o e=>by
  have lt:=C1 e
  have ne:b≠G.objs.size:=Dc (Dm lt hC)
  rw[sb1.2 b ne]
  exact CH _ (hP ▸ CH _ e)
 have accO:h1.PlainList s2.heap.objs.size #[]:=⟨_,by
  rw[sb1.2 _ aC]
  exact CH _ (hP ▸ CZ _ rfl)⟩
 have IB:=y8 (t:=s2.toks+([]:List (Str×CJ)).length) I2 K hC f2 fl old ns1
 have up:∀y c,(a7 X.env sc.names []).lookup y=some c->X.env.cells.lookup y=some c:=λy c e=>by
  rcases dH sc.names [] hcl e with q | q
  ·cases q
  ·exact q
 have accNotCell:∀y c,(a7 X.env sc.names []).lookup y=some c->c≠s2.heap.objs.size:=λy c e z=>by
  obtain ⟨v,q⟩:=I2.cell y c (up y c e)
  exact absurd q.lt (by rw[z];exact D4 _)
 have accFs:s2.heap.objs.size∉frs X.stack:=λz=>by
  rcases C9.mp (I2.oM _ z) with q | q
  ·exact absurd I2.lt (by rw[<- q];exact D4 _)
  ·exact I2.AI (CO _) q
 have accFp:s2.heap.objs.size∉fp:=λz=>absurd (fl _ z) (D4 _)
 have stat:∀{H':Hp} {ob:Obj},(∀b∈fp,H' b=none)->∀b∈fp,j6 (blk X sc (a7 X.env sc.names []) G.objs.size N' s2 H2 fp) [(s2.heap.objs.size,ob)] H' b:=λ{H' ob} hn b hb=>by
  refine ⟨hn b hb,Dc (Dm (fl b hb) hC),IB.ok.exfs b hb,.inl hb,λy c e=>(f2 b hb).2.2.2.2.1 y c (up y c e),λp hp z =>?_⟩
  have ep:p=(s2.heap.objs.size,ob):=by simpa [blk] using hp
  subst ep
  exact accFp (by rw[show s2.heap.objs.size=b from z];exact hb)
 have accPin:∀{pl:List (Addr×Obj)} {σ':St} {H':Hp} {s':CN} {its:Array CJ} {n:Nat},Inv (blk X sc (a7 X.env sc.names []) G.objs.size N' s2 H2 fp) pl σ' H' s'->s'.heap.get? s2.heap.objs.size=some { cls :=.type "list",data :=.seq its n } →
   H' s2.heap.objs.size=none->Inv (blk X sc (a7 X.env sc.names []) G.objs.size N' s2 H2 fp) [(s2.heap.objs.size,{ cls :=.type "list",data :=.seq its n })] σ' H' s':=λ{pl σ' H' s' its n} J' e nn=>J'.iK λp hp=>by
  have ep:p=(s2.heap.objs.size,({ cls :=.type "list",data :=.seq its n }:Obj)):=by simpa [blk] using hp
  subst ep
  exact ⟨e,nn,aC,accFs,λv z=>nomatch z⟩
 have loop:He (DA X.prog X.w) X.A (.compLoop (.ListComp elt [⟨target,iter,ifs,0⟩] sc pos) 0 (.ref it) (.ref s2.heap.objs.size) (compEnvC sc (a7 X.env sc.names []) G.objs.size X.env))
   (compPost (DA X.prog X.w) X.A X.xe use Q2 (.ref s2.heap.objs.size) G.objs.size) { s2 with heap:=h1,toks:=s2.toks+([]:List (Str×CJ)).length }:=by
  refine so (λn s'=>∃i ys its nn σ' H',Inv (blk X sc (a7 X.env sc.names []) G.objs.size N' s2 H2 fp) [(s2.heap.objs.size,{ cls :=.type "list",data :=.seq its nn })] σ' H' s'/\Vals ys its.toList/\tn i s'.heap/\(∀b∈fp,H' b=none)/\W i n σ' ys H')
   (λn s3 h3 =>?_) m0 ?_
  ·obtain ⟨i,ys,its,nn,σ3,H3,I3,r3,st3,fr3,w3⟩:=h3
   obtain ⟨e3,a3,_,_,_⟩:=I3.pin (s2.heap.objs.size,{ cls :=.type "list",data :=.seq its nn }) (by simp[blk])
   rcases turn i n σ3 ys H3 w3 with ⟨stop,zl,q3⟩ | ⟨go,step⟩
   ·refine thn (T.done (blk X sc (a7 X.env sc.names []) G.objs.size N' s2 H2 fp) rfl rfl rfl hcalm i _ s3 σ3 H3 _ I3 (stat fr3) st3 stop) λr s4 ⟨hr,I4⟩ =>?_
    subst hr
    obtain ⟨e4,a4,_,_,_⟩:=I4.pin (s2.heap.objs.size,{ cls :=.type "list",data :=.seq its nn }) (by simp[blk])
    obtain ⟨m4,n4,_⟩:=I4.loc
    obtain ⟨oC,es4,ep4,c4,d4,r4⟩:=id n4
    have ltA:∀b o,s2.heap.get? b=some o->b≠s2.heap.objs.size:=λb o e=>Dc (C1 e)
    have B:=I4.base
    have hok:HOk X.prog X.w (upd H3 s2.heap.objs.size (.lst ys)) s4.heap:=λb o e=>by
     by_cases hb:b=s2.heap.objs.size
     ·subst hb
      rw[ag] at e
      cases e
      exact ⟨zl,its.toList,nn,r3,e4⟩
     ·rw[aD hb] at e
      refine (I4.hok b o e).stay (λc u hc q=>q) (λc q =>?_) (λc xs q =>?_)
      ·rw[aD (aB q a4)];exact q
      ·rw[aD (aB q a4)];exact q
    have I5:Inv X pins σ (upd H3 s2.heap.objs.size (.lst ys)) s4:=by
     refine I2.BK (ch:=fp) I4.os ⟨λb o e n hb hx=>B.keep b o e n hb hx,λb o e n hb hx=>B.slot b o e n hb hx,λb o e n hx =>?_,λb o e hx=>B.there b o e hx,λb xs e =>?_,λb o u e =>?_,λb ps e =>?_⟩ hok I4.bare (λb hb =>?_)
     ·rw[aD (ltA b o e)];exact B.free b o e n hx
     ·have q:=B.tups b xs e
      rw[aD (aB q a4)];exact q
     ·have q:=B.frzs b o u e
      rw[aD (aB q a4)];exact q
     ·obtain ⟨more,q⟩:=B.tbls b ps e
      exact ⟨more,by rw[aD (aB q a4)];exact q⟩
     ·obtain ⟨g0,g1,g2,g3,g4,g5⟩:=f2 b hb
      exact ⟨g3,g1,g4,g5⟩
    have cL:G.objs.size≠X.env.locals:=F8 (Dm I2.lt hC)
    have I6:Inv X (pins++[(G.objs.size,oC)]) σ (upd H3 s2.heap.objs.size (.lst ys)) s4:=I5.iK λp hp=>by
     rcases CW.mp hp with q | q
     ·exact I5.pin p (Dt _ q)
     ·have ep:p=(G.objs.size,oC):=by simpa using q
      subst ep
      exact ⟨c4,by rw[aD (D8 aC)];exact I4.free,cL,I2.AI hC,λv z=>by rw[d4] at z;cases z⟩
    refine fin s4 H3 s2.heap.objs.size G.objs.size ys oC I6 ⟨m4,n4⟩ (DT I2.sz hC) (λy c e z =>?_) (λp hp z =>?_) (q3 _ a4)
    ·obtain ⟨v,q⟩:=I2.cell y c e
     exact absurd (Dm q.lt hC) (by rw[z];exact D4 _)
    ·exact absurd (Dm (C1 (I2.pin p hp).1) hC) (by rw[z];exact D4 _)
   ·refine thn (T.item (blk X sc (a7 X.env sc.names []) G.objs.size N' s2 H2 fp) rfl rfl rfl hcalm i _ s3 σ3 H3 _ I3 (stat fr3) st3 go) λr s4 ⟨u,hr,h4⟩ =>?_
    subst hr
    refine thn h4 λ_ s5 ⟨x,H5,I5,r5,y5,st5,fr5⟩ =>?_
    have I5':=I5.pinned (stat fr5) (T.obj _ _ st5)
    refine thn (hg _ _ _ _ _ _ s5 σ3 H5 x u _ I5' r5 (step x H5 y5)) λ_ s6 ⟨σ6,H6,I6,q6⟩ =>?_
    refine thn (hc _ _ _ _ _ _ s6 σ6 H6 _ I6 q6) λok s7 ⟨H7,I7,q7⟩ =>?_
    have back:∀{σ7:St} {H7:Hp} {s7:CN},Inv (blk X sc (a7 X.env sc.names []) G.objs.size N' s2 H2 fp) ([(s2.heap.objs.size,{ cls :=.type "list",data :=.seq its nn })]++il fp s5.heap) σ7 H7 s7->tn (i+1) s7.heap/\∀b∈fp,H7 b=none:=λJ7 =>
     ⟨T.keep _ _ _ st5 λb hb o e=>(J7.pin (b,o) (Dt _ (Dt _ (dX hb e)))).1,λb hb=>by
      obtain ⟨o,e,d⟩:=T.obj _ _ st5 b hb
      exact (J7.pin (b,o) (Dt _ (Dt _ (dX hb e)))).2.1⟩
    cases ok with
    | false =>
     rw[if_neg (by decide)] at q7
     obtain ⟨m',lm,w7⟩:=q7
     show ∃m,m<n/\_
     exact ⟨m',lm,i+1,ys,its,nn,σ6,H7,I7.e6,r3,(back I7).1,(back I7).2,w7⟩
    | true =>
     rw[if_pos rfl] at q7
     refine thn (he _ _ _ _ _ _ s7 σ6 H7 _ I7 q7) λz s8 ⟨y,H8,I8,r8,lz,m',lm,w8⟩ =>?_
     obtain ⟨e8,a8,_,_,_⟩:=I8.pin (s2.heap.objs.size,{ cls :=.type "list",data :=.seq its nn }) (by simp[blk])
     have sz:its.size<=C6:=by
      have l:ys.length=its.size:=r3.length.trans CV
      rw[<- l]
      exact GP lz
     refine wpAny_list_append_plain ⟨nn,e8⟩ (λh' pl' sb' =>?_) sz
     obtain ⟨n9,e9⟩:=pl'
     have I8p:Inv (blk X sc (a7 X.env sc.names []) G.objs.size N' s2 H2 fp) (il fp s5.heap) σ6 H8 s8:=I8.iK λp hp=>I8.pin p (Dt _ (Dt _ hp))
     have I9:=I8p.turned (it:=s2.heap.objs.size) (h':=h') (t':=s8.toks) (λb o ne e=>by rw[sb'.2 b ne];exact e) a8 aC (.inr (CO _)) (λy c e=>accNotCell y c e) (λp hp z=>by
      have hp':p∈il fp s5.heap:=by simpa [blk] using hp
      exact accFp (by rw[<- z];exact (ni hp').1))
     have b9:tn (i+1) h'/\∀b∈fp,H8 b=none :=
      ⟨T.keep _ _ _ st5 λb hb o e=>(I9.pin (b,o) (Dt _ (dX hb e))).1,(back I8).2⟩
     exact ⟨m',lm,i+1,ys++[y],its.push z,n9,σ6,H8,accPin I9 e9 a8,by rw[Fy];exact r3.append (.cons r8 .nil),b9.1,b9.2,w8⟩
  ·obtain ⟨n0,e0⟩:=accO
   exact ⟨0,[], #[],n0,_,H2,accPin IB e0 (I2.hok.fresh (CO _)),.nil,T.keep _ _ _ st2 λb hb o e=>old b o e,λb hb=>(f2 b hb).1,w0⟩
 exact codeAny_compStart_list loop (T.self _ 0 _ _ _ (T.keep _ _ _ st2 λb hb o e=>old b o e) loop)
theorem bT {elt target iter:Expr}{ifs:List Expr}{sc:Scope}{pos:Pos}{wi:TI}{g:TG}{tc:TT}{te:TE}(N':List Str)(ix:List (Option Nat))
  (hcalm:X.calm=true) (hi:PI X target iter wi) (hk:qp X.env.scope.names X.N sc N' ix=true)
  (hg:∀cl C s H fp,PG (blk X sc cl C N' s H fp) target g) (hc:∀cl C s H fp,PF (blk X sc cl C N' s H fp) ifs tc) (he:∀cl C s H fp,PE (blk X sc cl C N' s H fp) elt te)
  (hs:∀x,foldedSetIterable iter X.env x=pure x:=by intro _;rfl):PE X (.ListComp elt [⟨target,iter,ifs,0⟩] sc pos) (wY ix wi g tc te):=by
 intro pins s σ H Q I h
 rw[eval_ListComp]
 refine nC hcalm hi hk hg hc he hs (λs4 H3 acc C ys oC I4 ns hC hc hp q =>?_) I h
 obtain ⟨m,ns⟩:=ns
 refine ⟨m,ns,λh' sb=>⟨.ref acc,_,?_,rfl,q⟩⟩
 obtain ⟨_,n0,n1,n2,_⟩:=I4.pin (C,oC) (by simp)
 exact (I4.e6).turned (it:=C) (h':=h') (t':=s4.toks) (λb o ne e=>by rw[sb.2 b ne];exact e) n0 n1 (.inr hC) hc hp
theorem dZ {elt target iter:Expr}{ifs:List Expr}{sc:Scope}{pos pos' spos:Pos}{wi:TI}{g:TG}{tc:TT}{te:TE}{i:Nat}{x:Str}(N':List Str)(ix:List (Option Nat))
    (hcalm:X.calm=true) (hN:X.N.Nodup) (hx:X.N[i]? = some x) (hl:X.env.scope.names.lookup x=some .local)
    (hi:PI X target iter wi) (hk:qp X.env.scope.names X.N sc N' ix=true)
    (hg:∀cl C s H fp,PG (blk X sc cl C N' s H fp) target g) (hc:∀cl C s H fp,PF (blk X sc cl C N' s H fp) ifs tc) (he:∀cl C s H fp,PE (blk X sc cl C N' s H fp) elt te)
    (hsw:swapsWith (.ListComp elt [⟨target,iter,ifs,0⟩] sc pos) (some (.Name x pos')) spos.line X.env=pure true:=by rfl)
    (hs:∀x,foldedSetIterable iter X.env x=pure x:=by intro _;rfl):PS X (.Assign [.Name x pos'] (.ListComp elt [⟨target,iter,ifs,0⟩] sc pos) spos) (AO (wY ix wi g tc te) (eZ i)):=by
  intro pins s σ H D I h
  rw[exec_Assign_Name_used _ _ _ _ hsw]
  refine CD (Ip (CD ?_))
  show Dh _ X.A (do let _ ← comprehension (.ListComp elt [⟨target,iter,ifs,0⟩] sc pos) sc X.env _ (newList []) false (eval iter X.env) (some (assign (.Name x pos') X.env))) _ _ s
  refine CD (FD (nC (Q:=λv H1=>D.nx (σ.set i (some v)) H1) (Q2:=λ_ s'=>SP X pins D .next s') hcalm hi hk hg hc he hs (λs4 H3 acc C ys oC I4 ns hC hc hp q =>?_) I h) (λ_ s' q=>CK (CK q)) λ_ _ e=>e)
  obtain ⟨m,ns⟩:=ns
  obtain ⟨e0,n0,n1,n2,_⟩:=I4.pin (C,oC) (by simp)
  show Dh _ X.A (assign (.Name x pos') X.env (.ref acc)) _ _ s4
  refine thn ((aq (i:=i) hN hx (.inl hl) (.inr hl)) (pins++[(C,oC)]) s4 σ _ (.ref acc) (.ref acc) _ I4 rfl q) λ_ s5 ⟨σ5,H5,I5,q5⟩ =>?_
  obtain ⟨e5,k0,k1,k2,_⟩:=I5.pin (C,oC) (by simp)
  obtain ⟨o',es',ep',c',r'⟩:=ns
  have e':=e0.symm.trans c'
  cases e'
  refine ⟨m,⟨_,es',ep',e5,r'⟩,λh' sb=>⟨σ5,H5,?_,q5⟩⟩
  exact (I5.e6).turned (it:=C) (h':=h') (t':=s5.toks) (λb o ne e=>by rw[sb.2 b ne];exact e) k0 k1 (.inr hC) hc hp
end
open PySem PySem.Spec PyProof.Rows
section
variable  {X:Cx}{sc:Scope}{N':List Str}{ix:List (Option Nat)}{pins:List (Addr×Obj)}{σ:St}{H:Hp}{s:CN}
end
section
variable  {X:Cx}
end
open PySem PySem.Spec PyProof.Rows
section
variable  {X:Cx}
theorem oR {j:Int}(h0:0<j)(h:j<2 ^ 200):j.natAbs.log2<9000:=by
 have h1:j.natAbs<2 ^ 200:=by lia
 have h2:j.natAbs.log2<200:=(Nat.log2_lt (by lia)).mpr h1
 lia
def Cc (_ j:Int):Prop:=0<j/\j<2 ^ 200
theorem aG:bK X (.builtin "divmod") (λxs H Q=>∃i j,xs=[.int i,.int j]/\Cc i j/\∀p,H p=none->Q (.ref p) (upd H p (.tup [.int (i/j),.int (i%j)]))):=by
 intro pins s σ H xs us Q I r h
 obtain ⟨i,j,rfl,⟨h1,h2⟩,q⟩:=h
 obtain ⟨u,w',rfl,⟨t,rfl⟩,⟨t',rfl⟩⟩:=vals2 r
 refine divmod_int (by lia) ?_ (.inl (PyProof.noPylong_of_log2 (oR h1 h2)))
 rw[ID i (by lia),IE i (by lia)]
 refine ⟨.ref s.heap.objs.size,_,?_,rfl,q _ I.fresh⟩
 refine I.laid (λb o e=>CH _ e) (CO _) ⟨by simp only[Dx,FH];rw[FQ];decide,[.int (i/j) s.toks,.int (i%j) (s.toks+1)],.cons ⟨_,rfl⟩ (.cons ⟨_,rfl⟩ .nil),?_⟩
 exact ⟨_,CZ s.heap rfl,⟨rfl,rfl⟩,0,rfl⟩
def Cd (K:CM):R2:=λx y H Q=>∃l b xs zs,x = .ref l/\y = .ref b/\SqL K H l xs/\SqL K H b zs/\xs.length+zs.length<=C6/\∀p,H p=none->Q (.ref p) (upd H p (.lst (xs++zs)))
theorem kh:OpR X (binaryOp .Add) (Cd X.K):=by
 intro pins s σ H x y v u Q I rx ry h
 obtain ⟨l,b,xs,zs,rfl,rfl,hH,hB,hz,q⟩:=h
 cases rx
 cases ry
 obtain ⟨its,r,e,z⟩:=I.list hH
 obtain ⟨its2,r2,e2,z2⟩:=I.list hB
 obtain ⟨⟨c1,d1,da1,sl1⟩,n,e,k1,k2,k3⟩:=e
 obtain ⟨⟨c2,d2,da2,sl2⟩,n2,e2,g1,g2,g3⟩:=e2
 simp only at k1 k3 g1 g3
 subst k1 k3 g1 g3
 have l1:=r.length
 have l2:=r2.length
 have ea:its.toArray++its2.toArray=(its++its2).toArray:=by simp
 refine JU ⟨_,e,rfl⟩ ⟨_,e2,rfl⟩ noFill_list_add seq_list_add PySem.F.slot_list_add PySem.F.entry_list_add
  (PySem.F.args_list_add_2 _ _) (list_addW l b its.toArray its2.toArray n n2 d1 d2 sl1 sl2 (by rw[CS,CS];omega)) ⟨e,e2,?_⟩
 rw[ea]
 exact ⟨.ref _,_,I.Ca (t':=s.toks) (r.append r2) (by rw[CL];omega),rfl,q _ I.fresh⟩
theorem dy:bK X (.builtin "isinstance") (λxs H Q=>∃x T t b,xs=[x,.ty T]/\iO X.K H x t/\PySem.W.kitOne X.K t (.type T)=some b/\Q (.bl b) H):=by
 intro pins s σ H xs us Q I r h
 obtain ⟨x,T,t,b,rfl,ty,e,q⟩:=h
 obtain ⟨u,w',rfl,ru,rw'⟩:=vals2 r
 cases (show w'=EK T from rw')
 exact vg I ru ty e λtk=>⟨.bl b,H,I.tok tk,rfl,q⟩
end
def t7 (k:Nat)(tc:TT)(te:TE)(τ:St)(Pv:Nat->List V->Hp->Prop)(i:Nat)(x:V)(ys:List V)(H:Hp):Prop :=
 ∀(R1:V->Hp->Prop) (R0:Hp->Prop),(∀y H4,Pv (i+1) (ys++[y]) H4->R1 y H4)->(∀H3,Pv (i+1) ys H3->R0 H3)->tc (τ.set k (some x)) H λb H3=>if b=true then te (τ.set k (some x)) H3 R1 else R0 H3
theorem cf {K:CM}{a:Addr}{xs:List V}{k:Nat}{tc:TT}{te:TE}{τ:St}{H:Hp}{Q:VK}(Pv:Nat->List V->Hp->Prop)(h0:Pv 0 [] H)(hz:xs.length<=C6)
  (hl:∀i ys H,i<=xs.length->Pv i ys H->SqL K H a xs) (hs:∀i x ys H,xs[i]? = some x->ys.length<=i->Pv i ys H->t7 k tc te τ Pv i x ys H)
  (hd:∀ys H,ys.length<=xs.length->Pv xs.length ys H->∀l,H l=none->Q (.ref l) (upd H l (.lst ys))) :
  k7 (Itl K a) (eZ k) tc te τ Q H:=by
 refine ⟨λi m σ ys H=>m=xs.length-i/\i<=xs.length/\(∀x,σ.set k (some x)=τ.set k (some x))/\ys.length<=i/\Pv i ys H,⟨xs.length,by simp,DQ _,λ_=>rfl,CO _,h0⟩,?_⟩
 rintro i m σ ys H ⟨rfl,hi,hτ,hy,p⟩
 have q:=hl i ys H hi p
 by_cases hlt:i<xs.length
 ·refine .inr ⟨⟨xs,xs[i],q,by simp[hlt]⟩,λx H' y =>?_⟩
  obtain ⟨e,y⟩:=y
  subst e
  show tc (σ.set k (some x)) _ _
  rw[hτ x]
  have hσ:∀z,(τ.set k (some x)).set k (some z)=τ.set k (some z):=λz=>by rw[IM]
  refine hs i x ys _ (y xs q) hy p _ _ (λy4 H4 p4=>⟨by lia,xs.length-(i+1),by lia,rfl,hlt,hσ,by rw[CL,D2];lia,p4⟩) λH3 p3=>⟨xs.length-(i+1),by lia,rfl,hlt,hσ,by lia,p3⟩
 ·have e:i=xs.length:=by lia
  subst e
  exact .inl ⟨⟨xs,q,CO _⟩,by lia,hd ys H hy p⟩
theorem dR {K:CM}{a:Addr}{xs:List V}{k:Nat}{tc:TT}{te:TE}{τ:St}{H:Hp}{Q:VK}(Pv:Nat->List V->Hp->Prop)(h0:Pv 0 [] H)(hz:xs.length<=C6)
  (hl:∀i ys H,i<=xs.length->Pv i ys H->SqT K H a xs) (hs:∀i x ys H,xs[i]? = some x->ys.length<=i->Pv i ys H->t7 k tc te τ Pv i x ys H)
  (hd:∀ys H,ys.length<=xs.length->Pv xs.length ys H->∀l,H l=none->Q (.ref l) (upd H l (.lst ys))) :
  k7 (Itt K a) (eZ k) tc te τ Q H:=by
 refine ⟨λi m σ ys H=>m=xs.length-i/\i<=xs.length/\(∀x,σ.set k (some x)=τ.set k (some x))/\ys.length<=i/\Pv i ys H,⟨xs.length,by simp,DQ _,λ_=>rfl,CO _,h0⟩,?_⟩
 rintro i m σ ys H ⟨rfl,hi,hτ,hy,p⟩
 have q:=hl i ys H hi p
 by_cases hlt:i<xs.length
 ·refine .inr ⟨⟨xs,xs[i],q,by simp[hlt]⟩,λx H' y =>?_⟩
  obtain ⟨e,y⟩:=y
  subst e
  show tc (σ.set k (some x)) _ _
  rw[hτ x]
  have hσ:∀z,(τ.set k (some x)).set k (some z)=τ.set k (some z):=λz=>by rw[IM]
  refine hs i x ys _ (y xs q) hy p _ _ (λy4 H4 p4=>⟨by lia,xs.length-(i+1),by lia,rfl,hlt,hσ,by rw[CL,D2];lia,p4⟩) λH3 p3=>⟨xs.length-(i+1),by lia,rfl,hlt,hσ,by lia,p3⟩
 ·have e:i=xs.length:=by lia
  subst e
  exact .inl ⟨⟨xs,q,CO _⟩,by lia,hd ys H hy p⟩
theorem cK {lo:Int}{n:Nat}{k:Nat}{tc:TT}{te:TE}{τ:St}{H:Hp}{Q:VK}(Pv:Nat->List V->Hp->Prop)(h0:Pv 0 [] H)(hz:n<=C6)
  (hs:∀i ys H,i<n->ys.length<=i->Pv i ys H->t7 k tc te τ Pv i (.int (lo+i)) ys H)
  (hd:∀ys H,ys.length<=n->Pv n ys H->∀l,H l=none->Q (.ref l) (upd H l (.lst ys))) :
  k7 (Itr lo n) (eZ k) tc te τ Q H:=by
 refine ⟨λi m σ ys H=>m=n-i/\i<=n/\(∀x,σ.set k (some x)=τ.set k (some x))/\ys.length<=i/\Pv i ys H,⟨n,by simp,DQ _,λ_=>rfl,CO _,h0⟩,?_⟩
 rintro i m σ ys H ⟨rfl,hi,hτ,hy,p⟩
 by_cases hlt:i<n
 ·refine .inr ⟨hlt,λx H' y =>?_⟩
  obtain ⟨e,y⟩:=y
  subst e y
  show tc (σ.set k (some (.int (lo+i)))) _ _
  rw[hτ]
  have hσ:∀z,(τ.set k (some (.int (lo+i)))).set k (some z)=τ.set k (some z):=λz=>by rw[IM]
  refine hs i ys _ hlt hy p _ _ (λy4 H4 p4=>⟨by lia,n-(i+1),by lia,rfl,hlt,hσ,by rw[CL,D2];lia,p4⟩) λH3 p3=>⟨n-(i+1),by lia,rfl,hlt,hσ,by lia,p3⟩
 ·have e:i=n:=by lia
  subst e
  exact .inl ⟨CO _,by lia,hd ys H hy p⟩
structure Cal (P:De)(w:DN)(K:CM)(mg:Str->Option CJ)(base:Heap)(k:Nat)(x:Str)(ps:List Str)(sp:Sp):Prop where
 ex:∃f fd,bS P w K mg base CX0 k f fd ps sp/\mg x=some (.ref f)/\PySem.W.keepIn K (.ref f)=true/\Binds K fd ps []
theorem aV {X:Cx}{j k:Nat}{x:Str}{ps:List Str}{sp:Sp}{e:Expr}{es:List Expr}{t:TA}{p pos:Pos}(C:Cal X.prog X.w X.K X.mg X.base k x ps sp)(hr:dF j X.A)(hj:k<=j)(hg:Gl X x)(ha:PA X (e :: es) t)
  (hdb:(x == ("__debug__" : Str))=false:=by decide) (he:D6 (e :: es) X.env=(false,eval e X.env) :: D6 es X.env:=by rfl) (hpl:(HA pos (D6 es X.env)).any (·.1)=false:=by rfl) :
  PE X (.Call (.Name x p) (e :: es) [] pos) (Ag sp [] E0 t):=by
 obtain ⟨f,fd,F,m,kp,b⟩:=C.ex
 exact yT F (hr.mono hj) hg m kp b .nil Cb ha hdb he hpl
theorem af {H:Hp}{p:Addr}(h:H p=none)(o:HO):aE H (upd H p o):=λb u q=>by rw[aD (aB q h)];exact q
theorem small {n:Nat}(h:n<=1000):n<=C6:=GP (bE h)
open PySem PySem.Spec PyProof.Rows
section
variable  {X:Cx}
theorem qq {its:List CJ}{bs:List Bool}(h:Vals (bs.map V.bl) its){prog:De}{w:DN}{A:D1}:TruthOf prog w A (λi v=>its.toArray[i]? = some v) (λi=>bs.getD i false):=by
 intro i v s Q E hv q
 have l:=h.length
 rw[CG] at l
 have hi:i<its.length:=by
  rw[DR] at hv
  exact (CP.mp hv).1
 have e:(bs.map V.bl)[i]? = some (.bl (bs.getD i false)):=by
  rw[CU,C0,CI (by lia)]
  rfl
 obtain ⟨u,e1,e2⟩:=h.get e
 rw[DR,e1] at hv
 have ev:u=v:=Dk hv
 subst ev
 cases (show u=Value.bool _ from e2)
 exact ES q
theorem all_range (bs:List Bool):((Ei bs.length).all λi=>bs.getD i false)=bs.all id:=by
 rw[Fh,F7,F7]
 constructor
 ·intro h x hx
  obtain ⟨i,e⟩:=DC.mp hx
  have hi:i<bs.length:=(CP.mp e).1
  have q:=h i (Eg.mpr hi)
  rw[C0,e] at q
  exact q
 ·intro h i hi
  have hi':=Eg.mp hi
  rw[C0,CI hi']
  exact h _ (GG hi')
theorem k8 (hc:X.calm=true):bK X (.builtin "all") (λxs H Q=>∃(p:Addr) (bs:List Bool),xs=[.ref p]/\SqL X.K H p (bs.map V.bl)/\Q (.bl (bs.all id)) H):=by
 intro pins s σ H xs us Q I r h
 obtain ⟨p,bs,rfl,hs,q⟩:=h
 obtain ⟨u,rfl,ru⟩:=vals1 r
 cases (show u=Dd p from ru)
 obtain ⟨its,rv,pl,hz⟩:=I.list hs
 have l:=rv.length
 rw[CG] at l
 have hpl:p<s.heap.objs.size:=by obtain ⟨o,_,e,_⟩:=pl;exact C1 e
 refine call_all_walk (Gw pl.isList ?_)
 have hd:X.A.in1.handled=none:=I.ok.hd hc
 refine ⟨s.heap.objs.size,_,_,_,_,_,_,rfl,KP hd s.heap.objs.size p (Dc hpl) its.toArray,⟨⟨_,CZ _ rfl,rfl,rfl⟩,?_⟩,qq rv,λh' tk k =>?_⟩
 ·exact pl.isList.at λo e=>CH _ e
 ·have e:((Ei its.toArray.size).all λi=>bs.getD i false)=bs.all id:=by rw[CS, <- l,all_range]
  rw[e]
  refine ⟨.bl (bs.all id),H,I.kept (t':=tk) (λb o eb=>k b o ?_ (CH _ eb)),rfl,q⟩
  intro hb
  have:b=s.heap.objs.size:=by simpa using hb
  exact absurd (C1 eb) (by rw[this];exact D4 _)
theorem nE {α β:Type}{F:α -> β -> Prop}:∀{l:List α} {m:List β} {i:Nat} {x:α} {y:β},Paired F l m->l[i]? = some x->m[i]? = some y->F x y
 | _,_,0,_,_,.cons h _,e1,e2=>by simp at e1 e2;subst e1 e2;exact h
 | _,_,i+1,_,_,.cons _ t,e1,e2=>nE (i:=i) t (by simpa using e1) (by simpa using e2)
 | _,_,_,_,_,.nil,e1,_=>by simp at e1
theorem all_true (n:Nat):((Ei n).all λ_=>true)=true:=by simp
end
open PySem PySem.Spec PyProof.Rows
def Ah (K:CM)(k l:Nat):TG:=BR K 2 (wD (eZ k) (wD (eZ l) BQ))
def Ce (k l:Nat)(tc:TT)(te:TE)(τ:St)(Pv:Nat->List V->Hp->Prop)(i:Nat)(a b:V)(ys:List V)(H:Hp):Prop :=
 ∀(R1:V->Hp->Prop) (R0:Hp->Prop),(∀y H4,Pv (i+1) (ys++[y]) H4->R1 y H4)->(∀H3,Pv (i+1) ys H3->R0 H3)->tc ((τ.set k (some a)).set l (some b)) H λc H3=>if c=true then te ((τ.set k (some a)).set l (some b)) H3 R1 else R0 H3
theorem k9 {K:CM}{p:Addr}{ts:List (Addr×V×V)}{k l:Nat}{tc:TT}{te:TE}{τ:St}{H:Hp}{Q:VK}(Pv:Nat->List V->Hp->Prop)(hkl:k≠l)(h0:Pv 0 [] H)(hz:ts.length<=C6)
  (hl:∀i ys H,i<=ts.length->Pv i ys H->SqL K H p (ts.map λt =>.ref t.1)/\∀t∈ts,SqT K H t.1 [t.2.1,t.2.2])
  (hs:∀i t ys H,ts[i]? = some t->ys.length<=i->Pv i ys H->Ce k l tc te τ Pv i t.2.1 t.2.2 ys H)
  (hd:∀ys H,ys.length<=ts.length->Pv ts.length ys H->∀r,H r=none->Q (.ref r) (upd H r (.lst ys))):k7 (Itl K p) (Ah K k l) tc te τ Q H:=by
 refine ⟨λi m σ ys H=>m=ts.length-i/\i<=ts.length/\(∀a b,(σ.set k (some a)).set l (some b)=(τ.set k (some a)).set l (some b))/\ys.length<=i/\Pv i ys H,⟨ts.length,by simp,DQ _,λ_ _=>rfl,CO _,h0⟩,?_⟩
 rintro i m σ ys H ⟨rfl,hi,hτ,hy,pv⟩
 obtain ⟨q,qt⟩:=hl i ys H hi pv
 have ln:(ts.map λt:Addr×V×V=>V.ref t.1).length=ts.length:=CG _
 by_cases hlt:i<ts.length
 ·have et:ts[i]? = some ts[i]:=CI hlt
  have em:(ts.map λt:Addr×V×V=>V.ref t.1)[i]? = some (.ref ts[i].1):=by rw[CU,et];rfl
  refine .inr ⟨⟨_,_,q,em⟩,λx H' y =>?_⟩
  obtain ⟨e,y⟩:=y
  subst e
  have ex:=y _ q
  rw[em] at ex
  cases ex
  have st:=qt ts[i] (GG hlt)
  refine ⟨ts[i].1,_,rfl,st,rfl,_,_,rfl,_,_,rfl,rfl,?_⟩
  rw[hτ]
  have hσ:∀a b,((((τ.set k (some ts[i].2.1)).set l (some ts[i].2.2)).set k (some a)).set l (some b))=(τ.set k (some a)).set l (some b):=λa b=>by
   rw[List.set_comm _ _ (D8 hkl),IM,IM]
  refine hs i ts[i] ys _ et hy pv _ _ (λy4 H4 p4=>⟨by lia,ts.length-(i+1),by lia,rfl,hlt,hσ,by rw[CL,D2];lia,p4⟩) λH3 p3=>⟨ts.length-(i+1),by lia,rfl,hlt,hσ,by lia,p3⟩
 ·have e:i=ts.length:=by lia
  subst e
  exact .inl ⟨⟨_,q,by rw[ln];exact CO _⟩,by lia,hd ys H hy pv⟩
open PySem PySem.Spec PyProof.Rows
section
variable  {X:Cx}{K:CM}
theorem lb (h:X.K=K:=by rfl):IxR X (B7 K):=by subst h;exact b8
theorem iT (h:X.K=K:=by rfl):IxR X (B8 K):=by subst h;exact aI
theorem A7 (h:X.K=K:=by rfl):OpR X (EV .In) (rIn K false):=by subst h;exact vi
theorem fe (h:X.K=K:=by rfl):OpR X (EV .NotIn) (rIn K true):=by subst h;exact oQ
end
open PySem PySem.Spec PyProof.Rows
theorem Inv.lq {X:Cx}{pins:List (Addr×Obj)}{σ:St}{H:Hp}{s:CN}{h':Heap}{t':Nat}{ch:List Addr}{T:Addr}{o:HO}(I:Inv X pins σ H s)(f:∀b∈ch,j6 X pins H b)
  (k:∀b ob,b∉ch->s.heap.get? b=some ob->h'.get? b=some ob) (th:∀b∈ch,∃ob,h'.get? b=some ob) (hT:s.heap.objs.size<=T) (new:bB X.prog X.w (upd H T o) h' T o):Inv X pins σ (upd H T o) { s with heap:=h',toks:=t' }:=by
 have hn:H T=none:=I.hok.fresh hT
 have nT:∀b ob,s.heap.get? b=some ob->b≠T:=λb ob e=>Dc (Dm (C1 e) hT)
 refine I.step (g':=s.gens) (d':=s.drawn) (ch:=ch) (λb hb =>?_) (λb ob _ _ hc e _=>k b ob hc e) (λb ob _ _ hc e _=>⟨ob.slots,k b ob hc e⟩) (λb ob _ e n=>by rw[aD (nT b ob e)];exact n)
  (λb ob hc e=>⟨ob,k b ob hc e⟩) (λb xs e=>by rw[aD (aB e hn)];exact e) (λb ob u e=>by rw[aD (aB e hn)];exact e) (λb ps e=>⟨#[],by rw[aD (aB e hn),e];simp⟩) (λm hm =>?_) (λb u e =>?_) I.bare
 ·obtain ⟨g0,g1,g2,g3,g4,g5⟩:=f b hb
  exact ⟨g3,g1,g4,g5⟩
 ·obtain ⟨ob,es,ep,ho,r⟩:=hm
  exact ⟨ob,es,ep,k _ ob (λz=>(f _ z).2.1 rfl) ho,r⟩
 ·by_cases hb:b=T
  ·subst hb
   rw[ag] at e
   cases e
   exact new
  ·rw[aD hb] at e
   refine (I.hok b u e).stay (λc v hc q=>k c v ?_ q) (λc q=>by rw[aD (aB q hn)];exact q) λc xs q=>by rw[aD (aB q hn)];exact q
   intro z
   have n0:=(f c z).1
   rcases hc with hc | hc
   ·rw[hc,e] at n0;cases n0
   ·rw[hc] at n0;cases n0
def Ite (K:CM)(a:Addr):It :=
 ⟨λi H=>∃xs v,SqL K H a xs/\xs[i]? = some v,λi H x H'=>∃T v,H T=none/\x = .ref T/\H'=upd H T (.tup [.int i,v])/\∀xs,SqL K H a xs->xs[i]? = some v,λi H=>∃xs,SqL K H a xs/\xs.length<=i⟩
theorem vo {P:De}{w:DN}{K:CM}{elts:List Expr}{k:Nat}{pos:Pos}(a e it:Addr)(hne:e≠it):Turn P w K (.Tuple elts k pos) (Ite K a) [e,it] e (λi h=>(∃old,IsEnum h e it i old)/\h.IsListIter it a i) where
 mem:=by simp
 obj:=λi h ⟨⟨old,h1⟩,h2⟩ b hb=>by
  rcases C9.mp hb with q | q
  ·subst q
   exact ⟨_,h1,λv z=>nomatch z⟩
  ·have q':b=it:=by simpa using q
   subst q'
   obtain ⟨o,ho,_,hd⟩:=h2
   exact ⟨o,ho,λv z=>by rw[hd] at z;cases z⟩
 keep:=λi h h' ⟨⟨old,h1⟩,h2⟩ kp=>⟨⟨old,kp e (by simp) _ h1⟩,h2.at λo x=>kp it (by simp) o x⟩
 item:=λX eP eW eK hcalm i pins s σ H E I f ⟨⟨old,h1⟩,h2⟩ go=>by
  subst eP eW eK
  obtain ⟨xs,v,hs,hv⟩:=go
  obtain ⟨its,r,pl,hz⟩:=I.list hs
  obtain ⟨u,eu,ru⟩:=r.get hv
  refine wpAny_pyNext_enum_item h1 h2 pl.isList (x:=u) (by rw[DR];exact eu) hne λh' o1 o2 o3 o4 kp =>?_
  refine ⟨_,rfl,?_⟩
  refine IK o1 λh2' e2 sb =>?_
  have eT:e≠s.heap.objs.size:=Dc (C1 h1)
  have kp2:∀b ob,b∉[e,it]->s.heap.get? b=some ob->h2'.get? b=some ob:=λb ob hb eb=>by
   have n1:b≠e:=λz=>hb (by simp[z])
   have n2:b≠it:=λz=>hb (by simp[z])
   rw[sb.2 b n1]
   exact kp b ob n1 n2 eb
  have li:h2'.IsListIter it a (i+1):=o2.at λob eb=>by rw[sb.2 it (D8 hne)];exact eb
  have tp:h2'.get? s.heap.objs.size=some { cls :=.type "tuple",data :=.seq #[.int i s.toks,u] }:=by rw[sb.2 _ (D8 eT)];exact o3
  refine ⟨.ref s.heap.objs.size,upd H s.heap.objs.size (.tup [.int i,v]),I.lq (ch:=[e,it]) f kp2 (λb hb =>?_) (CO _) ?_,rfl,⟨s.heap.objs.size,v,I.hok.fresh (CO _),rfl,rfl,λys hy =>?_⟩,⟨⟨_,e2⟩,li⟩,λb hb =>?_⟩
  ·rcases C9.mp hb with q | q
   ·subst q;exact ⟨_,e2⟩
   ·have q':b=it:=by simpa using q
    subst q'
    obtain ⟨ob,ho,_⟩:=li
    exact ⟨ob,ho⟩
  ·refine ⟨(by show 2<=C6;decide),[.int i s.toks,u],.cons ⟨_,rfl⟩ (.cons ru .nil),_,tp,⟨rfl,rfl⟩,_,rfl⟩
  ·rw[I.qg hy hs];exact hv
  ·have ne:b≠s.heap.objs.size:=by
    rcases C9.mp hb with q | q
    ·rw[q];exact eT
    ·have q':b=it:=by simpa using q
     rw[q']
     obtain ⟨ob,ho,_⟩:=h2
     exact Dc (C1 ho)
   rw[aD ne]
   exact (f b hb).1
 done:=λX eP eW eK hcalm i pins s σ H E I f ⟨⟨old,h1⟩,h2⟩ stop=>by
  subst eP eW eK
  obtain ⟨xs,hs,hl⟩:=stop
  obtain ⟨its,r,pl,hz⟩:=I.list hs
  have l:=r.length
  refine wpAny_pyNext_enum_end (I.ok.hd hcalm) h1 h2 pl.isList (by rw[DR];exact E6.mpr (by lia)) λh' ex=>⟨rfl,?_⟩
  obtain ⟨g0,g1,g2,g3,g4,g5⟩:=f it (by simp)
  exact I.turned (it:=it) (h':=h') (t':=s.toks) (λb o ne eb=>ex b o ne eb) g0 g1 g3 g4 g5
 self:=λA i s Q E ⟨⟨old,h1⟩,_⟩ q=>by
  refine HS ⟨_,h1,rfl⟩ GQ (Em GQ ⟨_,h1,rfl⟩ JA ?_ (Jm _))
  show Dh _ _ (ret (.ref e)) _ _ s
  exact CK ⟨_,rfl, "enumerate",_,⟨_,h1,rfl⟩,GR.lookup,q⟩
open PySem PySem.Spec PyProof.Rows
open PySem.AutoSeq1 (wpAny_loadPart')
section
variable  {prog:De}{w:DN}{A:D1}{E:CJ->CN->Prop}{s:CN}
theorem sq {it t:Addr}{i:Nat}{items:Array CJ}{x:CJ}{Q:CJ->CN->Prop}(hi:s.heap.IsTupleIter it t i)(hl:s.heap.IsTuple t items)(hx:items[i]? = some x)
  (q:∀h',h'.IsTupleIter it t (i+1)->Heap.SameBut it s.heap h'->Q x { s with heap:=h' }):Dh (DA prog w) A (Builtin.SmallTypes.nextOf (.ref it)) Q E s:=by
 obtain ⟨o,eo,oc,od⟩:=id hi
 obtain ⟨ol,el,_,nl,dl⟩:=hl
 unfold Builtin.SmallTypes.nextOf
 refine CD (EN (name:=Str.ofString "__next__") hi.typeIs F6 (Em F6 hi.typeIs Iv ?_ (Im _)))
 show Dh _ _ (field (.ref it) 0 >>= _) _ _ s;refine CD (Fo eo od (x :=.ref t) rfl ?_)
 show Dh _ _ (if (Dd t == EW)=true then _ else _) _ _ s;rw[if_neg (show ¬ ((Dd t == EW)=true) from C8)]
 show Dh _ _ (field (.ref it) 1 >>= _) _ _ s;refine CD (Fo eo od (x :=.int i 0) rfl ?_)
 show Dh _ _ (seqItems? (.ref t) >>= _) _ _ s;refine CD (Fe el dl ?_)
 simp only[Ej,hx];refine CD (HW eo od (by simp) (CK ⟨x,rfl,CK (q _ ?_ (Hn ..))⟩))
 exact ⟨_,DI _ eo (HY (Gd od _)),(KQ ..).trans oc,by rw[Gd od];simp[GZ]⟩
theorem gf {it t:Addr}{i:Nat}{items:Array CJ}{Q:CJ->CN->Prop}(hh:A.handled=none)(hi:s.heap.IsTupleIter it t i)(hl:s.heap.IsTuple t items)(hx:items[i]? = none)
  (q:∀h' e,Heap.ExtBut it s.heap h'->(∃o,h'.get? e=some o/\o.cls = .type "StopIteration")->E (.ref e) { s with heap:=h' }):Dh (DA prog w) A (Builtin.SmallTypes.nextOf (.ref it)) Q E s:=by
 obtain ⟨o,eo,oc,od⟩:=id hi
 obtain ⟨ol,el,_,nl,dl⟩:=hl
 unfold Builtin.SmallTypes.nextOf
 refine CD (EN (name:=Str.ofString "__next__") hi.typeIs F6 (Em F6 hi.typeIs Iv ?_ (Im _)))
 show Dh _ _ (field (.ref it) 0 >>= _) _ _ s;refine CD (Fo eo od (x :=.ref t) rfl ?_)
 show Dh _ _ (if (Dd t == EW)=true then _ else _) _ _ s;rw[if_neg (show ¬ ((Dd t == EW)=true) from C8)]
 show Dh _ _ (field (.ref it) 1 >>= _) _ _ s;refine CD (Fo eo od (x :=.int i 0) rfl ?_)
 show Dh _ _ (seqItems? (.ref t) >>= _) _ _ s;refine CD (Fe el dl ?_)
 simp only[Ej,hx];refine CD (FE (CD (HW eo od (by simp) ?_)))
 show Dh _ _ (newExc (.type "StopIteration") [] >>= _) _ _ _;refine CD ?_
 simp only[newExc,newTuple];refine CD (DM ?_ (by size_fits))
 refine CD (m:=firstArgMember _ _) (E3 (a:=EW) (by first | rfl | (simp only[firstArgMember];rfl)) ?_);refine DM ?_ (by size_fits)
 simp only[raiseNew];refine CD (KC ?_)
 first | (rw[show A.in1.handled=none from hh]) | (rw[hh])
 refine CD (CK (LF ?_));exact q _ _ (((Hn ..).extBut.push _).push _) ⟨_,CZ _ rfl,rfl⟩
theorem vq (hh:A.handled=none)(it l:Addr)(hne:l≠it)(items:Array CJ) :
  Draws prog w A it [it,l] items.size (λi v=>items[i]? = some v) (λi h=>h.IsTupleIter it l i/\h.IsTuple l items) where
 live:=λ_ _ st=>by obtain ⟨o,ho,_⟩:=st.1;exact ⟨o,ho⟩
 frame:=λ_ _ _ st hk=>⟨st.1.at λo e=>hk it (by simp) o e,by obtain ⟨o,e,r⟩:=st.2;exact ⟨o,hk l (by simp) o e,r⟩⟩
 item:=λi s Q E hi st hQ=>by
  refine sq st.1 st.2 (x:=items[i]) (by simp[hi]) λh' hit' hs' =>?_
  obtain ⟨o,e,r⟩:=st.2
  exact hQ _ h' s.toks (by simp[hi]) ⟨hit',o,by rw[hs'.2 l hne];exact e,r⟩ hs'
 done:=λs Q E st hE=>gf hh st.1 st.2 (by simp) hE
theorem oS (l:Addr)(items:Array CJ)(n:Nat)(dct:Option Addr)(sl:Array (Option CJ)) :
  Meets (Builtin.«enumerate.__new__» ⟨[.type "enumerate",.ref l],[]⟩) (λ_ R s=>s.heap.get? l=some { cls :=.type "tuple",dict:=dct,data :=.seq items n,slots:=sl } ∧
   R (.ok (.ret (.ref (s.heap.push { cls :=.type "tuple_iterator",data :=.fields #[.ref l,.int 0 0] }).objs.size)))
    { s with heap:=(s.heap.push { cls :=.type "tuple_iterator",data :=.fields #[.ref l,.int 0 0] }).push { cls :=.type "enumerate",data :=.fields #[.none,.bool false,.ref s.heap.objs.size,GZ 0,.none,.none] } }) :=
 .of_wp λprog w A R s h=>by
  obtain ⟨hp,g,d,tk,os⟩:=s;obtain ⟨hl,h⟩:=h
  have hsub:=sub_enumerate
  have hT:Heap.IsTuple (Shared.heap ⟨hp,g,d,tk,os⟩) l items:=⟨_,hl,rfl,n,rfl⟩
  wp_walk using wpAny_loadPart' hl
  refine wpAny_stack_any λst=>CK ?_
  split
  ·rename_i c _ _ _ _ _
   cases (c == EK "enumerate") <;> (wp_walk using wpAny_loadPart' hl,Fm hT;exact ⟨_,rfl,h⟩)
  ·wp_walk using wpAny_loadPart' hl,Fm hT;exact ⟨_,rfl,h⟩
theorem mO {l:Addr}{items:Array CJ}{Q:CJ->CN->Prop}(hL:s.heap.IsTuple l items)
  (h:∀h',IsEnum h' (s.heap.objs.size+1) s.heap.objs.size 0 .none->h'.IsTupleIter s.heap.objs.size l 0->h'.objs.size=s.heap.objs.size+2->(∀b o,s.heap.get? b=some o->h'.get? b=some o)->Q (.ref (s.heap.objs.size+1)) { s with heap:=h' }) :
  Dh (DA prog w) A (call (.type "enumerate") [.ref l]) Q E s:=by
 obtain ⟨⟨c,dct,dt,sl⟩,hl,hc,n,hd⟩:=hL
 replace hc:c = .type "tuple" := hc
 replace hd:dt = .seq items n:=hd
 subst hc hd
 refine K7 F.called_enumerate (by decide) (F.typeCall_enumerate_1 _) (F.newCall_enumerate_1 _) (λobj=>F.args_object_init_2 obj _) F.entry_enumerate_new (oS l items n dct sl) ⟨hl,?_⟩
 have hz:(s.heap.push { cls :=.type "tuple_iterator",data :=.fields #[.ref l,.int 0 0] }).objs.size=s.heap.objs.size+1:=ED ..
 show _/\_
 rw[hz]
 have he:IsEnum ((s.heap.push { cls :=.type "tuple_iterator",data :=.fields #[.ref l,.int 0 0] }).push { cls :=.type "enumerate",data :=.fields #[.none,.bool false,.ref s.heap.objs.size,GZ 0,.none,.none] }) (s.heap.objs.size+1) s.heap.objs.size 0 .none:=by
  have:=CZ (s.heap.push { cls :=.type "tuple_iterator",data :=.fields #[.ref l,.int 0 0] }) (o:={ cls :=.type "enumerate",data :=.fields #[.none,.bool false,.ref s.heap.objs.size,GZ 0,.none,.none] }) rfl
  rw[hz] at this;exact this
 exact ⟨⟨_,he,rfl⟩,h _ he ⟨_,CH _ (CZ _ rfl),rfl,rfl⟩ (by rw[ED,hz]) λb o x=>CH _ (CH _ x)⟩
end
theorem fK {prog:De}{w:DN}{A:D1}{E:CJ->CN->Prop}{s:CN}{e it t:Addr}{i:Nat}{items:Array CJ}{old:CJ}{Q:Option CJ->CN->Prop}(hh:A.in1.handled=none)(he:IsEnum s.heap e it i old)(hi:s.heap.IsTupleIter it t i)
  (hl:s.heap.IsTuple t items) (hx:items[i]? = none) (q:∀h',Heap.ExtBut it s.heap h'->Q none { s with heap:=h' }):Dh (DA prog w) A (pyNext (.ref e)) Q E s:=by
 have hT:s.TypeIs (.ref e) "enumerate" :=⟨_,he,rfl⟩
 unfold pyNext
 refine CD (GF (EN (name:=Str.ofString "__next__") hT GR (Em GR hT F.entry_enumerate_next ?_ (F.args_enumerate_next_1 _))))
 show Dh _ _ (field (.ref e) 2 >>= _) _ _ _;refine CD (Fo he rfl (x :=.ref it) rfl ?_)
 refine CD (gf hh hi hl hx λh' x he' hx' =>?_)
 obtain ⟨o,ho,hc⟩:=hx'
 refine CD (FR (T := "StopIteration") (b:=true) ⟨o,ho,hc⟩ J8 ?_);exact CK (q _ he')
def ItE (K:CM)(a:Addr):It :=
 ⟨λi H=>∃xs v,SqT K H a xs/\xs[i]? = some v,λi H x H'=>∃T v,H T=none/\x = .ref T/\H'=upd H T (.tup [.int i,v])/\∀xs,SqT K H a xs->xs[i]? = some v,λi H=>∃xs,SqT K H a xs/\xs.length<=i⟩
theorem sr {P:De}{w:DN}{K:CM}{elts:List Expr}{k:Nat}{pos:Pos}(a e it:Addr)(hne:e≠it)(hai:a≠it)(hae:a≠e):Turn P w K (.Tuple elts k pos) (ItE K a) [e,it] e (λi h=>(∃old,IsEnum h e it i old)/\h.IsTupleIter it a i) where
 mem:=by simp
 obj:=λi h ⟨⟨old,h1⟩,h2⟩ b hb=>by
  rcases C9.mp hb with q | q
  ·subst q
   exact ⟨_,h1,λv z=>nomatch z⟩
  ·have q':b=it:=by simpa using q
   subst q'
   obtain ⟨o,ho,_,hd⟩:=h2
   exact ⟨o,ho,λv z=>by rw[hd] at z;cases z⟩
 keep:=λi h h' ⟨⟨old,h1⟩,h2⟩ kp=>⟨⟨old,kp e (by simp) _ h1⟩,h2.at λo x=>kp it (by simp) o x⟩
 item:=λX eP eW eK hcalm i pins s σ H E I f ⟨⟨old,h1⟩,h2⟩ go=>by
  subst eP eW eK
  obtain ⟨xs,v,hs,hv⟩:=go
  obtain ⟨its,r,pl,hz⟩:=I.tuple hs
  obtain ⟨u,eu,ru⟩:=r.get hv
  have hi:i<its.toArray.size:=by rw[CS];exact (CP.mp eu).1
  have hd:X.A.in1.handled=none:=I.ok.hd hcalm
  refine wpAny_pyNext_enum_itemD (vq hd it a hai its.toArray) h1 ⟨h2,(show s.heap.IsTuple a its.toArray from pl)⟩ hi hne (by simp[hne,D8 hae]) λx h' tk px o1 o2 o3 o4 kp =>?_
  rw[DR,eu] at px
  have px':u=x:=Dk px
  subst px'
  refine ⟨_,rfl,?_⟩
  refine IK o1 λh2' e2 sb =>?_
  have eT:e≠s.heap.objs.size:=Dc (C1 h1)
  have kp2:∀b ob,b∉[e,it]->s.heap.get? b=some ob->h2'.get? b=some ob:=λb ob hb eb=>by
   have n1:b≠e:=λz=>hb (by simp[z])
   have n2:b≠it:=λz=>hb (by simp[z])
   rw[sb.2 b n1]
   exact kp b ob n1 n2 eb
  have li:h2'.IsTupleIter it a (i+1):=o2.1.at λob eb=>by rw[sb.2 it (D8 hne)];exact eb
  have tp:h2'.get? s.heap.objs.size=some { cls :=.type "tuple",data :=.seq #[.int i tk,u] }:=by rw[sb.2 _ (D8 eT)];exact o3
  refine ⟨.ref s.heap.objs.size,upd H s.heap.objs.size (.tup [.int i,v]),I.lq (ch:=[e,it]) f kp2 (λb hb =>?_) (CO _) ?_,rfl,⟨s.heap.objs.size,v,I.hok.fresh (CO _),rfl,rfl,λys hy =>?_⟩,⟨⟨_,e2⟩,li⟩,λb hb =>?_⟩
  ·rcases C9.mp hb with q | q
   ·subst q;exact ⟨_,e2⟩
   ·have q':b=it:=by simpa using q
    subst q'
    obtain ⟨ob,ho,_⟩:=li
    exact ⟨ob,ho⟩
  ·refine ⟨(by show 2<=C6;decide),[.int i tk,u],.cons ⟨_,rfl⟩ (.cons ru .nil),_,tp,⟨rfl,rfl⟩,_,rfl⟩
  ·rw[I.jw hy hs];exact hv
  ·have ne:b≠s.heap.objs.size:=by
    rcases C9.mp hb with q | q
    ·rw[q];exact eT
    ·have q':b=it:=by simpa using q
     rw[q']
     obtain ⟨ob,ho,_⟩:=h2
     exact Dc (C1 ho)
   rw[aD ne]
   exact (f b hb).1
 done:=λX eP eW eK hcalm i pins s σ H E I f ⟨⟨old,h1⟩,h2⟩ stop=>by
  subst eP eW eK
  obtain ⟨xs,hs,hl⟩:=stop
  obtain ⟨its,r,pl,hz⟩:=I.tuple hs
  have l:=r.length
  have hd:X.A.in1.handled=none:=I.ok.hd hcalm
  refine fK (A:=X.A) hd h1 h2 (show s.heap.IsTuple a its.toArray from pl) (by rw[DR];exact E6.mpr (by lia)) λh' ex=>⟨rfl,?_⟩
  obtain ⟨g0,g1,g2,g3,g4,g5⟩:=f it (by simp)
  exact I.turned (it:=it) (h':=h') (t':=s.toks) (λb o ne eb=>ex b o ne eb) g0 g1 g3 g4 g5
 self:=λA i s Q E ⟨⟨old,h1⟩,_⟩ q=>by
  refine HS ⟨_,h1,rfl⟩ GQ (Em GQ ⟨_,h1,rfl⟩ JA ?_ (Jm _))
  show Dh _ _ (ret (.ref e)) _ _ s
  exact CK ⟨_,rfl, "enumerate",_,⟨_,h1,rfl⟩,GR.lookup,q⟩
open PySem PySem.Spec PyProof.Rows
def Cf (K:CM)(ta:TA):TI:=λσ H R=>ta σ H λvs H1=>∃a,vs=[.ref a]/\(((∃xs,SqL K H1 a xs)/\R (Ite K a) H1)\/((∃xs,SqT K H1 a xs)/\R (ItE K a) H1))
section
variable  {X:Cx}
theorem zc {a:Expr}{ta:TA}{p pos pos':Pos}{elts:List Expr}{k:Nat}(hg:Gl X "enumerate")(hm:X.mg "enumerate" = none)(ha:PA X [a] ta)(hs:D6 [a] X.env=[(false,eval a X.env)]:=by rfl) :
  PI X (.Tuple elts k pos') (.Call (.Name "enumerate" p) [a] [] pos) (Cf X.K ta):=by
 intro pins s σ H R I h
 refine Call_ (dD I hg hm boot_enumerate (Eo (thn (ha pos pins s σ H _ I h) λus s1 ⟨vs,H1,I1,r1,q1⟩ =>?_) hs rfl))
 obtain ⟨l,e,q1⟩:=q1
 subst e
 obtain ⟨u,rfl,ru⟩:=vals1 r1
 cases (show u=Dd l from ru)
 have fp:∀b∈[s1.heap.objs.size+1,s1.heap.objs.size],j6 X pins H1 b:=λb hb=>by
  have ge:s1.heap.objs.size<=b:=by
   rcases C9.mp hb with q | q
   ·rw[q];exact Iu _
   ·have q':b=s1.heap.objs.size:=by simpa using q
    rw[q'];exact CO _
  exact I1.wG ge (I1.hok.fresh ge)
 have ne:s1.heap.objs.size+1≠s1.heap.objs.size:=F8 (Et _)
 rcases q1 with ⟨⟨xs,hq⟩,q⟩ | ⟨⟨xs,hq⟩,q⟩
 ·obtain ⟨its,rv,pl,hz⟩:=I1.list hq
  refine call_enumerate_list pl.isList λh' he li _ kp =>?_
  have T:=vo (P:=X.prog) (w:=X.w) (K:=X.K) (elts:=elts) (k:=k) (pos:=pos') l _ _ ne
  refine T.self _ 0 _ _ _ ⟨⟨_,he⟩,li⟩ ?_
  exact ⟨_,_,_,_,H1,rfl,I1.kept (t':=s1.toks) kp,T,⟨⟨_,he⟩,li⟩,fp,q⟩
 ·obtain ⟨its,rv,pl,hz⟩:=I1.tuple hq
  have lt:l<s1.heap.objs.size:=by obtain ⟨o,e,_⟩:=pl;exact C1 e
  refine mO (show s1.heap.IsTuple l its.toArray from pl) λh' he li _ kp =>?_
  have T:=sr (P:=X.prog) (w:=X.w) (K:=X.K) (elts:=elts) (k:=k) (pos:=pos') l _ _ ne (Dc lt) (Dc (DW lt))
  refine T.self _ 0 _ _ _ ⟨⟨_,he⟩,li⟩ ?_
  exact ⟨_,_,_,_,H1,rfl,I1.kept (t':=s1.toks) kp,T,⟨⟨_,he⟩,li⟩,fp,q⟩
end
def ForW (J:It)(g:TG)(tb:TS)(D:Ends)(σ:St)(H:Hp):Prop:=∃W:Nat->Nat->St->Hp->Prop,(∃m,W 0 m σ H)/\∀i m σ H,W i m σ H →
 (J.stop i H/\D.nx σ H)\/(J.go i H/\∃N:St->Hp->Prop,(∀σ' H',N σ' H'->∃m',m'<m/\W (i+1) m' σ' H')/\∀x H',J.yld i H x H'->g x σ H' λσ2 H2=>tb { D with nx:=N,ct:=N,bk:=D.nx } σ2 H2)
theorem vt {K:CM}{a:Addr}{xs:List V}{g:TG}{tb:TS}{D:Ends}{σ:St}{H:Hp}(Pv:Nat->St->Hp->Prop)(h0:Pv 0 σ H)(hl:∀i σ H,i<=xs.length->Pv i σ H->SqL K H a xs)
  (hs:∀i x σ H T,xs[i]? = some x->H T=none->Pv i σ H->g (.ref T) σ (upd H T (.tup [.int i,x])) λσ2 H2=>tb { D with nx:=Pv (i+1),ct:=Pv (i+1),bk:=D.nx } σ2 H2) (hd:∀σ H,Pv xs.length σ H->D.nx σ H):ForW (Ite K a) g tb D σ H:=by
 refine ⟨λi m σ H=>m=xs.length-i/\i<=xs.length/\Pv i σ H,⟨xs.length,by simp,DQ _,h0⟩,?_⟩
 rintro i m σ H ⟨rfl,hi,p⟩
 have q:=hl i σ H hi p
 by_cases hlt:i<xs.length
 ·refine .inr ⟨⟨xs,xs[i],q,by simp[hlt]⟩,Pv (i+1),λσ' H' p'=>⟨xs.length-(i+1),by lia,rfl,hlt,p'⟩,λx H' y =>?_⟩
  obtain ⟨T,v,hT,ex,eH,hv⟩:=y
  subst ex eH
  exact hs i v σ H T (hv xs q) hT p
 ·have e:i=xs.length:=by lia
  subst e
  exact .inl ⟨⟨xs,q,CO _⟩,hd σ H p⟩
end L2
namespace Srt
open PySem PyProof.Rows
def gal:Bool->Dp->Array Dp->Nat->Nat->Nat->StateT DJ Sem (Option Nat):=sortPriv% PySem.Builtin.gallop
def mLo:Array Dp->Array Dp->StateT DJ Sem (Array Dp):=sortPriv% PySem.Builtin.mergeLo
def mHi:Array Dp->Array Dp->StateT DJ Sem (Array Dp):=sortPriv% PySem.Builtin.mergeHi
def mAt:Nat->StateT DJ Sem Bool:=sortPriv% PySem.Builtin.mergeAt
def Ai:StateT DJ Sem Unit:=sortPriv% PySem.Builtin.sortRuns
def A8:Nat->Nat->StateT DJ Sem (Option Nat):=sortPriv% PySem.Builtin.countRun
def wZ:Nat->Nat->Nat->StateT DJ Sem Bool:=sortPriv% PySem.Builtin.binarySort
theorem A9 (lf:Bool)(ky:Dp)(ar:Array Dp)(bs n ht:Nat):gal lf ky ar bs n ht=(do
    let far (i:Nat):StateT DJ Sem (Option Bool):=do
      let z ← elem' ar (bs+i)
      if lf then lt' z ky else return (← lt' ky z).map (!·)
    let mut la:=0;let mut of:=1
    let mut lo:=0;let mut hi:=0
    let some rt ← far ht | return none
    if rt then
      let mx:=n-ht
      for _ in [0:n] do
        if of≥mx then break
        let some mo ← far (ht+of)
          | return none
        if !mo then break
        la:=of;of:=2*of+1
      lo:=ht+la+1;hi:=ht+min of mx
    else
      let mx:=ht+1
      for _ in [0:n] do
        if of≥mx then break
        let some fd ← far (ht-of)
          | return none
        if fd then break
        la:=of;of:=2*of+1
      lo:=ht+1-min of mx;hi:=ht-la
    for _ in [0:n] do
      if lo≥hi then break
      let md:=lo+(hi-lo)/2
      let some mo ← far md | return none
      if mo then lo:=md+1 else hi:=md
    return some hi):=rfl
section
variable  {prog:De}{w:DN}{A:D1}{E:CJ->CN->Prop}{s:CN}
theorem w4 {lf:Bool}{ky:Dp}{ar:Array Dp}{bs n ht:Nat}{st:DJ}{Q:Option Nat->DJ->Prop}(p:Nat->Bool)
    (hf:∀i,i<n->∀(Q:Option Bool->DJ->Prop),Q (some (p i)) st->wpS (DA prog w) A E s (do let z ← elem' ar (bs+i);if lf then lt' z ky else return (← lt' ky z).map (!·)) Q st)
    (hp:∀i j,i<=j->j<n->p j=true->p i=true) (hh:ht<n)
    (h:∀k,k<=n->(∀i,i<k->p i=true)->(∀i,k<=i->i<n->p i=false)->Q (some k) st):wpS (DA prog w) A E s (gal lf ky ar bs n ht) Q st:=by
  rw[A9]
  dsimp only
  refine Df (hf ht hh _ ?_)
  dsimp only
  cases hr:p ht with
  | true =>
    rw[if_pos rfl]
    refine Df (FG (EH (I:=λx c st'=>st=st'/\∃la of,c=(none,la,of)/\la<of/\x+1<=of/\ht+la<n/\p (ht+la)=true)
      (Q:=λc st'=>st=st'/\∃la of,c=(none,la,of)/\la<of/\ht+la<n/\p (ht+la)=true/\(n-ht<=of\/(ht+of<n/\p (ht+of)=false))) ?step ?fin ⟨rfl,0,1,rfl,by lia,by lia,by lia,by simpa using hr⟩) ?post)
    case fin =>
      rintro c st' ⟨rfl,la,of,rfl,b1,b2,b3,b4⟩
      exact ⟨rfl,la,of,rfl,b1,b3,b4,.inl (by lia)⟩
    case step =>
      rintro x c st' _ hx ⟨rfl,la,of,rfl,b1,b2,b3,b4⟩
      dsimp only
      by_cases hge:of≥n-ht
      · rw[if_pos hge]
        exact Dr ⟨rfl,la,of,rfl,b1,b3,b4,.inl hge⟩
      · rw[if_neg hge]
        refine Df (hf _ (by lia) _ ?_)
        dsimp only
        cases hm:p (ht+of) with
        | true =>
          simp only[EU,Dg,if_false]
          exact Dr ⟨rfl,of,2*of+1,rfl,by lia,by lia,by lia,hm⟩
        | false =>
          simp only[J6,if_true]
          exact Dr ⟨rfl,la,of,rfl,b1,b3,b4,.inr ⟨by lia,hm⟩⟩
    case post =>
      rintro c st' ⟨rfl,la,of,rfl,b1,b3,b4,b5⟩
      have h1:(ht+la+1)<=(ht+min of (n-ht)):=by lia
      have h2:(ht+min of (n-ht))<=n:=by lia
      have h3:∀i,i<(ht+la+1)->p i=true:=λi hi=>hp i (ht+la) (by lia) b3 b4
      have h4:∀i,(ht+min of (n-ht))<=i->i<n->p i=false:=λi hi hn=>by
        rcases b5 with b5 | ⟨b5,b6⟩
        · lia
        · cases hpi:p i with
          | false=>rfl
          | true=>rw[hp (ht+of) i (by lia) hn hpi] at b6;cases b6
      dsimp only
      refine Df (FG (EH (I:=λx c st'=>st=st'/\∃lo hi,c=(none,lo,hi)/\lo<=hi/\hi<=n/\hi-lo<=n-x/\(∀i,i<lo->p i=true)/\(∀i,hi<=i->i<n->p i=false))
        (Q:=λc st'=>st=st'/\∃k,c=(none,k,k)/\k<=n/\(∀i,i<k->p i=true)/\(∀i,k<=i->i<n->p i=false)) ?step ?fin ⟨rfl,(ht+la+1),(ht+min of (n-ht)),rfl,h1,h2,by lia,h3,h4⟩) ?post)
      case fin =>
        rintro c st' ⟨rfl,lo,hi,rfl,a1,a2,a3,a4,a5⟩
        have e:lo=hi:=by lia
        subst e
        exact ⟨rfl,lo,rfl,a2,a4,a5⟩
      case post =>
        rintro c st' ⟨rfl,k,rfl,a2,a4,a5⟩
        exact Dr (h k a2 a4 a5)
      case step =>
        rintro x c st' _ hx ⟨rfl,lo,hi,rfl,a1,a2,a3,a4,a5⟩
        dsimp only
        by_cases hge:lo≥hi
        · rw[if_pos hge]
          have e:lo=hi:=by lia
          subst e
          exact Dr ⟨rfl,lo,rfl,a2,a4,a5⟩
        · rw[if_neg hge]
          refine Df (hf _ (by lia) _ ?_)
          dsimp only
          cases hm:p (lo+(hi-lo)/2) with
          | true =>
            rw[if_pos rfl]
            exact Dr ⟨rfl,_,_,rfl,by lia,a2,by lia,λi hi'=>hp i _ (by lia) (by lia) hm,a5⟩
          | false =>
            rw[if_neg (by simp)]
            refine Dr ⟨rfl,_,_,rfl,by lia,by lia,by lia,a4,λi hi' hn =>?_⟩
            cases hpi:p i with
            | false=>rfl
            | true=>rw[hp _ i hi' hn hpi] at hm;cases hm
  | false =>
    rw[if_neg (by simp)]
    refine Df (FG (EH (I:=λx c st'=>st=st'/\∃la of,c=(none,la,of)/\la<of/\x+1<=of/\la<=ht/\p (ht-la)=false)
      (Q:=λc st'=>st=st'/\∃la of,c=(none,la,of)/\la<of/\la<=ht/\p (ht-la)=false/\(ht+1<=of\/(of<=ht/\p (ht-of)=true))) ?step ?fin ⟨rfl,0,1,rfl,by lia,by lia,by lia,by simpa using hr⟩) ?post)
    case fin =>
      rintro c st' ⟨rfl,la,of,rfl,b1,b2,b3,b4⟩
      exact ⟨rfl,la,of,rfl,b1,b3,b4,.inl (by lia)⟩
    case step =>
      rintro x c st' _ hx ⟨rfl,la,of,rfl,b1,b2,b3,b4⟩
      dsimp only
      by_cases hge:of≥ht+1
      · rw[if_pos hge]
        exact Dr ⟨rfl,la,of,rfl,b1,b3,b4,.inl hge⟩
      · rw[if_neg hge]
        refine Df (hf _ (by lia) _ ?_)
        dsimp only
        cases hm:p (ht-of) with
        | true =>
          rw[if_pos rfl]
          exact Dr ⟨rfl,la,of,rfl,b1,b3,b4,.inr ⟨by lia,hm⟩⟩
        | false =>
          rw[if_neg (by simp)]
          exact Dr ⟨rfl,of,2*of+1,rfl,by lia,by lia,by lia,hm⟩
    case post =>
      rintro c st' ⟨rfl,la,of,rfl,b1,b3,b4,b5⟩
      have h1:(ht+1-min of (ht+1))<=(ht-la):=by lia
      have h2:(ht-la)<=n:=by lia
      have h3:∀i,i<(ht+1-min of (ht+1))->p i=true:=λi hi=>by
        rcases b5 with b5 | ⟨b5,b6⟩
        · lia
        · exact hp i (ht-of) (by lia) (by lia) b6
      have h4:∀i,(ht-la)<=i->i<n->p i=false:=λi hi hn=>by
        cases hpi:p i with
        | false=>rfl
        | true=>rw[hp (ht-la) i hi hn hpi] at b4;cases b4
      dsimp only
      refine Df (FG (EH (I:=λx c st'=>st=st'/\∃lo hi,c=(none,lo,hi)/\lo<=hi/\hi<=n/\hi-lo<=n-x/\(∀i,i<lo->p i=true)/\(∀i,hi<=i->i<n->p i=false))
        (Q:=λc st'=>st=st'/\∃k,c=(none,k,k)/\k<=n/\(∀i,i<k->p i=true)/\(∀i,k<=i->i<n->p i=false)) ?step ?fin ⟨rfl,(ht+1-min of (ht+1)),(ht-la),rfl,h1,h2,by lia,h3,h4⟩) ?post)
      case fin =>
        rintro c st' ⟨rfl,lo,hi,rfl,a1,a2,a3,a4,a5⟩
        have e:lo=hi:=by lia
        subst e
        exact ⟨rfl,lo,rfl,a2,a4,a5⟩
      case post =>
        rintro c st' ⟨rfl,k,rfl,a2,a4,a5⟩
        exact Dr (h k a2 a4 a5)
      case step =>
        rintro x c st' _ hx ⟨rfl,lo,hi,rfl,a1,a2,a3,a4,a5⟩
        dsimp only
        by_cases hge:lo≥hi
        · rw[if_pos hge]
          have e:lo=hi:=by lia
          subst e
          exact Dr ⟨rfl,lo,rfl,a2,a4,a5⟩
        · rw[if_neg hge]
          refine Df (hf _ (by lia) _ ?_)
          dsimp only
          cases hm:p (lo+(hi-lo)/2) with
          | true =>
            rw[if_pos rfl]
            exact Dr ⟨rfl,_,_,rfl,by lia,a2,by lia,λi hi'=>hp i _ (by lia) (by lia) hm,a5⟩
          | false =>
            rw[if_neg (by simp)]
            refine Dr ⟨rfl,_,_,rfl,by lia,by lia,by lia,a4,λi hi' hn =>?_⟩
            cases hpi:p i with
            | false=>rfl
            | true=>rw[hp _ i hi' hn hpi] at hm;cases hm
end
open PySem PyProof.Rows
structure Cmp (prog:De)(w:DN)(A:D1)(s:CN)(O:IA)(key:Dp->O.α)(U:Dp->Prop)(κ:SortKind):Prop where
 lt:∀(E:CJ->CN->Prop) (st:DJ) (x y:Dp) (Q:Option Bool->DJ->Prop),kindOf st=κ -> U x->U y->Q (some (O.blt (key x) (key y))) st->wpS (DA prog w) A E s (lt' x y) Q st
section
variable  {prog:De}{w:DN}{A:D1}{E:CJ->CN->Prop}{s:CN}{O:IA}{key:Dp->O.α}{U:Dp->Prop}{κ:SortKind}
theorem bh {ar:Array Dp}{i:Nat}{z:Dp}{st:DJ}{Q:Dp->DJ->Prop}(h:ar[i]? = some z)(hq:Q z st):wpS (DA prog w) A E s (elem' ar i) Q st:=by
 rw[elem'_eq,h]
 exact Dr hq
theorem Ba (C:Cmp prog w A s O key U κ){ky:Dp}{ar:Array Dp}{bs n ht:Nat}{st:DJ}{Q:Option Nat->DJ->Prop}(g:Nat->Dp)(hk:kindOf st=κ)(uk:U ky)
  (hg:∀i,i<n->ar[bs+i]? = some (g i)) (hu:∀i,i<n->U (g i)) (hs:∀i j,i<=j->j<n->O.kle (key (g i)) (key (g j))) (hh:ht<n)
  (h:∀k,k<=n->(∀i,i<k->O.kle (key (g i)) (key ky))->(∀i,k<=i->i<n->O.klt (key ky) (key (g i)))->Q (some k) st):wpS (DA prog w) A E s (gal false ky ar bs n ht) Q st:=by
 refine w4 (λi => !O.blt (key ky) (key (g i))) (λi hi R hr =>?_) (λi j hij hj hp =>?_) hh (λk hk' h1 h2=>h k hk' (λi hi =>?_) λi hi hn =>?_)
 ·refine Df (bh (hg i hi) ?_)
  rw[if_neg (by simp)]
  exact Df (C.lt _ st ky (g i) _ hk uk (hu i hi) (Dr hr))
 ·have a1:O.blt (key ky) (key (g j))=false:=by simpa using hp
  have a2:O.kle (key (g i)) (key ky):=DY (hs i j hij hj) a1
  have a3:O.blt (key ky) (key (g i))=false:=a2
  simp[a3]
 ·have a1:=h1 i hi
  exact (by simpa using a1:O.blt (key ky) (key (g i))=false)
 ·have a1:=h2 i hi hn
  exact (by simpa using a1:O.blt (key ky) (key (g i))=true)
theorem Bb (C:Cmp prog w A s O key U κ){ky:Dp}{ar:Array Dp}{bs n ht:Nat}{st:DJ}{Q:Option Nat->DJ->Prop}(g:Nat->Dp)(hk:kindOf st=κ)(uk:U ky)
  (hg:∀i,i<n->ar[bs+i]? = some (g i)) (hu:∀i,i<n->U (g i)) (hs:∀i j,i<=j->j<n->O.kle (key (g i)) (key (g j))) (hh:ht<n)
  (h:∀k,k<=n->(∀i,i<k->O.klt (key (g i)) (key ky))->(∀i,k<=i->i<n->O.kle (key ky) (key (g i)))->Q (some k) st):wpS (DA prog w) A E s (gal true ky ar bs n ht) Q st:=by
 refine w4 (λi=>O.blt (key (g i)) (key ky)) (λi hi R hr =>?_) (λi j hij hj hp =>?_) hh (λk hk' h1 h2=>h k hk' (λi hi=>h1 i hi) λi hi hn=>h2 i hi hn)
 ·refine Df (bh (hg i hi) ?_)
  rw[if_pos rfl]
  exact C.lt _ st (g i) ky _ hk (hu i hi) uk hr
 ·exact KeyOrd.klt_of_kle_of_klt (hs i j hij hj) hp
end
open PySem PyProof.Rows
section
variable  {O:IA}(key:Dp->O.α)
def Le (p q:Dp):Prop:=O.kle (key p) (key q)
structure MW (a b o:Array Dp)(x y:Nat):Prop where
 hx:x<=a.size
 hy:y<=b.size
 perm:(o.toList++(a.toList.drop x++b.toList.drop y)).Perm (a.toList++b.toList)
 sorted:o.toList.Pairwise (Le key)
 below:∀p∈o.toList,∀z∈a.toList.drop x++b.toList.drop y,Le key p z
def eO (a b r:Array Dp):Prop:=r.toList.Perm (a.toList++b.toList)/\r.toList.Pairwise (Le key)
variable  {key}
theorem MW.fin {a b o:Array Dp}{x y:Nat}(m:MW key a b o x y){t:List Dp}{r:Array Dp}(hr:r.toList=o.toList++t)(ht:t.Perm (a.toList.drop x++b.toList.drop y))(hs:t.Pairwise (Le key)):eO key a b r:=by
 unfold eO
 rw[hr]
 exact ⟨(E9 _ ht).trans m.perm,ET.mpr ⟨m.sorted,hs,λp hp q hq=>m.below p hp q (ht.mem_iff.mp hq)⟩⟩
theorem MW.take {a b o:Array Dp}{x y x' y':Nat}(m:MW key a b o x y){t:List Dp}{r:Array Dp}(hr:r.toList=o.toList++t)(hx:x'<=a.size)(hy:y'<=b.size)
  (ht:(t++(a.toList.drop x'++b.toList.drop y')).Perm (a.toList.drop x++b.toList.drop y)) (hs:t.Pairwise (Le key)) (hb:∀p∈t,∀z∈a.toList.drop x'++b.toList.drop y',Le key p z):MW key a b r x' y':=by
 have sub:∀z,z∈t\/z∈a.toList.drop x'++b.toList.drop y'->z∈a.toList.drop x++b.toList.drop y:=λz hz=>ht.mem_iff.mp (CW.mpr hz)
 refine ⟨hx,hy,?_,?_,?_⟩
 ·rw[hr,DD]
  exact (E9 _ ht).trans m.perm
 ·rw[hr]
  exact ET.mpr ⟨m.sorted,hs,λp hp q hq=>m.below p hp q (sub q (.inl hq))⟩
 ·rw[hr]
  intro p hp z hz
  rcases CW.mp hp with h | h
  ·exact m.below p h z (sub z (.inr hz))
  ·exact hb p h z hz
theorem drop_cons {α:Type}{l:List α}{i:Nat}{z:α}(h:l[i]? = some z):l.drop i=z :: l.drop (i+1):=by
 obtain ⟨hi,e⟩:=CP.mp h
 rw[Gh hi,e]
theorem drop_take {α:Type}(l:List α)(i k:Nat):l.drop i=(l.drop i).take k++l.drop (i+k):=by
 rw[<- LM,EF]
theorem aN {a:Array Dp}{i:Nat}{z:Dp}(h:a[i]? = some z):a.toList[i]? = some z:=by rw[C3];exact h
theorem MW.jX {a b o:Array Dp}{x y:Nat}{z:Dp}(m:MW key a b o x y)(h:a[x]? = some z)(ha:a.toList.Pairwise (Le key))(hb:∀t∈b.toList.drop y,Le key z t):MW key a b (o.push z) (x+1) y:=by
 have e:=drop_cons (aN h)
 have hx:x<a.size:=(E1.mp h).1
 have pa:(z :: a.toList.drop (x+1)).Pairwise (Le key):=by rw[<- e];exact ha.sublist (EA _ _)
 refine m.take (t:=[z]) (by rw[Fy]) hx m.hy (by rw[e];exact Hf _) (FV _ _) λp hp t ht =>?_
 have ep:p=z:=by simpa using hp
 subst ep
 rcases CW.mp ht with q | q
 ·exact (HI.mp pa).1 t q
 ·exact hb t q
theorem MW.nF {a b o:Array Dp}{x y:Nat}{z:Dp}(m:MW key a b o x y)(h:b[y]? = some z)(hb:b.toList.Pairwise (Le key))(ha:∀t∈a.toList.drop x,Le key z t):MW key a b (o.push z) x (y+1):=by
 have e:=drop_cons (aN h)
 have hy:y<b.size:=(E1.mp h).1
 have pb:(z :: b.toList.drop (y+1)).Pairwise (Le key):=by rw[<- e];exact hb.sublist (EA _ _)
 refine m.take (t:=[z]) (by rw[Fy]) m.hx hy (by rw[e,List.singleton_append];exact Lg.symm) (FV _ _) λp hp t ht =>?_
 have ep:p=z:=by simpa using hp
 subst ep
 rcases CW.mp ht with q | q
 ·exact ha t q
 ·exact (HI.mp pb).1 t q
theorem ext_toList (a:Array Dp)(x k:Nat):(a.extract x (x+k)).toList=(a.toList.drop x).take k:=by
 rw[FT,E7,Gz]
theorem gM (a:Array Dp)(x:Nat):(a.extract x a.size).toList=a.toList.drop x:=by
 rw[FT,E7]
 exact C7 (by rw[Es,CV];exact CO _)
theorem aQ {l:List Dp}(h:l.Pairwise (Le key)){i j:Nat}{p q:Dp}(hi:l[i]? = some p)(hj:l[j]? = some q)(hij:i<=j):Le key p q:=by
 by_cases e:i=j
 ·subst e
  rw[hi] at hj
  cases hj
  exact Fi _
 ·obtain ⟨h1,e1⟩:=CP.mp hi
  obtain ⟨h2,e2⟩:=CP.mp hj
  have:=Gi.mp h i j h1 h2 (by lia)
  rw[e1,e2] at this
  exact this
theorem ba {l:List Dp}{i:Nat}{t:Dp}(h:t∈l.drop i):∃j,i<=j/\l[j]? = some t:=by
 obtain ⟨n,e⟩:=DC.mp h
 rw[GN] at e
 exact ⟨i+n,by lia,e⟩
theorem jY {l:List Dp}{i k:Nat}{t:Dp}(h:t∈(l.drop i).take k):∃j,j<k/\l[i+j]? = some t:=by
 obtain ⟨n,e⟩:=DC.mp h
 rw[Eu] at e
 split at e
 ·rw[GN] at e
  exact ⟨n,by omega,e⟩
 ·cases e
theorem MW.w5 {a b o:Array Dp}{x y k:Nat}(m:MW key a b o x y)(hk:x+k<=a.size)(ha:a.toList.Pairwise (Le key))(hb:∀j p,j<k->a.toList[x+j]? = some p->∀t∈b.toList.drop y,Le key p t):MW key a b (o++a.extract x (x+k)) (x+k) y:=by
 refine m.take (t:=(a.toList.drop x).take k) (by rw[DZ,ext_toList]) hk m.hy ?_ ?_ λp hp t ht =>?_
 ·rw[<- DD, <- drop_take]
 ·exact ha.sublist ((Ez _ _).trans (EA _ _))
 ·obtain ⟨j,hj,e⟩:=jY hp
  rcases CW.mp ht with q | q
  ·obtain ⟨i,hi,e2⟩:=ba q
   exact aQ ha e e2 (by lia)
  ·exact hb j p hj e t q
theorem MW.w6 {a b o:Array Dp}{x y k:Nat}(m:MW key a b o x y)(hk:y+k<=b.size)(hb:b.toList.Pairwise (Le key))(ha:∀j p,j<k->b.toList[y+j]? = some p->∀t∈a.toList.drop x,Le key p t):MW key a b (o++b.extract y (y+k)) x (y+k):=by
 refine m.take (t:=(b.toList.drop y).take k) (by rw[DZ,ext_toList]) m.hx hk ?_ ?_ λp hp t ht =>?_
 ·rw[drop_take b.toList y k]
  have e:((b.toList.drop y).take k++b.toList.drop (y+k)).take k=(b.toList.drop y).take k:=by rw[<- drop_take]
  rw[e]
  refine (List.perm_append_comm_assoc _ _ _)
 ·exact hb.sublist ((Ez _ _).trans (EA _ _))
 ·obtain ⟨j,hj,e⟩:=jY hp
  rcases CW.mp ht with q | q
  ·exact ha j p hj e t q
  ·obtain ⟨i,hi,e2⟩:=ba q
   exact aQ hb e e2 (by lia)
theorem MW.vv {a b o:Array Dp}{x y:Nat}(m:MW key a b o x y)(ha:a.toList.Pairwise (Le key))(hy:y=b.size):eO key a b (o++a.extract x a.size++b.extract y b.size):=by
 subst hy
 have e:b.toList.drop b.size=[]:=JB (by rw[CV];exact CO _)
 refine m.fin (t:=a.toList.drop x) (by rw[DZ,DZ,gM,gM,e,DU]) (by rw[e,DU]) (ha.sublist (EA _ _))
theorem MW.vw {a b o:Array Dp}{x y:Nat}(m:MW key a b o x y)(hb:b.toList.Pairwise (Le key))(hx:x=a.size):eO key a b (o++a.extract x a.size++b.extract y b.size):=by
 subst hx
 have e:a.toList.drop a.size=[]:=JB (by rw[CV];exact CO _)
 refine m.fin (t:=b.toList.drop y) (by rw[DZ,DZ,gM,gM,e,DU]) (by rw[e,HG]) (hb.sublist (EA _ _))
theorem MW.last {a b o:Array Dp}{x y:Nat}(m:MW key a b o x y)(ha:a.toList.Pairwise (Le key))(hb:b.toList.Pairwise (Le key))(hx:x+1=a.size)(hl:∀p q,p∈b.toList->a[a.size-1]? = some q->Le key p q):eO key a b (o++b.extract y b.size++a.extract x a.size):=by
 refine m.fin (t:=b.toList.drop y++a.toList.drop x) (by rw[DZ,DZ,gM,gM,DD]) FI ?_
 refine ET.mpr ⟨hb.sublist (EA _ _),ha.sublist (EA _ _),λp hp q hq=>hl p q (Ha hp) ?_⟩
 obtain ⟨i,hi,e⟩:=ba hq
 rw[C3] at e
 have hi2:i<a.size:=(E1.mp e).1
 rw[show a.size-1=i by lia]
 exact e
theorem MW.size {a b o:Array Dp}{x y:Nat}(m:MW key a b o x y):o.size+(a.size-x)+(b.size-y)=a.size+b.size:=by
 have e:=m.perm.length_eq
 simp only[CL,Es,CV] at e
 lia
end
structure Sm (st st':DJ):Prop where
 k:kindOf st'=kindOf st
 a:Dw st'=Dw st
 p:DF st'=DF st
 f:failedOf st'=failedOf st
theorem Sm.refl (st:DJ):Sm st st:=⟨rfl,rfl,rfl,rfl⟩
theorem Sm.mg {st st':DJ}(h:Sm st st')(n:Nat):Sm st (SortSt.mk' (kindOf st') (Dw st') (DF st') n (failedOf st')):=⟨h.k,h.a,h.p,h.f⟩
open PySem PyProof.Rows
section
variable  {prog:De}{w:DN}{A:D1}{E:CJ->CN->Prop}{s:CN}{O:IA}{key:Dp->O.α}{U:Dp->Prop}{κ:SortKind}
theorem bp {a:Array Dp}{i:Nat}(h:i<a.size):∃z,a[i]? = some z:=⟨a[i],by simp[h]⟩
theorem cg {a:Array Dp}{i:Nat}{z:Dp}(h:a[i]? = some z):z∈a.toList:=DC.mpr ⟨i,by rw[C3];exact h⟩
theorem ltq {x n:Nat}(h:x<=n)(c:¬ (x == n)=true):x<n:=Kr h λz=>c (beq_iff_eq.mpr z)
abbrev LoC:=Option (Array Dp)×Array Dp×Nat×Nat×Nat×Nat×Nat
def zd (a b o:Array Dp)(x y mg ac bc:Nat):StateT DJ Sem (ForInStep LoC):=do
  let z ← elem' a x
  if (x+1+1 == a.size)=true then pure (.done (some (o.push z++b.extract y b.size++a.extract (x+1) a.size),o.push z,x+1,y,mg,ac,bc))
  else if (decide (ac<7) && decide (bc<7))=true then pure (.done (none,o.push z,x+1,y,mg,ac,bc))
  else pure (.yield (none,o.push z,x+1,y,mg,ac,bc))
def ze (a b o:Array Dp)(x y mg ac bc:Nat):StateT DJ Sem (ForInStep LoC):=do
  let z ← elem' b y
  if (y+1 == b.size)=true then pure (.done (some (o.push z++a.extract x a.size++b.extract (y+1) b.size),o.push z,x,y+1,mg,ac,bc))
  else do
    let z2 ← elem' a x
    let __x ← gal true z2 b (y+1) (b.size-(y+1)) 0
    match __x with
    | some k =>
      if k>0 then
        if (y+1+k == b.size)=true then pure (.done (some (o.push z++b.extract (y+1) (y+1+k)++a.extract x a.size++b.extract (y+1+k) b.size),o.push z++b.extract (y+1) (y+1+k),x,y+1+k,mg,ac,k))
        else zd a b (o.push z++b.extract (y+1) (y+1+k)) x (y+1+k) mg ac k
      else zd a b (o.push z) x (y+1) mg ac k
    | _=>pure (.done (some (o.push z++a.extract x a.size++b.extract (y+1) b.size),o.push z,x,y+1,mg,ac,bc))
def vx (a b p:Array Dp)(x y ac bc mg:Nat):StateT DJ Sem (ForInStep LoC):=do
  modify (λs=>SortSt.mk' (kindOf s) (Dw s) (DF s) mg (failedOf s))
  let z ← elem' b y
  let __x ← gal false z a x (a.size-x) 0
  match __x with
  | some k =>
    if k>0 then
      if (x+k+1 == a.size)=true then pure (.done (some (p++a.extract x (x+k)++b.extract y b.size++a.extract (x+k) a.size),p++a.extract x (x+k),x+k,y,mg,k,bc))
      else if (x+k == a.size)=true then pure (.done (some (p++a.extract x (x+k)++a.extract (x+k) a.size++b.extract y b.size),p++a.extract x (x+k),x+k,y,mg,k,bc))
      else ze a b (p++a.extract x (x+k)) (x+k) y mg k bc
    else ze a b p x y mg k bc
  | _=>pure (.done (some (p++a.extract x a.size++b.extract y b.size),p,x,y,mg,ac,bc))
def LoQ (key:Dp->O.α)(a b:Array Dp)(st:DJ)(n:Nat)(r:ForInStep LoC)(st':DJ):Prop:=match r with
 | .done c=>Sm st st'/\((∃r p x y mg ac bc,c=(some r,p,x,y,mg,ac,bc)/\eO key a b r)\/∃p x y mg ac bc,c=(none,p,x,y,mg,ac,bc)/\MW key a b p x y/\x+1<a.size/\y<b.size/\n<=p.size)
 | .yield c=>Sm st st'/\∃p x y mg ac bc,c=(none,p,x,y,mg,ac,bc)/\MW key a b p x y/\x+1<a.size/\y<b.size/\n<=p.size
theorem LoQ.out {a b:Array Dp}{st st':DJ}{n:Nat}{r:Array Dp}{c:Array Dp×Nat×Nat×Nat×Nat×Nat}(sm:Sm st st')(f:eO key a b r):LoQ key a b st n (.done (some r,c)) st':=by
 obtain ⟨p,x,y,mg,ac,bc⟩:=c
 exact ⟨sm,.inl ⟨_,_,_,_,_,_,_,rfl,f⟩⟩
theorem t8 {a b:Array Dp}{st st':DJ}(ha:a.toList.Pairwise (Le key))(hb:b.toList.Pairwise (Le key))(hl:∀p q,p∈b.toList->a[a.size-1]? = some q->Le key p q)
  {o:Array Dp} {x y mg ac bc n:Nat} {za:Dp} (sm:Sm st st') (ea:a[x]? = some za) (m4:MW key a b (o.push za) (x+1) y) (hx:x+1<a.size) (hy:y<b.size) (hn:n<=o.size):wpS (DA prog w) A E s (zd a b o x y mg ac bc) (LoQ key a b st n) st':=by
 unfold zd
 refine Df (bh ea ?_)
 by_cases d5:(x+1+1 == a.size)=true
 ·rw[if_pos d5]
  exact Dr (LoQ.out sm (m4.last ha hb (beq_iff_eq.mp d5) hl))
 rw[if_neg d5]
 have hx2:x+1+1<a.size:=ltq hx d5
 have hn':n<=(o.push za).size:=by rw[Gp];exact G1 hn
 split
 ·exact Dr ⟨sm,.inr ⟨_,_,_,_,_,_,rfl,m4,hx2,hy,hn'⟩⟩
 ·exact Dr ⟨sm,_,_,_,_,_,_,rfl,m4,hx2,hy,hn'⟩
theorem t9 (C:Cmp prog w A s O key U κ){a b:Array Dp}{st st':DJ}(hκ:kindOf st=κ)(ua:∀p∈a.toList,U p)(ub:∀p∈b.toList,U p)
  (ha:a.toList.Pairwise (Le key)) (hb:b.toList.Pairwise (Le key)) (hl:∀p q,p∈b.toList->a[a.size-1]? = some q->Le key p q)
  {o:Array Dp} {x y mg ac bc n:Nat} {zb:Dp} (sm:Sm st st') (eb:b[y]? = some zb) (mk:MW key a b o x y) (bl:∀t∈a.toList.drop x,Le key zb t) (hx1:x+1<a.size) (hy:y<b.size) (hn:n<=o.size):wpS (DA prog w) A E s (ze a b o x y mg ac bc) (LoQ key a b st n) st':=by
 unfold ze
 refine Df (bh eb ?_)
 have m2:=mk.nF eb hb bl
 by_cases d3:(y+1 == b.size)=true
 ·rw[if_pos d3]
  exact Dr (LoQ.out sm (m2.vv ha (beq_iff_eq.mp d3)))
 rw[if_neg d3]
 have hy1:y+1<b.size:=ltq hy d3
 have hxa:x<a.size:=Fz hx1
 obtain ⟨za,ea⟩:=bp hxa
 refine Df (bh ea ?_)
 refine Df (Bb C (λi=>(b[y+1+i]?).getD za) (sm.k.trans hκ) (ua _ (cg ea)) (λi hi =>?_) (λi hi =>?_) (λi j hij hj =>?_) (KR hy1) λk1 hk1 g1 g2 =>?_)
 ·obtain ⟨z,e⟩:=bp (show y+1+i<b.size by omega)
  rw[e];rfl
 ·obtain ⟨z,e⟩:=bp (show y+1+i<b.size by omega)
  rw[e];exact ub _ (cg e)
 ·obtain ⟨z,e⟩:=bp (show y+1+i<b.size by omega)
  obtain ⟨z',e'⟩:=bp (show y+1+j<b.size by omega)
  rw[e,e'];exact aQ hb (aN e) (aN e') (Hm hij _)
 dsimp only at g1 g2 ⊢
 have tb:∀j q,j<k1->b.toList[y+1+j]? = some q->∀t∈a.toList.drop x,Le key q t:=λj q hj e t ht=>by
  have z:=g1 j hj
  rw[C3] at e
  rw[e] at z
  obtain ⟨n,hn,e2⟩:=ba ht
  exact DY (ER z) (aQ ha (aN ea) e2 hn)
 have hk1':y+1+k1<=b.size:=by omega
 have m3:=m2.w6 (k:=k1) hk1' hb tb
 have bl2:∀t∈b.toList.drop (y+1+k1),Le key za t:=λt ht=>by
  obtain ⟨n,hn,e2⟩:=ba ht
  rw[C3] at e2
  have hn2:n<b.size:=(E1.mp e2).1
  have z:=g2 (n-(y+1)) (by omega) (by omega)
  rw[show y+1+(n-(y+1))=n by omega,e2] at z
  exact z
 have hn1:n<=(o.push zb).size:=by rw[Gp];exact G1 hn
 by_cases k2:k1>0
 ·rw[if_pos k2]
  by_cases d4:(y+1+k1 == b.size)=true
  ·rw[if_pos d4]
   exact Dr (LoQ.out sm (m3.vv ha (beq_iff_eq.mp d4)))
  rw[if_neg d4]
  exact t8 ha hb hl sm ea (m3.jX ea ha bl2) hx1 (ltq hk1' d4) (DT hn1 (by rw[G3];exact FP _ _))
 ·rw[if_neg k2]
  obtain rfl:k1=0:=GK k2
  exact t8 ha hb hl sm ea (m2.jX ea ha bl2) hx1 hy1 hn1
theorem uc (C:Cmp prog w A s O key U κ){a b:Array Dp}{st st':DJ}(hκ:kindOf st=κ)(ua:∀p∈a.toList,U p)(ub:∀p∈b.toList,U p)
  (ha:a.toList.Pairwise (Le key)) (hb:b.toList.Pairwise (Le key)) (hl:∀p q,p∈b.toList->a[a.size-1]? = some q->Le key p q)
  {p:Array Dp} {x y ac bc n:Nat} (mg:Nat) (sm:Sm st st') (m:MW key a b p x y) (hx:x+1<a.size) (hy:y<b.size) (hn:n<=p.size):wpS (DA prog w) A E s (vx a b p x y ac bc mg) (LoQ key a b st n) st':=by
 unfold vx
 obtain ⟨zb,eb⟩:=bp hy
 refine Df (FX ?_)
 refine Df (bh eb ?_)
 refine Df (Ba C (λi=>(a[x+i]?).getD zb) ((sm.mg _).k.trans hκ) (ub _ (cg eb)) (λi hi =>?_) (λi hi =>?_) (λi j hij hj =>?_) (KR (Fz hx)) λk hk h1 h2 =>?_)
 ·obtain ⟨z,e⟩:=bp (show x+i<a.size by lia)
  rw[e];rfl
 ·obtain ⟨z,e⟩:=bp (show x+i<a.size by lia)
  rw[e];exact ua _ (cg e)
 ·obtain ⟨z,e⟩:=bp (show x+i<a.size by lia)
  obtain ⟨z',e'⟩:=bp (show x+j<a.size by lia)
  rw[e,e'];exact aQ ha (aN e) (aN e') (Hm hij _)
 dsimp only at h1 h2 ⊢
 have ta:∀j q,j<k->a.toList[x+j]? = some q->∀t∈b.toList.drop y,Le key q t:=λj q hj e t ht=>by
  have z:=h1 j hj
  rw[C3] at e
  rw[e] at z
  obtain ⟨n,hn,e2⟩:=ba ht
  exact DY (show O.kle (key q) (key zb) from z) (aQ hb (aN eb) e2 hn)
 have hk':x+k<=a.size:=by lia
 have mk:=m.w5 (k:=k) hk' ha ta
 have bl:∀t∈a.toList.drop (x+k),Le key zb t:=λt ht=>by
  obtain ⟨n,hn,e2⟩:=ba ht
  rw[C3] at e2
  have hn2:n<a.size:=(E1.mp e2).1
  have z:=h2 (n-x) (by lia) (by lia)
  rw[show x+(n-x)=n by lia,e2] at z
  exact ER z
 by_cases k0:k>0
 ·rw[if_pos k0]
  by_cases d1:(x+k+1 == a.size)=true
  ·rw[if_pos d1]
   exact Dr (LoQ.out (sm.mg _) (mk.last ha hb (beq_iff_eq.mp d1) hl))
  rw[if_neg d1]
  by_cases d2:(x+k == a.size)=true
  ·rw[if_pos d2]
   exact Dr (LoQ.out (sm.mg _) (mk.vw hb (beq_iff_eq.mp d2)))
  rw[if_neg d2]
  exact t9 C hκ ua ub ha hb hl (sm.mg _) eb mk bl (ltq (ltq hk' d2) d1) hy (DT hn (by rw[G3];exact FP _ _))
 ·rw[if_neg k0]
  obtain rfl:k=0:=GK k0
  exact t9 C hκ ua ub ha hb hl (sm.mg _) eb m bl hx hy hn
theorem zf (C:Cmp prog w A s O key U κ){a b:Array Dp}{st st':DJ}(hκ:kindOf st=κ)(ua:∀p∈a.toList,U p)(ub:∀p∈b.toList,U p)
  (ha:a.toList.Pairwise (Le key)) (hb:b.toList.Pairwise (Le key)) (hl:∀p q,p∈b.toList->a[a.size-1]? = some q->Le key p q)
  {p:Array Dp} {x y ac bc n mg:Nat} (sm:Sm st st') (m:MW key a b p x y) (hx:x+1<a.size) (hy:y<b.size) (hn:n<=p.size):wpS (DA prog w) A E s (if mg>1 then vx a b p x y ac bc (mg-1) else vx a b p x y ac bc mg) (LoQ key a b st n) st':=by
 split
 ·exact uc C hκ ua ub ha hb hl (mg-1) sm m hx hy hn
 ·exact uc C hκ ua ub ha hb hl mg sm m hx hy hn
abbrev LoD:=Option (Array Dp)×Array Dp×Nat×Nat×Nat×Nat
abbrev LoE:=Option (Array Dp)×Array Dp×Nat×Nat×Nat
def w9 (a b:Array Dp)(mg:Nat)(c:LoD):StateT DJ Sem (ForInStep LoD):=do
  let u ← elem' b c.2.2.2.1
  let v ← elem' a c.2.2.1
  let __x ← lt' u v
  match __x with
  | some bw =>
    if bw=true then do
      let z ← elem' b c.2.2.2.1
      if (c.2.2.2.1+1 == b.size)=true then pure (.done (some (c.2.1.push z++a.extract c.2.2.1 a.size++b.extract (c.2.2.2.1+1) b.size),c.2.1.push z,c.2.2.1,c.2.2.2.1+1,0,c.2.2.2.2.2+1))
      else if c.2.2.2.2.2+1≥mg then pure (.done (none,c.2.1.push z,c.2.2.1,c.2.2.2.1+1,0,c.2.2.2.2.2+1))
      else pure (.yield (none,c.2.1.push z,c.2.2.1,c.2.2.2.1+1,0,c.2.2.2.2.2+1))
    else do
      let z ← elem' a c.2.2.1
      if (c.2.2.1+1+1 == a.size)=true then pure (.done (some (c.2.1.push z++b.extract c.2.2.2.1 b.size++a.extract (c.2.2.1+1) a.size),c.2.1.push z,c.2.2.1+1,c.2.2.2.1,c.2.2.2.2.1+1,0))
      else if c.2.2.2.2.1+1≥mg then pure (.done (none,c.2.1.push z,c.2.2.1+1,c.2.2.2.1,c.2.2.2.2.1+1,0))
      else pure (.yield (none,c.2.1.push z,c.2.2.1+1,c.2.2.2.1,c.2.2.2.2.1+1,0))
  | _=>pure (.done (some (c.2.1++a.extract c.2.2.1 a.size++b.extract c.2.2.2.1 b.size),c.2.1,c.2.2.1,c.2.2.2.1,c.2.2.2.2.1,c.2.2.2.2.2))
def Bc (a b:Array Dp)(c:LoC):StateT DJ Sem (ForInStep LoC) :=
 if c.2.2.2.2.1>1 then vx a b c.2.1 c.2.2.1 c.2.2.2.1 c.2.2.2.2.2.1 c.2.2.2.2.2.2 (c.2.2.2.2.1-1) else vx a b c.2.1 c.2.2.1 c.2.2.2.1 c.2.2.2.2.2.1 c.2.2.2.2.2.2 c.2.2.2.2.1
def su (a b:Array Dp)(c:LoE):StateT DJ Sem (ForInStep LoE):=do
  let d ← forIn [0:a.size+b.size] ((none,c.2.1,c.2.2.1,c.2.2.2.1,0,0):LoD) λ_ d=>w9 a b c.2.2.2.2 d
  match d.1 with
  | some r=>pure (.done (some r,d.2.1,d.2.2.1,d.2.2.2.1,c.2.2.2.2))
  | none=>do
    rule "list.sort.gallop"
    let e ← forIn [0:a.size+b.size] ((none,d.2.1,d.2.2.1,d.2.2.2.1,c.2.2.2.2+1,d.2.2.2.2.1,d.2.2.2.2.2):LoC) λ_ e=>Bc a b e
    match e.1 with
    | some r=>pure (.done (some r,e.2.1,e.2.2.1,e.2.2.2.1,e.2.2.2.2.1))
    | none=>do
      modify (λs=>SortSt.mk' (kindOf s) (Dw s) (DF s) (e.2.2.2.2.1+1) (failedOf s))
      pure (.yield (none,e.2.1,e.2.2.1,e.2.2.2.1,e.2.2.2.2.1+1))
theorem zg (a b:Array Dp):mLo a b=(do
    rule "list.sort.merge-lo"
    let z ← elem' b 0
    if (1 == b.size)=true then pure (#[z]++a.extract 0 a.size++b.extract 1 b.size)
    else if (0+1 == a.size)=true then pure (#[z]++b.extract 1 b.size++a.extract 0 a.size)
    else do
      let g ← get
      let c ← forIn [0:a.size+b.size] ((none, #[z],0,1,gallopOf g):LoE) λ_ c=>su a b c
      match c.1 with
      | some r=>pure r
      | none=>unsupported "internal:list.sort.merge-bound"):=by
  kernel_rfl
def LdI (key:Dp->O.α)(a b:Array Dp)(st:DJ)(n:Nat)(c:LoD)(st':DJ):Prop:=Sm st st'/\∃o' x y ac bc,c=(none,o',x,y,ac,bc)/\MW key a b o' x y/\x+1<a.size/\y<b.size/\n<=o'.size
def LdQ (key:Dp->O.α)(a b:Array Dp)(st:DJ)(n:Nat)(c:LoD)(st':DJ):Prop:=Sm st st'/\((∃r o x y ac bc,c=(some r,o,x,y,ac,bc)/\eO key a b r)\/∃o' x y ac bc,c=(none,o',x,y,ac,bc)/\MW key a b o' x y/\x+1<a.size/\y<b.size/\n<=o'.size)
theorem xc (C:Cmp prog w A s O key U κ){a b:Array Dp}{st st':DJ}(hκ:kindOf st=κ)(ua:∀p∈a.toList,U p)(ub:∀p∈b.toList,U p)
  (ha:a.toList.Pairwise (Le key)) (hb:b.toList.Pairwise (Le key)) (hl:∀p q,p∈b.toList->a[a.size-1]? = some q->Le key p q)
  {mg n m':Nat} {c:LoD} (I:LdI key a b st n c st') (hm:m'<=n+1) {Q:ForInStep LoD->DJ->Prop} (h:∀r st',(match r with | .done c'=>LdQ key a b st (n+1) c' st' | .yield c'=>LdI key a b st m' c' st')->Q r st'):wpS (DA prog w) A E s (w9 a b mg c) Q st':=by
 obtain ⟨sm2,o',x,y,ac,bc,rfl,m,hx,hy,hz⟩:=I
 unfold w9
 obtain ⟨za,ea⟩:=bp (Fz hx)
 obtain ⟨zb,eb⟩:=bp hy
 refine Df (bh eb (Df (bh ea (Df (C.lt _ st' zb za _ (sm2.k.trans hκ) (ub _ (cg eb)) (ua _ (cg ea)) ?_)))))
 dsimp only
 have sz:∀z,n+1<=(o'.push z).size:=λz=>by rw[Gp];exact Js hz
 cases hlt:O.blt (key zb) (key za) with
 | true =>
  rw[if_pos rfl]
  refine Df (bh eb ?_)
  have m1:=m.nF eb hb λt ht=>by
   obtain ⟨n,hn,e⟩:=ba ht
   exact DY (ER hlt) (aQ ha (aN ea) e hn)
  by_cases c3:(y+1 == b.size)=true
  ·rw[if_pos c3]
   exact Dr (h _ _ ⟨sm2,.inl ⟨_,_,_,_,_,_,rfl,m1.vv ha (beq_iff_eq.mp c3)⟩⟩)
  ·rw[if_neg c3]
   have c3':=ltq hy c3
   split
   ·exact Dr (h _ _ ⟨sm2,.inr ⟨_,_,_,_,_,rfl,m1,hx,c3',sz _⟩⟩)
   ·exact Dr (h _ _ ⟨sm2,_,_,_,_,_,rfl,m1,hx,c3',DT hm (sz _)⟩)
 | false =>
  rw[if_neg C8]
  refine Df (bh ea ?_)
  have m1:=m.jX ea ha λt ht=>by
   obtain ⟨n,hn,e⟩:=ba ht
   exact DY (show O.kle (key za) (key zb) from hlt) (aQ hb (aN eb) e hn)
  by_cases c3:(x+1+1 == a.size)=true
  ·rw[if_pos c3]
   exact Dr (h _ _ ⟨sm2,.inl ⟨_,_,_,_,_,_,rfl,m1.last ha hb (beq_iff_eq.mp c3) hl⟩⟩)
  ·rw[if_neg c3]
   have c3':=ltq hx c3
   split
   ·exact Dr (h _ _ ⟨sm2,.inr ⟨_,_,_,_,_,rfl,m1,c3',hy,sz _⟩⟩)
   ·exact Dr (h _ _ ⟨sm2,_,_,_,_,_,rfl,m1,c3',hy,DT hm (sz _)⟩)
def LeI (key:Dp->O.α)(a b:Array Dp)(st:DJ)(n:Nat)(c:LoE)(st':DJ):Prop:=Sm st st'/\∃o x y mg,c=(none,o,x,y,mg)/\MW key a b o x y/\x+1<a.size/\y<b.size/\n+1<=o.size
def LeQ (key:Dp->O.α)(a b:Array Dp)(st:DJ)(c:LoE)(st':DJ):Prop:=Sm st st'/\((∃r o x y mg,c=(some r,o,x,y,mg)/\eO key a b r)\/∃o x y mg,c=(none,o,x,y,mg)/\MW key a b o x y/\x+1<a.size/\y<b.size/\a.size+b.size+1<=o.size)
theorem vy (C:Cmp prog w A s O key U κ){a b:Array Dp}{st st':DJ}(hκ:kindOf st=κ)(ua:∀p∈a.toList,U p)(ub:∀p∈b.toList,U p)
  (ha:a.toList.Pairwise (Le key)) (hb:b.toList.Pairwise (Le key)) (na:0<a.size) (hl:∀p q,p∈b.toList->a[a.size-1]? = some q->Le key p q)
  {n:Nat} {c:LoE} (I:LeI key a b st n c st'):wpS (DA prog w) A E s (su a b c) (λr st'=>match r with | .done c'=>LeQ key a b st c' st' | .yield c'=>LeI key a b st (n+1) c' st') st':=by
 obtain ⟨sm1,o,x,y,mg,rfl,m,hx,hy,hz⟩:=I
 unfold su
 have q1:1<=a.size+b.size:=DT na (FP _ _)
 refine Df (FG (EH (I:=λj c st'=>LdI key a b st (o.size+min j 1) c st') (Q:=LdQ key a b st (o.size+1)) (λj c st2 _ hj J=>xc (n:=o.size+min j 1) (m':=o.size+min (j+1) 1) C hκ ua ub ha hb hl J (by lia) λr st' k =>?_) (λc st' J =>?_) ⟨sm1,o,x,y,0,0,rfl,m,hx,hy,CO _⟩) ?_)
 ·cases r with
  | done c'=>exact k.imp id λz=>z.imp id λ⟨o',x,y,ac,bc,e,m,hx,hy,hz⟩=>⟨o',x,y,ac,bc,e,m,hx,hy,by lia⟩
  | yield c'=>exact k
 ·obtain ⟨sm,o',x,y,ac,bc,e,m,hx,hy,hz⟩:=J
  exact ⟨sm,.inr ⟨o',x,y,ac,bc,e,m,hx,hy,by lia⟩⟩
 rintro c st2 ⟨sm2,⟨r,o',x,y,ac,bc,rfl,fr⟩ | ⟨o',x,y,ac,bc,rfl,m,hx,hy,hz2⟩⟩
 ·exact Dr ⟨sm2,.inl ⟨_,_,_,_,_,rfl,fr⟩⟩
 dsimp only
 refine Df (Jr (FE ⟨rfl,?_⟩))
 refine Df (FG (EH (I:=λ_ c st'=>LoQ key a b st o'.size (.yield c) st') (Q:=λc st'=>LoQ key a b st o'.size (.done c) st') (λj c st3 _ hj J =>?_) (λc st' J=>⟨J.1,.inr J.2⟩) ⟨sm2,o',x,y,_,ac,bc,rfl,m,hx,hy,CO _⟩) ?_)
 ·obtain ⟨sm3,p,x,y,mg,ac,bc,rfl,m,hx,hy,hz3⟩:=J
  refine FG (zf C hκ ua ub ha hb hl sm3 m hx hy hz3) ?_
  intro r st' h
  cases r <;> exact h
 rintro c st3 ⟨sm3,⟨r,p,x,y,mg,ac,bc,rfl,fr⟩ | ⟨p,x,y,mg,ac,bc,rfl,m,hx,hy,hz3⟩⟩
 ·exact Dr ⟨sm3,.inl ⟨_,_,_,_,_,rfl,fr⟩⟩
 ·dsimp only
  exact Df (FX (Dr ⟨sm3.mg _,p,x,y,_,rfl,m,hx,hy,by lia⟩))
theorem Bd (C:Cmp prog w A s O key U κ){a b:Array Dp}{st:DJ}{Q:Array Dp->DJ->Prop}(hκ:kindOf st=κ)(ua:∀p∈a.toList,U p)(ub:∀p∈b.toList,U p)
  (ha:a.toList.Pairwise (Le key)) (hb:b.toList.Pairwise (Le key)) (na:0<a.size) (nb:0<b.size) (h0:∀p q,b[0]? = some p->a[0]? = some q->Le key p q) (hl:∀p q,p∈b.toList->a[a.size-1]? = some q->Le key p q)
  (h:∀r st',Sm st st'->eO key a b r->Q r st'):wpS (DA prog w) A E s (mLo a b) Q st:=by
 rw[zg]
 refine Df (Jr (FE ⟨rfl,?_⟩))
 obtain ⟨b0,eb0⟩:=bp nb
 obtain ⟨a0,ea0⟩:=bp na
 have a0le:∀t∈a.toList,Le key a0 t:=λt ht=>by
  obtain ⟨i,e⟩:=DC.mp ht
  exact aQ ha (aN ea0) e (DQ _)
 have m0:MW key a b #[] 0 0:=⟨DQ _,DQ _,Hf _,List.Pairwise.nil,λp hp=>by cases hp⟩
 have m1:MW key a b #[b0] 0 1:=m0.nF eb0 hb λt ht=>DY (h0 _ _ eb0 ea0) (a0le t ht)
 refine Df (bh eb0 ?_)
 by_cases c1:(1 == b.size)=true
 ·rw[if_pos c1]
  exact Dr (h _ st (Sm.refl st) (m1.vv ha (beq_iff_eq.mp c1)))
 rw[if_neg c1]
 by_cases c2:(0+1 == a.size)=true
 ·rw[if_pos c2]
  exact Dr (h _ st (Sm.refl st) (m1.last ha hb (beq_iff_eq.mp c2) hl))
 rw[if_neg c2]
 refine Df (Ja ?_)
 refine Df (FG (EH (I:=λi c st'=>LeI key a b st i c st') (Q:=LeQ key a b st) (λi c st1 _ _ J=>FG (vy C hκ ua ub ha hb na hl J) λr st' h=>by cases r <;> exact h) (λc st' J =>?_) ⟨Sm.refl st,_,_,_,_,rfl,m1,ltq na c2,ltq nb c1,CO _⟩) ?_)
 ·obtain ⟨sm,o,x,y,mg,e,m,hx,hy,hz⟩:=J
  exact ⟨sm,.inr ⟨o,x,y,mg,e,m,hx,hy,by lia⟩⟩
 rintro c st' ⟨sm,⟨r,o,x,y,mg,rfl,fr⟩ | ⟨o,x,y,mg,rfl,m,hx,hy,hz⟩⟩
 ·exact Dr (h r st' sm fr)
 ·have:=m.size
  lia
end
open PySem PyProof.Rows
section
variable  {O:IA}(key:Dp->O.α)
structure MV (a b o:Array Dp)(x y:Nat):Prop where
 hx:x<=a.size
 hy:y<=b.size
 perm:((a.toList.take x++b.toList.take y)++o.toList.reverse).Perm (a.toList++b.toList)
 sorted:o.toList.reverse.Pairwise (Le key)
 above:∀p∈a.toList.take x++b.toList.take y,∀q∈o.toList.reverse,Le key p q
variable  {key}
theorem MV.fin {a b o:Array Dp}{x y:Nat}(m:MV key a b o x y){t:List Dp}{r:Array Dp}(hr:r.toList=t++o.toList.reverse)(ht:t.Perm (a.toList.take x++b.toList.take y))(hs:t.Pairwise (Le key)):eO key a b r:=by
 unfold eO
 rw[hr]
 exact ⟨(F1 _ ht).trans m.perm,ET.mpr ⟨hs,m.sorted,λp hp q hq=>m.above p (ht.mem_iff.mp hp) q hq⟩⟩
theorem MV.take {a b o:Array Dp}{x y x' y':Nat}(m:MV key a b o x y){t:List Dp}{r:Array Dp}(hr:r.toList.reverse=t++o.toList.reverse)(hx:x'<=a.size)(hy:y'<=b.size)
  (ht:((a.toList.take x'++b.toList.take y')++t).Perm (a.toList.take x++b.toList.take y)) (hs:t.Pairwise (Le key)) (hb:∀p∈a.toList.take x'++b.toList.take y',∀q∈t,Le key p q):MV key a b r x' y':=by
 have sub:∀z,z∈a.toList.take x'++b.toList.take y'\/z∈t->z∈a.toList.take x++b.toList.take y:=λz hz=>ht.mem_iff.mp (CW.mpr hz)
 refine ⟨hx,hy,?_,?_,?_⟩
 ·rw[hr, <- DD]
  exact (F1 _ ht).trans m.perm
 ·rw[hr]
  exact ET.mpr ⟨hs,m.sorted,λp hp q hq=>m.above p (sub p (.inr hp)) q hq⟩
 ·rw[hr]
  intro p hp z hz
  rcases CW.mp hz with h | h
  ·exact hb p hp z h
  ·exact m.above p (sub p (.inl hp)) z h
theorem bq {l:List Dp}{k:Nat}{t:Dp}(h:t∈l.take k):∃j,j<k/\l[j]? = some t:=by
 obtain ⟨n,e⟩:=DC.mp h
 rw[Eu] at e
 split at e
 ·exact ⟨n,by omega,e⟩
 ·cases e
theorem nH {l:List Dp}{x:Nat}{z:Dp}(hx:1<=x)(h:l[x-1]? = some z):l.take x=l.take (x-1)++[z]:=by
 obtain ⟨n,rfl⟩:∃n,x=n+1:=⟨x-1,by lia⟩
 rw[Nat.add_sub_cancel] at h ⊢
 rw[Ee,h]
 rfl
theorem ud (a:Array Dp)(c x:Nat)(hx:x<=a.size):(a.extract c x).toList=(a.toList.take x).drop c:=by
 rw[FT,E7,List.drop_take]
theorem gN (a:Array Dp)(x:Nat):(a.extract 0 x).toList=a.toList.take x:=by
 rw[FT,E7,HV,JJ]
theorem MV.jX {a b o:Array Dp}{x y:Nat}{z:Dp}(m:MV key a b o x y)(h1:1<=x)(h:a[x-1]? = some z)(ha:a.toList.Pairwise (Le key))(hb:∀t∈b.toList.take y,Le key t z):MV key a b (o.push z) (x-1) y:=by
 have e:=nH h1 (aN h)
 refine m.take (t:=[z]) (by rw[Fy,GA];rfl) (by have:=m.hx;lia) m.hy ?_ (FV _ _) λp hp q hq =>?_
 ·rw[e,DD,DD]
  exact E9 _ FI
 ·have eq:q=z:=by simpa using hq
  subst eq
  rcases CW.mp hp with r | r
  ·obtain ⟨j,hj,e2⟩:=bq r
   exact aQ ha e2 (aN h) (by lia)
  ·exact hb p r
theorem MV.nF {a b o:Array Dp}{x y:Nat}{z:Dp}(m:MV key a b o x y)(h1:1<=y)(h:b[y-1]? = some z)(hb:b.toList.Pairwise (Le key))(ha:∀t∈a.toList.take x,Le key t z):MV key a b (o.push z) x (y-1):=by
 have e:=nH h1 (aN h)
 refine m.take (t:=[z]) (by rw[Fy,GA];rfl) m.hx (by have:=m.hy;lia) ?_ (FV _ _) λp hp q hq =>?_
 ·rw[e,DD]
 ·have eq:q=z:=by simpa using hq
  subst eq
  rcases CW.mp hp with r | r
  ·exact ha p r
  ·obtain ⟨j,hj,e2⟩:=bq r
   exact aQ hb e2 (aN h) (by lia)
theorem ue (l:List Dp){c x:Nat}(h:c<=x):l.take x=l.take c++(l.take x).drop c:=by
 have e:(l.take x).take c=l.take c:=by rw[List.take_take,Nat.min_eq_left h]
 rw[<- e,EF]
theorem lA {l:List Dp}{c x:Nat}{t:Dp}(h:t∈(l.take x).drop c):∃j,c<=j/\j<x/\l[j]? = some t:=by
 obtain ⟨j,hj,e⟩:=ba h
 rw[Eu] at e
 split at e
 ·exact ⟨j,hj,by omega,e⟩
 ·cases e
theorem MV.w5 {a b o:Array Dp}{x y c:Nat}(m:MV key a b o x y)(hc:c<=x)(ha:a.toList.Pairwise (Le key))(hb:∀j p,c<=j->j<x->a.toList[j]? = some p->∀t∈b.toList.take y,Le key t p):MV key a b (o++(a.extract c x).reverse) c y:=by
 refine m.take (t:=(a.toList.take x).drop c) (by rw[DZ,GA,Gm,Hb,ud _ _ _ m.hx]) (DT hc m.hx) m.hy ?_ ?_ λp hp q hq =>?_
 ·refine List.Perm.trans ?_ (F1 _ (List.Perm.of_eq (ue a.toList hc).symm))
  rw[DD,DD]
  exact E9 _ FI
 ·exact ha.sublist ((EA _ _).trans (Ez _ _))
 ·obtain ⟨j,h1,h2,e⟩:=lA hq
  rcases CW.mp hp with r | r
  ·obtain ⟨i,hi,e2⟩:=bq r
   exact aQ ha e2 e (by lia)
  ·exact hb j q h1 h2 e p r
theorem MV.w6 {a b o:Array Dp}{x y c:Nat}(m:MV key a b o x y)(hc:c<=y)(hb:b.toList.Pairwise (Le key))(ha:∀j p,c<=j->j<y->b.toList[j]? = some p->∀t∈a.toList.take x,Le key t p):MV key a b (o++(b.extract c y).reverse) x c:=by
 refine m.take (t:=(b.toList.take y).drop c) (by rw[DZ,GA,Gm,Hb,ud _ _ _ m.hy]) m.hx (DT hc m.hy) ?_ ?_ λp hp q hq =>?_
 ·rw[DD, <- ue b.toList hc]
 ·exact hb.sublist ((EA _ _).trans (Ez _ _))
 ·obtain ⟨j,h1,h2,e⟩:=lA hq
  rcases CW.mp hp with r | r
  ·exact ha j q h1 h2 e p r
  ·obtain ⟨i,hi,e2⟩:=bq r
   exact aQ hb e2 e (by lia)
theorem MV.vw {a b o:Array Dp}{x y:Nat}(m:MV key a b o x y)(hb:b.toList.Pairwise (Le key))(hx:x=0):eO key a b (a.extract 0 x++b.extract 0 y++o.reverse):=by
 subst hx
 refine m.fin (t:=b.toList.take y) (by rw[DZ,DZ,gN,gN,Gm,Hg,HG]) (by rw[Hg,HG]) (hb.sublist (Ez _ _))
theorem MV.vv {a b o:Array Dp}{x y:Nat}(m:MV key a b o x y)(ha:a.toList.Pairwise (Le key))(hy:y=0):eO key a b (a.extract 0 x++b.extract 0 y++o.reverse):=by
 subst hy
 refine m.fin (t:=a.toList.take x) (by rw[DZ,DZ,gN,gN,Gm,Hg,DU]) (by rw[Hg,DU]) (ha.sublist (Ez _ _))
theorem MV.first {a b o:Array Dp}{x y:Nat}(m:MV key a b o x y)(ha:a.toList.Pairwise (Le key))(hb:b.toList.Pairwise (Le key))(hy:y=1)(hl:∀p q,b[0]? = some p->q∈a.toList->Le key p q):eO key a b (b.extract 0 y++a.extract 0 x++o.reverse):=by
 refine m.fin (t:=b.toList.take y++a.toList.take x) (by rw[DZ,DZ,gN,gN,Gm]) FI ?_
 refine ET.mpr ⟨hb.sublist (Ez _ _),ha.sublist (Ez _ _),λp hp q hq=>hl p q ?_ (Fp hq)⟩
 obtain ⟨i,hi,e⟩:=bq hp
 rw[C3] at e
 rw[show i=0 by lia] at e
 exact e
theorem MV.size {a b o:Array Dp}{x y:Nat}(m:MV key a b o x y):o.size+x+y=a.size+b.size:=by
 have e:=m.perm.length_eq
 have h1:=m.hx
 have h2:=m.hy
 simp only[CL,Eb,CV,EM] at e
 lia
end
open PySem PyProof.Rows
section
variable  {prog:De}{w:DN}{A:D1}{E:CJ->CN->Prop}{s:CN}{O:IA}{key:Dp->O.α}{U:Dp->Prop}{κ:SortKind}
abbrev HiC:=Option (Array Dp)×Nat×Nat×Array Dp×Nat×Nat×Nat
def zh (a b:Array Dp)(x y:Nat)(o:Array Dp)(mg ac bc:Nat):StateT DJ Sem (ForInStep HiC):=do
  let z ← elem' a (x-1)
  if (x-1 == 0)=true then pure (.done (some (a.extract 0 (x-1)++b.extract 0 y++(o.push z).reverse),x-1,y,o.push z,mg,ac,bc))
  else if (decide (ac<7) && decide (bc<7))=true then pure (.done (none,x-1,y,o.push z,mg,ac,bc))
  else pure (.yield (none,x-1,y,o.push z,mg,ac,bc))
def zi (a b:Array Dp)(x y:Nat)(o:Array Dp)(mg ac bc:Nat):StateT DJ Sem (ForInStep HiC):=do
  let z ← elem' b (y-1)
  if (y-1 == 1)=true then pure (.done (some (b.extract 0 (y-1)++a.extract 0 x++(o.push z).reverse),x,y-1,o.push z,mg,ac,bc))
  else do
    let z2 ← elem' a (x-1)
    let __x ← gal true z2 b 0 (y-1) (y-1-1)
    match __x with
    | some c =>
      if y-1-c>0 then
        if (c == 1)=true then pure (.done (some (b.extract 0 c++a.extract 0 x++(o.push z++(b.extract c (y-1)).reverse).reverse),x,c,o.push z++(b.extract c (y-1)).reverse,mg,ac,y-1-c))
        else if (c == 0)=true then pure (.done (some (a.extract 0 x++b.extract 0 c++(o.push z++(b.extract c (y-1)).reverse).reverse),x,c,o.push z++(b.extract c (y-1)).reverse,mg,ac,y-1-c))
        else zh a b x c (o.push z++(b.extract c (y-1)).reverse) mg ac (y-1-c)
      else zh a b x (y-1) (o.push z) mg ac (y-1-c)
    | _=>pure (.done (some (a.extract 0 x++b.extract 0 (y-1)++(o.push z).reverse),x,y-1,o.push z,mg,ac,bc))
def vz (a b:Array Dp)(x y:Nat)(p:Array Dp)(ac bc mg:Nat):StateT DJ Sem (ForInStep HiC):=do
  modify (λs=>SortSt.mk' (kindOf s) (Dw s) (DF s) mg (failedOf s))
  let z ← elem' b (y-1)
  let __x ← gal false z a 0 x (x-1)
  match __x with
  | some c =>
    if x-c>0 then
      if (c == 0)=true then pure (.done (some (a.extract 0 c++b.extract 0 y++(p++(a.extract c x).reverse).reverse),c,y,p++(a.extract c x).reverse,mg,x-c,bc))
      else zi a b c y (p++(a.extract c x).reverse) mg (x-c) bc
    else zi a b x y p mg (x-c) bc
  | _=>pure (.done (some (a.extract 0 x++b.extract 0 y++p.reverse),x,y,p,mg,ac,bc))
def HiQ (key:Dp->O.α)(a b:Array Dp)(st:DJ)(n:Nat)(r:ForInStep HiC)(st':DJ):Prop:=match r with
 | .done c=>Sm st st'/\((∃r x y p mg ac bc,c=(some r,x,y,p,mg,ac,bc)/\eO key a b r)\/∃x y p mg ac bc,c=(none,x,y,p,mg,ac,bc)/\MV key a b p x y/\1<=x/\2<=y/\n<=p.size)
 | .yield c=>Sm st st'/\∃x y p mg ac bc,c=(none,x,y,p,mg,ac,bc)/\MV key a b p x y/\1<=x/\2<=y/\n<=p.size
theorem HiQ.out {a b:Array Dp}{st st':DJ}{n:Nat}{r:Array Dp}{c:Nat×Nat×Array Dp×Nat×Nat×Nat}(sm:Sm st st')(f:eO key a b r):HiQ key a b st n (.done (some r,c)) st':=by
 obtain ⟨p,x,y,mg,ac,bc⟩:=c
 exact ⟨sm,.inl ⟨_,_,_,_,_,_,_,rfl,f⟩⟩
theorem xf {x:Nat}(c:¬ (x == 0)=true):1<=x:=Nat.pos_of_ne_zero λz=>c (beq_iff_eq.mpr z)
theorem zj {y:Nat}(h:1<=y)(c:¬ (y == 1)=true):2<=y:=Kr h λz=>c (beq_iff_eq.mpr z.symm)
theorem uf {a b:Array Dp}{st st':DJ}(hb:b.toList.Pairwise (Le key))
  {o:Array Dp} {x y mg ac bc n:Nat} {za:Dp} (sm:Sm st st') (ea:a[x-1]? = some za) (m4:MV key a b (o.push za) (x-1) y) (hy:2<=y) (hn:n<=o.size):wpS (DA prog w) A E s (zh a b x y o mg ac bc) (HiQ key a b st n) st':=by
 unfold zh
 refine Df (bh ea ?_)
 by_cases d5:(x-1 == 0)=true
 ·rw[if_pos d5]
  exact Dr (HiQ.out sm (m4.vw hb (beq_iff_eq.mp d5)))
 rw[if_neg d5]
 have hx2:=xf d5
 have hn':n<=(o.push za).size:=by rw[Gp];exact G1 hn
 split
 ·exact Dr ⟨sm,.inr ⟨_,_,_,_,_,_,rfl,m4,hx2,hy,hn'⟩⟩
 ·exact Dr ⟨sm,_,_,_,_,_,_,rfl,m4,hx2,hy,hn'⟩
theorem ug (C:Cmp prog w A s O key U κ){a b:Array Dp}{st st':DJ}(hκ:kindOf st=κ)(ua:∀p∈a.toList,U p)(ub:∀p∈b.toList,U p)
  (ha:a.toList.Pairwise (Le key)) (hb:b.toList.Pairwise (Le key)) (h0:∀p q,b[0]? = some p->q∈a.toList->Le key p q)
  {o:Array Dp} {x y mg ac bc n:Nat} {zb:Dp} (sm:Sm st st') (eb:b[y-1]? = some zb) (mk:MV key a b o x y) (bl:∀t∈a.toList.take x,Le key t zb) (hx1:1<=x) (hy:2<=y) (hn:n<=o.size):wpS (DA prog w) A E s (zi a b x y o mg ac bc) (HiQ key a b st n) st':=by
 unfold zi
 refine Df (bh eb ?_)
 have m2:=mk.nF (KS hy) eb hb bl
 have y1:1<=y-1:=FU hy
 have bx1:=mk.hx
 have by1:=mk.hy
 by_cases d3:(y-1 == 1)=true
 ·rw[if_pos d3]
  exact Dr (HiQ.out sm (m2.first ha hb (beq_iff_eq.mp d3) h0))
 rw[if_neg d3]
 have hy1:=zj y1 d3
 obtain ⟨za,ea⟩:=bp (show x-1<a.size by lia)
 refine Df (bh ea ?_)
 refine Df (Bb C (λi=>(b[i]?).getD za) (sm.k.trans hκ) (ua _ (cg ea)) (λi hi =>?_) (λi hi =>?_) (λi j hij hj =>?_) (Ik y1) λc2 hc2 g1 g2 =>?_)
 ·obtain ⟨z,e⟩:=bp (show i<b.size by lia)
  rw[Gx,e];rfl
 ·obtain ⟨z,e⟩:=bp (show i<b.size by lia)
  rw[e];exact ub _ (cg e)
 ·obtain ⟨z,e⟩:=bp (show i<b.size by lia)
  obtain ⟨z',e'⟩:=bp (show j<b.size by lia)
  rw[e,e'];exact aQ hb (aN e) (aN e') hij
 dsimp only at g1 g2 ⊢
 have tb:∀j q,c2<=j->j<y-1->b.toList[j]? = some q->∀t∈a.toList.take x,Le key t q:=λj q hj hj2 e t ht=>by
  have z:=g2 j hj hj2
  rw[C3] at e
  rw[e] at z
  obtain ⟨n,hn,e2⟩:=bq ht
  exact DY (aQ ha e2 (aN ea) (FU hn)) z
 have m3:=m2.w6 hc2 hb tb
 have bl2:∀t∈b.toList.take c2,Le key t za:=λt ht=>by
  obtain ⟨n,hn,e2⟩:=bq ht
  rw[C3] at e2
  have z:=g1 n hn
  rw[e2] at z
  exact ER z
 have hn1:n<=(o.push zb).size:=by rw[Gp];exact G1 hn
 by_cases k2:y-1-c2>0
 ·rw[if_pos k2]
  by_cases d4:(c2 == 1)=true
  ·rw[if_pos d4]
   exact Dr (HiQ.out sm (m3.first ha hb (beq_iff_eq.mp d4) h0))
  rw[if_neg d4]
  by_cases d6:(c2 == 0)=true
  ·rw[if_pos d6]
   exact Dr (HiQ.out sm (m3.vv ha (beq_iff_eq.mp d6)))
  rw[if_neg d6]
  exact uf hb sm ea (m3.jX hx1 ea ha bl2) (zj (xf d6) d4) (DT hn1 (by rw[G3];exact FP _ _))
 ·rw[if_neg k2]
  have ec2:c2=y-1:=GS hc2 (JK (GK k2))
  rw[ec2] at bl2
  exact uf hb sm ea (m2.jX hx1 ea ha bl2) hy1 hn1
theorem uh (C:Cmp prog w A s O key U κ){a b:Array Dp}{st st':DJ}(hκ:kindOf st=κ)(ua:∀p∈a.toList,U p)(ub:∀p∈b.toList,U p)
  (ha:a.toList.Pairwise (Le key)) (hb:b.toList.Pairwise (Le key)) (h0:∀p q,b[0]? = some p->q∈a.toList->Le key p q)
  {p:Array Dp} {x y ac bc n:Nat} (mg:Nat) (sm:Sm st st') (m:MV key a b p x y) (hx:1<=x) (hy:2<=y) (hn:n<=p.size):wpS (DA prog w) A E s (vz a b x y p ac bc mg) (HiQ key a b st n) st':=by
 unfold vz
 have bx:=m.hx
 have by':=m.hy
 obtain ⟨zb,eb⟩:=bp (show y-1<b.size by lia)
 refine Df (FX ?_)
 refine Df (bh eb ?_)
 refine Df (Ba C (λi=>(a[i]?).getD zb) ((sm.mg _).k.trans hκ) (ub _ (cg eb)) (λi hi =>?_) (λi hi =>?_) (λi j hij hj =>?_) (Ik hx) λc hc h1 h2 =>?_)
 ·obtain ⟨z,e⟩:=bp (Dm hi bx)
  rw[Gx,e];rfl
 ·obtain ⟨z,e⟩:=bp (Dm hi bx)
  rw[e];exact ua _ (cg e)
 ·obtain ⟨z,e⟩:=bp (show i<a.size by lia)
  obtain ⟨z',e'⟩:=bp (show j<a.size by lia)
  rw[e,e'];exact aQ ha (aN e) (aN e') hij
 dsimp only at h1 h2 ⊢
 have ta:∀j q,c<=j->j<x->a.toList[j]? = some q->∀t∈b.toList.take y,Le key t q:=λj q hj hj2 e t ht=>by
  have z:=h2 j hj hj2
  rw[C3] at e
  rw[e] at z
  obtain ⟨n,hn,e2⟩:=bq ht
  exact DY (aQ hb e2 (aN eb) (FU hn)) (ER z)
 have mk:=m.w5 hc ha ta
 have bl:∀t∈a.toList.take c,Le key t zb:=λt ht=>by
  obtain ⟨n,hn,e2⟩:=bq ht
  rw[C3] at e2
  have z:=h1 n hn
  rw[e2] at z
  exact z
 by_cases k0:x-c>0
 ·rw[if_pos k0]
  by_cases d1:(c == 0)=true
  ·rw[if_pos d1]
   exact Dr (HiQ.out (sm.mg _) (mk.vw hb (beq_iff_eq.mp d1)))
  rw[if_neg d1]
  exact ug C hκ ua ub ha hb h0 (sm.mg _) eb mk bl (xf d1) hy (DT hn (by rw[G3];exact FP _ _))
 ·rw[if_neg k0]
  have ec:c=x:=GS hc (JK (GK k0))
  rw[ec] at bl
  exact ug C hκ ua ub ha hb h0 (sm.mg _) eb m bl hx hy hn
theorem zk (C:Cmp prog w A s O key U κ){a b:Array Dp}{st st':DJ}(hκ:kindOf st=κ)(ua:∀p∈a.toList,U p)(ub:∀p∈b.toList,U p)
  (ha:a.toList.Pairwise (Le key)) (hb:b.toList.Pairwise (Le key)) (h0:∀p q,b[0]? = some p->q∈a.toList->Le key p q)
  {p:Array Dp} {x y ac bc n mg:Nat} (sm:Sm st st') (m:MV key a b p x y) (hx:1<=x) (hy:2<=y) (hn:n<=p.size):wpS (DA prog w) A E s (if mg>1 then vz a b x y p ac bc (mg-1) else vz a b x y p ac bc mg) (HiQ key a b st n) st':=by
 split
 ·exact uh C hκ ua ub ha hb h0 (mg-1) sm m hx hy hn
 ·exact uh C hκ ua ub ha hb h0 mg sm m hx hy hn
abbrev HiD:=Option (Array Dp)×Nat×Nat×Array Dp×Nat×Nat
abbrev HiE:=Option (Array Dp)×Nat×Nat×Array Dp×Nat
def xg (a b:Array Dp)(mg:Nat)(c:HiD):StateT DJ Sem (ForInStep HiD):=do
  let u ← elem' b (c.2.2.1-1)
  let v ← elem' a (c.2.1-1)
  let __x ← lt' u v
  match __x with
  | some aw =>
    if aw=true then do
      let z ← elem' a (c.2.1-1)
      if (c.2.1-1 == 0)=true then pure (.done (some (a.extract 0 (c.2.1-1)++b.extract 0 c.2.2.1++(c.2.2.2.1.push z).reverse),c.2.1-1,c.2.2.1,c.2.2.2.1.push z,c.2.2.2.2.1+1,0))
      else if c.2.2.2.2.1+1≥mg then pure (.done (none,c.2.1-1,c.2.2.1,c.2.2.2.1.push z,c.2.2.2.2.1+1,0))
      else pure (.yield (none,c.2.1-1,c.2.2.1,c.2.2.2.1.push z,c.2.2.2.2.1+1,0))
    else do
      let z ← elem' b (c.2.2.1-1)
      if (c.2.2.1-1 == 1)=true then pure (.done (some (b.extract 0 (c.2.2.1-1)++a.extract 0 c.2.1++(c.2.2.2.1.push z).reverse),c.2.1,c.2.2.1-1,c.2.2.2.1.push z,0,c.2.2.2.2.2+1))
      else if c.2.2.2.2.2+1≥mg then pure (.done (none,c.2.1,c.2.2.1-1,c.2.2.2.1.push z,0,c.2.2.2.2.2+1))
      else pure (.yield (none,c.2.1,c.2.2.1-1,c.2.2.2.1.push z,0,c.2.2.2.2.2+1))
  | _=>pure (.done (some (a.extract 0 c.2.1++b.extract 0 c.2.2.1++c.2.2.2.1.reverse),c.2.1,c.2.2.1,c.2.2.2.1,c.2.2.2.2.1,c.2.2.2.2.2))
def Be (a b:Array Dp)(c:HiC):StateT DJ Sem (ForInStep HiC) :=
 if c.2.2.2.2.1>1 then vz a b c.2.1 c.2.2.1 c.2.2.2.1 c.2.2.2.2.2.1 c.2.2.2.2.2.2 (c.2.2.2.2.1-1) else vz a b c.2.1 c.2.2.1 c.2.2.2.1 c.2.2.2.2.2.1 c.2.2.2.2.2.2 c.2.2.2.2.1
def sv (a b:Array Dp)(c:HiE):StateT DJ Sem (ForInStep HiE):=do
  let d ← forIn [0:a.size+b.size] ((none,c.2.1,c.2.2.1,c.2.2.2.1,0,0):HiD) λ_ d=>xg a b c.2.2.2.2 d
  match d.1 with
  | some r=>pure (.done (some r,d.2.1,d.2.2.1,d.2.2.2.1,c.2.2.2.2))
  | none=>do
    rule "list.sort.gallop"
    let e ← forIn [0:a.size+b.size] ((none,d.2.1,d.2.2.1,d.2.2.2.1,c.2.2.2.2+1,d.2.2.2.2.1,d.2.2.2.2.2):HiC) λ_ e=>Be a b e
    match e.1 with
    | some r=>pure (.done (some r,e.2.1,e.2.2.1,e.2.2.2.1,e.2.2.2.2.1))
    | none=>do
      modify (λs=>SortSt.mk' (kindOf s) (Dw s) (DF s) (e.2.2.2.2.1+1) (failedOf s))
      pure (.yield (none,e.2.1,e.2.2.1,e.2.2.2.1,e.2.2.2.2.1+1))
theorem zo (a b:Array Dp):mHi a b=(do
    rule "list.sort.merge-hi"
    let z ← elem' a (a.size-1)
    if (a.size-1 == 0)=true then pure (a.extract 0 (a.size-1)++b.extract 0 b.size++(#[z]:Array Dp).reverse)
    else if (b.size == 1)=true then pure (b.extract 0 b.size++a.extract 0 (a.size-1)++(#[z]:Array Dp).reverse)
    else do
      let g ← get
      let c ← forIn [0:a.size+b.size] ((none,a.size-1,b.size, #[z],gallopOf g):HiE) λ_ c=>sv a b c
      match c.1 with
      | some r=>pure r
      | none=>unsupported "internal:list.sort.merge-bound"):=by
  kernel_rfl
def HdI (key:Dp->O.α)(a b:Array Dp)(st:DJ)(n:Nat)(c:HiD)(st':DJ):Prop:=Sm st st'/\∃x y o' ac bc,c=(none,x,y,o',ac,bc)/\MV key a b o' x y/\1<=x/\2<=y/\n<=o'.size
def HdQ (key:Dp->O.α)(a b:Array Dp)(st:DJ)(n:Nat)(c:HiD)(st':DJ):Prop:=Sm st st'/\((∃r x y o ac bc,c=(some r,x,y,o,ac,bc)/\eO key a b r)\/∃x y o' ac bc,c=(none,x,y,o',ac,bc)/\MV key a b o' x y/\1<=x/\2<=y/\n<=o'.size)
theorem xh (C:Cmp prog w A s O key U κ){a b:Array Dp}{st st':DJ}(hκ:kindOf st=κ)(ua:∀p∈a.toList,U p)(ub:∀p∈b.toList,U p)
  (ha:a.toList.Pairwise (Le key)) (hb:b.toList.Pairwise (Le key)) (h0:∀p q,b[0]? = some p->q∈a.toList->Le key p q)
  {mg n m':Nat} {c:HiD} (I:HdI key a b st n c st') (hm:m'<=n+1) {Q:ForInStep HiD->DJ->Prop} (h:∀r st',(match r with | .done c'=>HdQ key a b st (n+1) c' st' | .yield c'=>HdI key a b st m' c' st')->Q r st'):wpS (DA prog w) A E s (xg a b mg c) Q st':=by
 obtain ⟨sm2,x,y,o',ac,bc,rfl,m,hx,hy,hz⟩:=I
 unfold xg
 have bx:=m.hx
 have by':=m.hy
 obtain ⟨za,ea⟩:=bp (show x-1<a.size by omega)
 obtain ⟨zb,eb⟩:=bp (show y-1<b.size by omega)
 refine Df (bh eb (Df (bh ea (Df (C.lt _ st' zb za _ (sm2.k.trans hκ) (ub _ (cg eb)) (ua _ (cg ea)) ?_)))))
 dsimp only
 have sz:∀z,n+1<=(o'.push z).size:=λz=>by rw[Gp];exact Js hz
 cases hlt:O.blt (key zb) (key za) with
 | true =>
  rw[if_pos rfl]
  refine Df (bh ea ?_)
  have m1:=m.jX hx ea ha λt ht=>by
   obtain ⟨n,hn,e⟩:=bq ht
   exact DY (aQ hb e (aN eb) (FU hn)) (ER hlt)
  by_cases c3:(x-1 == 0)=true
  ·rw[if_pos c3]
   exact Dr (h _ _ ⟨sm2,.inl ⟨_,_,_,_,_,_,rfl,m1.vw hb (beq_iff_eq.mp c3)⟩⟩)
  ·rw[if_neg c3]
   have c3':=xf c3
   split
   ·exact Dr (h _ _ ⟨sm2,.inr ⟨_,_,_,_,_,rfl,m1,c3',hy,sz _⟩⟩)
   ·exact Dr (h _ _ ⟨sm2,_,_,_,_,_,rfl,m1,c3',hy,DT hm (sz _)⟩)
 | false =>
  rw[if_neg C8]
  refine Df (bh eb ?_)
  have m1:=m.nF (KS hy) eb hb λt ht=>by
   obtain ⟨n,hn,e⟩:=bq ht
   exact DY (aQ ha e (aN ea) (FU hn)) (show O.kle (key za) (key zb) from hlt)
  by_cases c3:(y-1 == 1)=true
  ·rw[if_pos c3]
   exact Dr (h _ _ ⟨sm2,.inl ⟨_,_,_,_,_,_,rfl,m1.first ha hb (beq_iff_eq.mp c3) h0⟩⟩)
  ·rw[if_neg c3]
   have c3':=zj (FU hy) c3
   split
   ·exact Dr (h _ _ ⟨sm2,.inr ⟨_,_,_,_,_,rfl,m1,hx,c3',sz _⟩⟩)
   ·exact Dr (h _ _ ⟨sm2,_,_,_,_,_,rfl,m1,hx,c3',DT hm (sz _)⟩)
def HeI (key:Dp->O.α)(a b:Array Dp)(st:DJ)(n:Nat)(c:HiE)(st':DJ):Prop:=Sm st st'/\∃x y o mg,c=(none,x,y,o,mg)/\MV key a b o x y/\1<=x/\2<=y/\n+1<=o.size
def HeQ (key:Dp->O.α)(a b:Array Dp)(st:DJ)(c:HiE)(st':DJ):Prop:=Sm st st'/\((∃r x y o mg,c=(some r,x,y,o,mg)/\eO key a b r)\/∃x y o mg,c=(none,x,y,o,mg)/\MV key a b o x y/\1<=x/\2<=y/\a.size+b.size+1<=o.size)
theorem vA (C:Cmp prog w A s O key U κ){a b:Array Dp}{st st':DJ}(hκ:kindOf st=κ)(ua:∀p∈a.toList,U p)(ub:∀p∈b.toList,U p)
  (ha:a.toList.Pairwise (Le key)) (hb:b.toList.Pairwise (Le key)) (h0:∀p q,b[0]? = some p->q∈a.toList->Le key p q) (na:0<a.size)
  {n:Nat} {c:HiE} (I:HeI key a b st n c st'):wpS (DA prog w) A E s (sv a b c) (λr st'=>match r with | .done c'=>HeQ key a b st c' st' | .yield c'=>HeI key a b st (n+1) c' st') st':=by
 obtain ⟨sm1,x,y,o,mg,rfl,m,hx,hy,hz⟩:=I
 unfold sv
 have q1:1<=a.size+b.size:=DT na (FP _ _)
 refine Df (FG (EH (I:=λj c st'=>HdI key a b st (o.size+min j 1) c st') (Q:=HdQ key a b st (o.size+1)) (λj c st2 _ hj J=>xh (n:=o.size+min j 1) (m':=o.size+min (j+1) 1) C hκ ua ub ha hb h0 J (by lia) λr st' k =>?_) (λc st' J =>?_) ⟨sm1,x,y,o,0,0,rfl,m,hx,hy,CO _⟩) ?_)
 ·cases r with
  | done c'=>exact k.imp id λz=>z.imp id λ⟨x,y,o',ac,bc,e,m,hx,hy,hz⟩=>⟨x,y,o',ac,bc,e,m,hx,hy,by lia⟩
  | yield c'=>exact k
 ·obtain ⟨sm,x,y,o',ac,bc,e,m,hx,hy,hz⟩:=J
  exact ⟨sm,.inr ⟨x,y,o',ac,bc,e,m,hx,hy,by lia⟩⟩
 rintro c st2 ⟨sm2,⟨r,x,y,o',ac,bc,rfl,fr⟩ | ⟨x,y,o',ac,bc,rfl,m,hx,hy,hz2⟩⟩
 ·exact Dr ⟨sm2,.inl ⟨_,_,_,_,_,rfl,fr⟩⟩
 dsimp only
 refine Df (Jr (FE ⟨rfl,?_⟩))
 refine Df (FG (EH (I:=λ_ c st'=>HiQ key a b st o'.size (.yield c) st') (Q:=λc st'=>HiQ key a b st o'.size (.done c) st') (λj c st3 _ hj J =>?_) (λc st' J=>⟨J.1,.inr J.2⟩) ⟨sm2,x,y,o',_,ac,bc,rfl,m,hx,hy,CO _⟩) ?_)
 ·obtain ⟨sm3,x,y,p,mg,ac,bc,rfl,m,hx,hy,hz3⟩:=J
  refine FG (zk C hκ ua ub ha hb h0 sm3 m hx hy hz3) ?_
  intro r st' h
  cases r <;> exact h
 rintro c st3 ⟨sm3,⟨r,x,y,p,mg,ac,bc,rfl,fr⟩ | ⟨x,y,p,mg,ac,bc,rfl,m,hx,hy,hz3⟩⟩
 ·exact Dr ⟨sm3,.inl ⟨_,_,_,_,_,rfl,fr⟩⟩
 ·dsimp only
  exact Df (FX (Dr ⟨sm3.mg _,x,y,p,_,rfl,m,hx,hy,by lia⟩))
theorem Bf (C:Cmp prog w A s O key U κ){a b:Array Dp}{st:DJ}{Q:Array Dp->DJ->Prop}(hκ:kindOf st=κ)(ua:∀p∈a.toList,U p)(ub:∀p∈b.toList,U p)
  (ha:a.toList.Pairwise (Le key)) (hb:b.toList.Pairwise (Le key)) (na:0<a.size) (nb:0<b.size) (h0:∀p q,b[0]? = some p->q∈a.toList->Le key p q) (hl:∀p q,p∈b.toList->a[a.size-1]? = some q->Le key p q)
  (h:∀r st',Sm st st'->eO key a b r->Q r st'):wpS (DA prog w) A E s (mHi a b) Q st:=by
 rw[zo]
 refine Df (Jr (FE ⟨rfl,?_⟩))
 obtain ⟨a0,ea0⟩:=bp (Ik na)
 have m0:MV key a b #[] a.size b.size:=by
  refine ⟨CO _,CO _,?_,List.Pairwise.nil,λp _ q hq=>by cases hq⟩
  rw[C7 (by rw[CV];exact CO _),C7 (by rw[CV];exact CO _)]
  show (a.toList++b.toList++[]).Perm _
  rw[DU]
 have m1:MV key a b #[a0] (a.size-1) b.size:=m0.jX na ea0 ha λt ht=>hl t a0 (Fp ht) ea0
 refine Df (bh ea0 ?_)
 by_cases c1:(a.size-1 == 0)=true
 ·rw[if_pos c1]
  exact Dr (h _ st (Sm.refl st) (m1.vw hb (beq_iff_eq.mp c1)))
 rw[if_neg c1]
 by_cases c2:(b.size == 1)=true
 ·rw[if_pos c2]
  exact Dr (h _ st (Sm.refl st) (m1.first ha hb (beq_iff_eq.mp c2) h0))
 rw[if_neg c2]
 refine Df (Ja ?_)
 refine Df (FG (EH (I:=λi c st'=>HeI key a b st i c st') (Q:=HeQ key a b st) (λi c st1 _ _ J=>FG (vA C hκ ua ub ha hb h0 na J) λr st' h=>by cases r <;> exact h) (λc st' J =>?_) ⟨Sm.refl st,_,_,_,_,rfl,m1,xf c1,zj nb c2,CO _⟩) ?_)
 ·obtain ⟨sm,x,y,o,mg,e,m,hx,hy,hz⟩:=J
  exact ⟨sm,.inr ⟨x,y,o,mg,e,m,hx,hy,by lia⟩⟩
 rintro c st' ⟨sm,⟨r,x,y,o,mg,rfl,fr⟩ | ⟨x,y,o,mg,rfl,m,hx,hy,hz⟩⟩
 ·exact Dr (h r st' sm fr)
 ·have:=m.size
  lia
end
open PySem PyProof.Rows
theorem Bg (i:Nat):mAt i=(do
    let s ← get
    let (some (sa,na,pw),some (sb,nb,_)):=((DF s)[i]?,(DF s)[i+1]?) | unsupported "internal:list.sort.pending"
    set (SortSt.mk' (kindOf s) (Dw s) (((DF s).setIfInBounds i (sa,na+nb,pw)).eraseIdxIfInBounds (i+1)) (gallopOf s) (failedOf s))
    let some k ← gal false (← elem' (Dw s) sb) (Dw s) sa na 0 | return false
    let (sa,na):=(sa+k,na-k)
    if na == 0 then return true
    let some nb ← gal true (← elem' (Dw s) (sa+na-1)) (Dw s) sb nb (nb-1) | return false
    if nb == 0 then return true
    let x:=(Dw s).extract sa sb
    let y:=(Dw s).extract sb (sb+nb)
    let mm ← if na<=nb then mLo x y else mHi x y
    modify λs=>setArr s (mm.toList.zipIdx.foldl (λa (p,j)=>a.setIfInBounds (sa+j) p) (Dw s))
    return (failedOf (← get)).isNone):=rfl
theorem iU {α:Type}(p r:List α)(k:Nat):(p++r).drop (p.length+k)=r.drop k:=by
 rw[<- LM,IY]
theorem sC {α:Type}(p r:List α)(k:Nat):(p++r)[p.length+k]? = r[k]? := by
 rw[DB (by lia),Gz]
theorem Aj {α:Type}(p a r:List α){k:Nat}(h:k<a.length):(p++(a++r))[p.length+k]? = a[k]? := by
 rw[sC,Dv h]
theorem written (l:List Dp):∀(c n:Nat) (a:Array Dp),c+n+l.length<=a.size->((l.zipIdx n).foldl (λ(a:Array Dp) (pj:Dp×Nat)=>a.setIfInBounds (c+pj.2) pj.1) a).toList=a.toList.take (c+n)++l++a.toList.drop (c+n+l.length):=by
 induction l with
 | nil=>intro c n a _;simp
 | cons z l ih =>
  intro c n a h
  rw[Dx] at h
  rw[List.zipIdx_cons,JH,ih c (n+1) _ (by rw[Jd];lia)]
  have e:(a.setIfInBounds (c+n) z).toList=a.toList.set (c+n) z:=IG ..
  rw[e]
  have lt:c+n<a.toList.length:=by rw[CV];lia
  have t1:(a.toList.set (c+n) z).take (c+(n+1))=a.toList.take (c+n)++[z]:=by
   rw[show c+(n+1)=c+n+1 by lia,Ee,List.take_set_of_le (CO _),Ey lt]
   rfl
  have t2:(a.toList.set (c+n) z).drop (c+(n+1)+l.length)=a.toList.drop (c+n+(l.length+1)):=by
   rw[List.drop_set_of_lt (by lia),show c+(n+1)+l.length=c+n+(l.length+1) by lia]
  rw[t1,t2,Dx]
  simp
section
variable  {prog:De}{w:DN}{A:D1}{E:CJ->CN->Prop}{s:CN}{O:IA}{key:Dp->O.α}{U:Dp->Prop}{κ:SortKind}
theorem Bh (C:Cmp prog w A s O key U κ){i pw pw2:Nat}{st:DJ}{Q:Bool->DJ->Prop}{P X Y S:List Dp}(hκ:kindOf st=κ)(hf:failedOf st=none)
    (ha:(Dw st).toList=P++(X++(Y++S))) (hu:∀p∈(Dw st).toList,U p) (h1:(DF st)[i]? = some (P.length,X.length,pw)) (h2:(DF st)[i+1]? = some (P.length+X.length,Y.length,pw2))
    (nx:0<X.length) (ny:0<Y.length) (sx:X.Pairwise (Le key)) (sy:Y.Pairwise (Le key))
    (h:∀st' M,M.Perm (X++Y)->M.Pairwise (Le key)->(Dw st').toList=P++(M++S)->DF st'=((DF st).setIfInBounds i (P.length,X.length+Y.length,pw)).eraseIdxIfInBounds (i+1)->kindOf st'=κ -> failedOf st'=none->Q true st') :
    wpS (DA prog w) A E s (mAt i) Q st:=by
  rw[Bg]
  refine Df (Ja ?_)
  rw[h1,h2]
  dsimp only
  refine Df (show wpS (DA prog w) A E s (modify λ_=>SortSt.mk' (kindOf st) (Dw st) (((DF st).setIfInBounds i (P.length,X.length+Y.length,pw)).eraseIdxIfInBounds (i+1)) (gallopOf st) (failedOf st)) _ st from FX ?_)
  generalize hst1:SortSt.mk' (kindOf st) (Dw st) (((DF st).setIfInBounds i (P.length,X.length+Y.length,pw)).eraseIdxIfInBounds (i+1)) (gallopOf st) (failedOf st)=st1
  have k1:kindOf st1=κ:=by rw[<- hst1];exact hκ
  have a1:Dw st1=Dw st:=by rw[<- hst1]
  have p1:DF st1=((DF st).setIfInBounds i (P.length,X.length+Y.length,pw)).eraseIdxIfInBounds (i+1):=by rw[<- hst1]
  have f1:failedOf st1=none:=by rw[<- hst1];exact hf
  have sz:(Dw st).size=P.length+X.length+Y.length+S.length:=by
    rw[<- CV,ha];simp only[CL];lia
  have atX:∀j,j<X.length->(Dw st)[P.length+j]? = X[j]? := λj hj=>by
    rw[<- C3,ha,Aj _ _ _ hj]
  have atY:∀j,j<Y.length->(Dw st)[P.length+X.length+j]? = Y[j]? := λj hj=>by
    rw[<- C3,ha, <- DD,show P.length+X.length+j=(P++X).length+j by rw[CL],Aj _ _ _ hj]
  have uX:∀p∈X,U p:=λp hp=>hu p (by rw[ha];simp[hp])
  have uY:∀p∈Y,U p:=λp hp=>hu p (by rw[ha];simp[hp])
  have xget:∀j,j<X.length->∃z,X[j]? = some z:=λj hj=>⟨X[j],by simp[hj]⟩
  have yget:∀j,j<Y.length->∃z,Y[j]? = some z:=λj hj=>⟨Y[j],by simp[hj]⟩
  obtain ⟨y0,ey0⟩:=yget 0 ny
  have plain:(∀p∈X,∀q∈Y,Le key p q)->Q true st1:=λhle=>h st1 (X++Y) (Hf _) (ET.mpr ⟨sx,sy,hle⟩) (by rw[a1,ha,DD]) p1 k1 f1
  refine Df (bh (z:=y0) (by rw[show P.length+X.length=P.length+X.length+0 by lia,atY 0 ny];exact ey0) ?_)
  refine Df (Ba C (λj=>(X[j]?).getD y0) k1 (uY _ (CT ey0)) (λj hj =>?_) (λj hj =>?_) (λi j hij hj =>?_) nx λk hk g1 g2 =>?_)
  · obtain ⟨z,e⟩:=xget j hj
    rw[atX j hj,e];rfl
  · obtain ⟨z,e⟩:=xget j hj
    rw[e];exact uX _ (CT e)
  · obtain ⟨z,e⟩:=xget i (by lia)
    obtain ⟨z',e'⟩:=xget j hj
    rw[e,e'];exact aQ sx e e' hij
  dsimp only at g1 g2 ⊢
  have y0le:∀q∈Y,Le key y0 q:=λq hq=>by
    obtain ⟨n,e⟩:=DC.mp hq
    exact aQ sy ey0 e (DQ _)
  by_cases c1:(X.length-k == 0)=true
  · rw[if_pos c1]
    refine Dr (plain λp hp q hq =>?_)
    obtain ⟨n,e⟩:=DC.mp hp
    have hn:n<X.length:=(CP.mp e).1
    have z:=g1 n (by have:=beq_iff_eq.mp c1;lia)
    rw[e] at z
    exact DY z (y0le q hq)
  rw[if_neg c1]
  have kx:k<X.length:=by have:X.length-k≠0:=λz=>c1 (beq_iff_eq.mpr z);lia
  obtain ⟨xl,exl⟩:=xget (X.length-1) (by lia)
  have xlle:∀p∈X,Le key p xl:=λp hp=>by
    obtain ⟨n,e⟩:=DC.mp hp
    have hn:n<X.length:=(CP.mp e).1
    exact aQ sx e exl (by lia)
  refine Df (bh (z:=xl) (by rw[show P.length+k+(X.length-k)-1=P.length+(X.length-1) by lia,atX _ (by lia)];exact exl) ?_)
  refine Df (Bb C (λj=>(Y[j]?).getD xl) k1 (uX _ (CT exl)) (λj hj =>?_) (λj hj =>?_) (λi j hij hj =>?_) (by lia) λm hm e1 e2 =>?_)
  · obtain ⟨z,e⟩:=yget j hj
    rw[atY j hj,e];rfl
  · obtain ⟨z,e⟩:=yget j hj
    rw[e];exact uY _ (CT e)
  · obtain ⟨z,e⟩:=yget i (by lia)
    obtain ⟨z',e'⟩:=yget j hj
    rw[e,e'];exact aQ sy e e' hij
  dsimp only at e1 e2 ⊢
  by_cases c2:(m == 0)=true
  · rw[if_pos c2]
    refine Dr (plain λp hp q hq =>?_)
    obtain ⟨n,e⟩:=DC.mp hq
    have hn:n<Y.length:=(CP.mp e).1
    have z:=e2 n (by have:=beq_iff_eq.mp c2;lia) hn
    rw[e] at z
    exact DY (xlle p hp) z
  rw[if_neg c2]
  have m0:0<m:=by have:m≠0:=λz=>c2 (beq_iff_eq.mpr z);lia
  have ex:((Dw st).extract (P.length+k) (P.length+X.length)).toList=X.drop k:=by
    rw[FT,E7,ha,iU,Ic (by lia)]
    rw[List.take_left' (by rw[Es];lia)]
  have ey:((Dw st).extract (P.length+X.length) (P.length+X.length+m)).toList=Y.take m:=by
    have e:=iU (P++X) (Y++S) 0
    rw[CL,JL,HV,DD] at e
    rw[FT,E7,ha,e,Gz,GH hm]
  have sX:((Dw st).extract (P.length+k) (P.length+X.length)).size=X.length-k:=by rw[<- CV,ex,Es]
  have sY:((Dw st).extract (P.length+X.length) (P.length+X.length+m)).size=m:=by rw[<- CV,ey,Eb];lia
  generalize (Dw st).extract (P.length+k) (P.length+X.length)=xa at ex sX ⊢
  generalize (Dw st).extract (P.length+X.length) (P.length+X.length+m)=ya at ey sY ⊢
  have xa0:∀q∈xa.toList,Le key y0 q:=λq hq=>by
    rw[ex] at hq
    obtain ⟨n,hn,e⟩:=ba hq
    have hn2:n<X.length:=(CP.mp e).1
    have z:=g2 n hn hn2
    rw[e] at z
    exact ER z
  have yaL:∀p∈ya.toList,Le key p xl:=λp hp=>by
    rw[ey] at hp
    obtain ⟨n,hn,e⟩:=bq hp
    have z:=e1 n hn
    rw[e] at z
    exact ER z
  have first:∀p q,ya[0]? = some p->q∈xa.toList->Le key p q:=λp q hp hq=>by
    rw[<- C3,ey,Eu,if_pos m0,ey0] at hp
    cases hp
    exact xa0 q hq
  have lst:∀p q,p∈ya.toList->xa[xa.size-1]? = some q->Le key p q:=λp q hp hq=>by
    rw[<- C3,ex,GN,sX,show k+(X.length-k-1)=X.length-1 by lia,exl] at hq
    cases hq
    exact yaL p hp
  have sxa:xa.toList.Pairwise (Le key):=by rw[ex];exact sx.sublist (EA _ _)
  have sya:ya.toList.Pairwise (Le key):=by rw[ey];exact sy.sublist (Ez _ _)
  have uxa:∀p∈xa.toList,U p:=λp hp=>by rw[ex] at hp;exact uX p (Ha hp)
  have uya:∀p∈ya.toList,U p:=λp hp=>by rw[ey] at hp;exact uY p (Fp hp)
  have post:∀r st',Sm st1 st'->eO key xa ya r->wpS (DA prog w) A E s (do modify λs=>setArr s (r.toList.zipIdx.foldl (λa (p,j)=>a.setIfInBounds (P.length+k+j) p) (Dw s));return (failedOf (← get)).isNone) Q st':=by
    rintro r st' sm ⟨fp,fs⟩
    refine Df (FX (Df (Ja (Dr ?_))))
    have rl:r.toList.length=X.length-k+m:=by rw[fp.length_eq,CL,CV,CV,sX,sY]
    have wr:=written r.toList (P.length+k) 0 (Dw st') (by rw[sm.a,a1,sz,rl];lia)
    have e:(failedOf (setArr st' (r.toList.zipIdx.foldl (λa (p,j)=>a.setIfInBounds (P.length+k+j) p) (Dw st')))).isNone=true:=by
      show (failedOf st').isNone=true
      rw[sm.f,f1];rfl
    rw[e]
    have t1:(P++(X++(Y++S))).take (P.length+k+0)=P++X.take k:=by
      rw[JL,List.take_append,C7 (by lia),Gz,GH (by lia)]
    have t2:(P++(X++(Y++S))).drop (P.length+k+0+r.toList.length)=Y.drop m++S:=by
      rw[rl,show P.length+k+0+(X.length-k+m)=P.length+(X.length+m) by lia,iU,iU,Ic hm]
    have perm:(X.take k++(r.toList++Y.drop m)).Perm (X++Y):=by
      rw[ex,ey] at fp
      have q:(X.take k++(r.toList++Y.drop m)).Perm (X.take k++((X.drop k++Y.take m)++Y.drop m)):=E9 _ (F1 _ fp)
      have e3:X.take k++((X.drop k++Y.take m)++Y.drop m)=X++Y:=by
        rw[DD (X.drop k),EF, <- DD,EF]
      rw[e3] at q
      exact q
    have inr:∀z∈r.toList,z∈X.drop k\/z∈Y.take m:=λz hz=>by
      have q:=fp.mem_iff.mp hz
      rw[ex,ey] at q
      exact CW.mp q
    refine h _ (X.take k++(r.toList++Y.drop m)) perm ?_ ?_ ?_ (sm.k.trans k1) (sm.f.trans f1)
    · refine ET.mpr ⟨sx.sublist (Ez _ _),ET.mpr ⟨fs,sy.sublist (EA _ _),λp hp q hq =>?_⟩,λp hp q hq =>?_⟩
      · obtain ⟨n,hn,en⟩:=ba hq
        have hn2:n<Y.length:=(CP.mp en).1
        rcases inr p hp with z | z
        · have g:=e2 n hn hn2
          rw[en] at g
          exact DY (xlle p (Ha z)) g
        · obtain ⟨j,hj,ej⟩:=bq z
          exact aQ sy ej en (by lia)
      · obtain ⟨n,hn,en⟩:=bq hp
        have g:=g1 n hn
        rw[en] at g
        rcases CW.mp hq with z | z
        · rcases inr q z with z | z
          · obtain ⟨j,hj,ej⟩:=ba z
            exact aQ sx en ej (by lia)
          · exact DY g (y0le q (Fp z))
        · exact DY g (y0le q (Ha z))
    · show (r.toList.zipIdx.foldl (λa (p,j)=>a.setIfInBounds (P.length+k+j) p) (Dw st')).toList=_
      rw[wr,sm.a,a1,ha,t1,t2]
      simp only[DD]
    · show DF st'=_
      rw[sm.p,p1]
  by_cases c3:X.length-k<=m
  · rw[if_pos c3]
    exact Df (Bd C k1 uxa uya sxa sya (by lia) (by lia) (λp q hp hq=>first p q hp (cg hq)) lst λr st' sm fr=>post r st' sm fr)
  · rw[if_neg c3]
    exact Df (Bf C k1 uxa uya sxa sya (by lia) (by lia) first lst λr st' sm fr=>post r st' sm fr)
end
open PySem PyProof.Rows
theorem zp (lo m:Nat):A8 lo m=(do
    let mut n:=1
    for _ in [1:m] do
      let some sm ← ltAt' (lo+n) (lo+n-1)
        | return none
      if sm then break
      n:=n+1
    if n == m then return some n
    if n>1 then
      let some ro ← ltAt' lo (lo+n-1)
        | return none
      if ro then return some n
      reverseSlice' lo (lo+n)
    rule "list.sort.descending-run"
    n:=n+1
    let mut q:=0
    for _ in [n:m] do
      let some sm ← ltAt' (lo+n) (lo+n-1)
        | return none
      if sm then
        if q>0 then reverseSlice' (lo+n-(q+1)) (lo+n)
        q:=0
      else
        let some lg ← ltAt' (lo+n-1) (lo+n)
          | return none
        if lg then break
        q:=q+1
      n:=n+1
    if q>0 then reverseSlice' (lo+n-(q+1)) (lo+n)
    reverseSlice' lo (lo+n)
    for _ in [n:m] do
      let some sm ← ltAt' (lo+n) (lo+n-1)
        | return none
      if sm then break
      n:=n+1
    return some n):=rfl
theorem xk (lo n ok:Nat):wZ lo n ok=(do
    for k in [max ok 1:n] do
      let mut l:=0;let mut r:=k
      for _ in [0:k] do
        if l≥r then break
        let m:=(l+r)/2
        let some le ← ltAt' (lo+k) (lo+m)
          | return false
        if le then r:=m else l:=m+1
      moveDown' (lo+k) (lo+l)
    return true):=rfl
section
variable  {O:IA}(key:Dp->O.α)
def kk (xs:Array Dp)(i:Nat):O.α:=key ((xs[i]?).getD (EW,EW))
def Up (xs:Array Dp)(lo n:Nat):Prop:=∀i j,lo<=i->i<=j->j<lo+n->O.kle (kk key xs i) (kk key xs j)
def Down (xs:Array Dp)(lo n:Nat):Prop:=∀i j,lo<=i->i<=j->j<lo+n->O.kle (kk key xs j) (kk key xs i)
variable  {key}
theorem iV {xs ys:Array Dp}{i j:Nat}(h:xs[i]? = ys[j]?):kk key xs i=kk key ys j:=by unfold kk;rw[h]
theorem nI {xs:Array Dp}{i j:Nat}(hj:j<=xs.size)(k:Nat):kk key (mirror xs i j ((j-i)/2)) k=if i<=k/\k<j then kk key xs (i+j-1-k) else kk key xs k:=by
 have e:=Kj (i:=i) hj k
 by_cases h:i<=k/\k<j
 ·rw[if_pos h] at e ⊢;exact iV e
 ·rw[if_neg h] at e ⊢;exact iV e
theorem fL {xs:Array Dp}{i j:Nat}(hj:j<=xs.size)(he:∀k,i<=k->k<j->kk key xs k=kk key xs (j-1))(k:Nat):kk key (mirror xs i j ((j-i)/2)) k=kk key xs k:=by
 rw[nI hj]
 split
 ·rw[he _ (by omega) (by omega),he k (by omega) (by omega)]
 ·rfl
end
structure SA (lo:Nat)(st st':DJ):Prop where
 perm:(Dw st').Perm (Dw st)
 pre:∀k,k<lo->(Dw st')[k]? = (Dw st)[k]?
 k:kindOf st'=kindOf st
 p:DF st'=DF st
 f:failedOf st'=failedOf st
theorem SA.refl (lo:Nat)(st:DJ):SA lo st st:=⟨Array.Perm.refl _,λ_ _=>rfl,rfl,rfl,rfl⟩
theorem SA.size {lo:Nat}{st st':DJ}(h:SA lo st st'):(Dw st').size=(Dw st).size:=h.perm.size_eq
theorem SA.mirror {lo:Nat}{st st':DJ}(h:SA lo st st'){i j:Nat}(hi:lo<=i)(hj:j<=(Dw st').size):SA lo st (setArr st' (mirror (Dw st') i j ((j-i)/2))) :=
 ⟨(mirror_perm _ _ _ _).trans h.perm,λk hk=>by
  show (PyProof.Rows.mirror (Dw st') i j ((j-i)/2))[k]? = _
  rw[Kj hj,if_neg (by lia)]
  exact h.pre k hk,h.k,h.p,h.f⟩
theorem SA.mem {lo:Nat}{st st':DJ}(h:SA lo st st'){p:Dp}(hp:p∈(Dw st').toList):p∈(Dw st).toList:=(IH.mp h.perm).mem_iff.mp hp
section
variable  {prog:De}{w:DN}{A:D1}{E:CJ->CN->Prop}{s:CN}{O:IA}{key:Dp->O.α}{U:Dp->Prop}{κ:SortKind}
theorem gO (C:Cmp prog w A s O key U κ){st:DJ}{i j:Nat}{Q:Option Bool->DJ->Prop}(hκ:kindOf st=κ)(hu:∀p∈(Dw st).toList,U p)(hi:i<(Dw st).size)(hj:j<(Dw st).size)
  (h:Q (some (O.blt (kk key (Dw st) i) (kk key (Dw st) j))) st):wpS (DA prog w) A E s (ltAt' i j) Q st:=by
 rw[ltAt'_eq]
 refine Df (Ja ?_)
 obtain ⟨x,ex⟩:=bp hi
 obtain ⟨y,ey⟩:=bp hj
 dsimp only
 refine Df (bh ex (Df (bh ey (C.lt _ st x y _ hκ (hu _ (cg ex)) (hu _ (cg ey)) ?_))))
 unfold kk at h
 rw[ex,ey] at h
 exact h
theorem zq (C:Cmp prog w A s O key U κ){st:DJ}{lo m:Nat}{Q:Option Nat->DJ->Prop}(hκ:kindOf st=κ)(hu:∀p∈(Dw st).toList,U p)(hm:1<=m)(hz:lo+m=(Dw st).size)
  (h:∀n st',1<=n->n<=m->SA lo st st'->Up key (Dw st') lo n->Q (some n) st'):wpS (DA prog w) A E s (A8 lo m) Q st:=by
 rw[zp]
 dsimp only
 refine Df (FG (EH (I:=λx c st'=>st=st'/\c=(none,x)/\Up key (Dw st) lo x)
  (Q:=λc st'=>st=st'/\∃n,c=(none,n)/\1<=n/\n<=m/\Up key (Dw st) lo n/\(n<m->O.klt (kk key (Dw st) (lo+n)) (kk key (Dw st) (lo+n-1)))) ?step ?fin ⟨rfl,rfl,λi j h1 h2 h3=>by rw[show i=j by lia];exact Fi _⟩) ?post)
 case fin =>
  rintro c st' ⟨rfl,rfl,up⟩
  exact ⟨rfl,_,rfl,by lia,by lia,by rw[show max 1 m=m by lia] at up ⊢;exact up,by lia⟩
 case step =>
  rintro x c st' h1 h2 ⟨rfl,rfl,up⟩
  dsimp only
  refine Df (gO C hκ hu (by lia) (by lia) ?_)
  dsimp only
  cases hb:O.blt (kk key (Dw st) (lo+x)) (kk key (Dw st) (lo+x-1)) with
  | true =>
   rw[if_pos rfl]
   exact Dr ⟨rfl,x,rfl,h1,by lia,up,λ_=>hb⟩
  | false =>
   rw[if_neg (by simp)]
   refine Dr ⟨rfl,rfl,λi j k1 k2 k3 =>?_⟩
   by_cases hj:j=lo+x
   ·by_cases hi:i=j
    ·rw[hi];exact Fi _
    ·rw[hj]
     exact DY (up i (lo+x-1) k1 (by lia) (by lia)) hb
   ·exact up i j k1 k2 (by lia)
 case post =>
  rintro c st' ⟨rfl,n,rfl,n1,n2,up,br⟩
  dsimp only
  by_cases c1:(n == m)=true
  ·rw[if_pos c1]
   exact Dr (h n st n1 n2 (SA.refl _ _) up)
  rw[if_neg c1]
  have nm:n<m:=by have:n≠m:=λz=>c1 (beq_iff_eq.mpr z);lia
  have br:=br nm
  by_cases c2:n>1
  case' pos =>
   rw[if_pos c2]
   refine Df (gO C hκ hu (by lia) (by lia) ?_)
   dsimp only
   cases hro:O.blt (kk key (Dw st) lo) (kk key (Dw st) (lo+n-1))
   case' true =>
    rw[if_pos rfl]
    exact Dr (h n st n1 n2 (SA.refl _ _) up)
   rw[if_neg (by simp)]
   have eqs:∀k,lo<=k->k<lo+n->kk key (Dw st) k=kk key (Dw st) (lo+n-1):=λk k1 k2 =>
    Kb (up k (lo+n-1) k1 (by lia) (by lia)) (DY (show O.kle (kk key (Dw st) (lo+n-1)) (kk key (Dw st) lo) from hro) (up lo k (CO _) k1 k2))
   rw[Ij]
   refine Df (FX ?_)
   have sa:=(SA.refl lo st).mirror (i:=lo) (j:=lo+n) (CO _) (by lia)
   have ke:=fL (key:=key) (xs:=Dw st) (i:=lo) (j:=lo+n) (by lia) eqs
   have ka:∀k,kk key (Dw (setArr st (mirror (Dw st) lo (lo+n) ((lo+n-lo)/2)))) k=kk key (Dw st) k:=ke
   generalize setArr st (mirror (Dw st) lo (lo+n) ((lo+n-lo)/2))=st1 at sa ka ⊢
   clear ke
  case' neg =>
   rw[if_neg c2]
   have eqs:∀k,lo<=k->k<lo+n->kk key (Dw st) k=kk key (Dw st) (lo+n-1):=λk k1 k2=>by rw[show k=lo+n-1 by lia]
   obtain ⟨st1,e1⟩:∃st1,st1=st:=⟨_,rfl⟩
   have sa:SA lo st st1:=by rw[e1];exact SA.refl _ _
   have ka:∀k,kk key (Dw st1) k=kk key (Dw st) k:=λk=>by rw[e1]
   rw[<- e1]
   clear e1
  all_goals
   refine Df (Jr (FE ⟨rfl,?_⟩))
   have dn:Down key (Dw st1) lo (n+1):=λi j k1 k2 k3=>by
    rw[ka,ka]
    by_cases hj:j=lo+n
    ·by_cases hi:i=j
     ·rw[hi];exact Fi _
     ·rw[hj,eqs i k1 (by lia)]
      exact ER br
    ·rw[eqs i k1 (by lia),eqs j (by lia) (by lia)]
     exact Fi _
   clear eqs up br ka
   refine Df (FG (EH (I:=λx c st'=>∃q,c=(none,x,q)/\x<=m/\SA lo st st'/\Down key (Dw st') lo x/\q+1<=x/\∀k,lo+x-(q+1)<=k->k<lo+x->kk key (Dw st') k=kk key (Dw st') (lo+x-1))
    (Q:=λc st'=>∃x q,c=(none,x,q)/\1<=x/\x<=m/\SA lo st st'/\Down key (Dw st') lo x/\q+1<=x/\∀k,lo+x-(q+1)<=k->k<lo+x->kk key (Dw st') k=kk key (Dw st') (lo+x-1)) ?step ?fin
    ⟨0,rfl,by lia,sa,dn,by lia,λk k1 k2=>by rw[show k=lo+(n+1)-1 by lia]⟩) ?post)
   case fin =>
    rintro c st' ⟨q,rfl,xm,sa,dn,hq,he⟩
    exact ⟨_,q,rfl,by lia,xm,sa,dn,hq,he⟩
   case step =>
    rintro x c st2 h1 h2 ⟨q,rfl,xm,sa2,dn2,hq,he⟩
    dsimp only
    have sz:=sa2.size
    have u2:∀p∈(Dw st2).toList,U p:=λp hp=>hu p (sa2.mem hp)
    refine Df (gO C (sa2.k.trans hκ) u2 (by lia) (by lia) ?_)
    dsimp only
    cases hb:O.blt (kk key (Dw st2) (lo+x)) (kk key (Dw st2) (lo+x-1)) with
    | true =>
     rw[if_pos rfl]
     have dn3:Down key (Dw st2) lo (x+1):=λi j k1 k2 k3=>by
      by_cases hj:j=lo+x
      ·by_cases hi:i=j
       ·rw[hi];exact Fi _
       ·rw[hj];exact DY (ER hb) (dn2 i (lo+x-1) k1 (by lia) (by lia))
      ·exact dn2 i j k1 k2 (by lia)
     by_cases q0:q>0
     ·rw[if_pos q0,Ij]
      refine Df (FX (Dr ?_))
      have ke:=fL (key:=key) (xs:=Dw st2) (i:=lo+x-(q+1)) (j:=lo+x) (by lia) he
      refine ⟨0,rfl,by lia,sa2.mirror (by lia) (by lia),λi j k1 k2 k3 =>?_,by lia,λk k1 k2=>by rw[show k=lo+(x+1)-1 by lia]⟩
      show O.kle (kk key (mirror (Dw st2) (lo+x-(q+1)) (lo+x) ((lo+x-(lo+x-(q+1)))/2)) j) (kk key (mirror (Dw st2) (lo+x-(q+1)) (lo+x) ((lo+x-(lo+x-(q+1)))/2)) i)
      rw[ke,ke]
      exact dn3 i j k1 k2 k3
     ·rw[if_neg q0]
      exact Dr ⟨0,rfl,by lia,sa2,dn3,by lia,λk k1 k2=>by rw[show k=lo+(x+1)-1 by lia]⟩
    | false =>
     rw[if_neg (by simp)]
     refine Df (gO C (sa2.k.trans hκ) u2 (by lia) (by lia) ?_)
     dsimp only
     cases hb2:O.blt (kk key (Dw st2) (lo+x-1)) (kk key (Dw st2) (lo+x)) with
     | true =>
      rw[if_pos rfl]
      exact Dr ⟨x,q,rfl,by lia,xm,sa2,dn2,hq,he⟩
     | false =>
      rw[if_neg (by simp)]
      have eq:=Kb (show O.kle (kk key (Dw st2) (lo+x)) (kk key (Dw st2) (lo+x-1)) from hb2) hb
      refine Dr ⟨q+1,rfl,by lia,sa2,λi j k1 k2 k3 =>?_,by lia,λk k1 k2 =>?_⟩
      ·by_cases hj:j=lo+x
       ·by_cases hi:i=j
        ·rw[hi];exact Fi _
        ·rw[hj,eq];exact dn2 i (lo+x-1) k1 (by lia) (by lia)
       ·exact dn2 i j k1 k2 (by lia)
      ·rw[show lo+(x+1)-1=lo+x by lia,eq]
       by_cases hk:k=lo+x
       ·rw[hk,eq]
       ·exact he k (by lia) (by lia)
   case post =>
    rintro c st2 ⟨x,q,rfl,x1,xm,sa2,dn2,hq,he⟩
    dsimp only
    have sz:=sa2.size
    by_cases q0:q>0
    case' pos =>
     rw[if_pos q0,Ij]
     refine Df (FX ?_)
     have ke:=fL (key:=key) (xs:=Dw st2) (i:=lo+x-(q+1)) (j:=lo+x) (by lia) he
     have sa3:=sa2.mirror (i:=lo+x-(q+1)) (j:=lo+x) (by lia) (by lia)
     have dn3:Down key (Dw (setArr st2 (mirror (Dw st2) (lo+x-(q+1)) (lo+x) ((lo+x-(lo+x-(q+1)))/2)))) lo x:=λi j k1 k2 k3=>by
      show O.kle (kk key (mirror (Dw st2) (lo+x-(q+1)) (lo+x) ((lo+x-(lo+x-(q+1)))/2)) j) (kk key (mirror (Dw st2) (lo+x-(q+1)) (lo+x) ((lo+x-(lo+x-(q+1)))/2)) i)
      rw[ke,ke]
      exact dn2 i j k1 k2 k3
     generalize setArr st2 (mirror (Dw st2) (lo+x-(q+1)) (lo+x) ((lo+x-(lo+x-(q+1)))/2))=st3 at sa3 dn3 ⊢
     clear ke
    case' neg =>
     rw[if_neg q0]
     obtain ⟨st3,e3⟩:∃st3,st3=st2:=⟨_,rfl⟩
     have sa3:SA lo st st3:=by rw[e3];exact sa2
     have dn3:Down key (Dw st3) lo x:=by rw[e3];exact dn2
     rw[<- e3]
     clear e3
    all_goals
     rw[Ij]
     refine Df (FX ?_)
     have sz3:=sa3.size
     have sa4:=sa3.mirror (i:=lo) (j:=lo+x) (CO _) (by lia)
     have km:=nI (key:=key) (xs:=Dw st3) (i:=lo) (j:=lo+x) (by lia)
     have up4:Up key (Dw (setArr st3 (mirror (Dw st3) lo (lo+x) ((lo+x-lo)/2)))) lo x:=λi j k1 k2 k3=>by
      show O.kle (kk key (mirror (Dw st3) lo (lo+x) ((lo+x-lo)/2)) i) (kk key (mirror (Dw st3) lo (lo+x) ((lo+x-lo)/2)) j)
      rw[km,km,if_pos ⟨by lia,by lia⟩,if_pos ⟨by lia,by lia⟩]
      exact dn3 _ _ (by lia) (by lia) (by lia)
     generalize setArr st3 (mirror (Dw st3) lo (lo+x) ((lo+x-lo)/2))=st4 at sa4 up4 ⊢
     clear km
     have u4:∀p∈(Dw st4).toList,U p:=λp hp=>hu p (sa4.mem hp)
     have sz4:=sa4.size
     refine Df (FG (EH (I:=λz c st'=>st4=st'/\c=(none,z)/\z<=m/\Up key (Dw st4) lo z)
      (Q:=λc st'=>st4=st'/\∃z,c=(none,z)/\1<=z/\z<=m/\Up key (Dw st4) lo z) ?step ?fin ⟨rfl,rfl,xm,up4⟩) ?post)
     case fin =>
      rintro c st' ⟨rfl,rfl,zm,up⟩
      exact ⟨rfl,_,rfl,by lia,zm,up⟩
     case post =>
      rintro c st' ⟨rfl,z,rfl,z1,zm,up⟩
      exact Dr (h z st4 z1 zm sa4 up)
     case step =>
      rintro z c st' h1 h2 ⟨rfl,rfl,zm,up⟩
      dsimp only
      refine Df (gO C (sa4.k.trans hκ) u4 (by lia) (by lia) ?_)
      dsimp only
      cases hb:O.blt (kk key (Dw st4) (lo+z)) (kk key (Dw st4) (lo+z-1)) with
      | true =>
       rw[if_pos rfl]
       exact Dr ⟨rfl,z,rfl,by lia,zm,up⟩
      | false =>
       rw[if_neg (by simp)]
       refine Dr ⟨rfl,rfl,by lia,λi j k1 k2 k3 =>?_⟩
       by_cases hj:j=lo+z
       ·by_cases hi:i=j
        ·rw[hi];exact Fi _
        ·rw[hj];exact DY (up i (lo+z-1) k1 (by lia) (by lia)) hb
       ·exact up i j k1 k2 (by lia)
theorem nJ {xs:Array Dp}{src d:Nat}(hs:src<xs.size)(hd:d<=src)(k:Nat) :
  kk key (bubble xs src d) k=if k=src-d then kk key xs src else if src-d<k/\k<=src then kk key xs (k-1) else kk key xs k:=by
 have e:=getElem?_bubble hs d hd k
 by_cases h1:k=src-d
 ·rw[if_pos h1] at e ⊢;exact iV e
 ·rw[if_neg h1] at e ⊢
  by_cases h2:src-d<k/\k<=src
  ·rw[if_pos h2] at e ⊢;exact iV e
  ·rw[if_neg h2] at e ⊢;exact iV e
theorem SA.bubble {lo:Nat}{st st':DJ}(h:SA lo st st'){src d:Nat}(hs:src<(Dw st').size)(hd:lo+d<=src):SA lo st (setArr st' (bubble (Dw st') src d)) :=
 ⟨(bubble_perm _ _ _).trans h.perm,λk hk=>by
  show (PyProof.Rows.bubble (Dw st') src d)[k]? = _
  rw[getElem?_bubble hs d (by lia),if_neg (by lia),if_neg (by lia)]
  exact h.pre k hk,h.k,h.p,h.f⟩
theorem xo (C:Cmp prog w A s O key U κ){st:DJ}{lo n ok:Nat}{Q:Bool->DJ->Prop}(hκ:kindOf st=κ)(hu:∀p∈(Dw st).toList,U p)(hn:lo+n<=(Dw st).size)(hok:ok<=n)(up:Up key (Dw st) lo ok)
  (h:∀st',SA lo st st'->Up key (Dw st') lo n->Q true st'):wpS (DA prog w) A E s (wZ lo n ok) Q st:=by
 rw[xk]
 dsimp only
 refine Df (FG (EH (I:=λx c st'=>c=(none,())/\SA lo st st'/\Up key (Dw st') lo (min x n)) (Q:=λc st'=>c=(none,())/\SA lo st st'/\Up key (Dw st') lo n) ?step ?fin ⟨rfl,SA.refl _ _,λi j k1 k2 k3 =>?_⟩) ?post)
 case post =>
  rintro c st' ⟨rfl,sa,up⟩
  exact Dr (h st' sa up)
 case fin =>
  rintro c st' ⟨rfl,sa,up⟩
  refine ⟨rfl,sa,?_⟩
  rw[show min (max (max ok 1) n) n=n by lia] at up
  exact up
 case step =>
  rintro k c st1 h1 h2 ⟨rfl,sa1,up1⟩
  rw[show min k n=k by lia] at up1
  have sz:=sa1.size
  have u1:∀p∈(Dw st1).toList,U p:=λp hp=>hu p (sa1.mem hp)
  refine Df (FG (EH (I:=λx c st'=>st1=st'/\∃l r,c=(none,l,r)/\l<=r/\r<=k/\r-l<=k-x/\(∀i,i<l->O.kle (kk key (Dw st1) (lo+i)) (kk key (Dw st1) (lo+k)))/\(∀i,r<=i->i<k->O.klt (kk key (Dw st1) (lo+k)) (kk key (Dw st1) (lo+i))))
   (Q:=λc st'=>st1=st'/\∃l r,c=(none,l,r)/\l<=k/\(∀i,i<l->O.kle (kk key (Dw st1) (lo+i)) (kk key (Dw st1) (lo+k)))/\(∀i,l<=i->i<k->O.klt (kk key (Dw st1) (lo+k)) (kk key (Dw st1) (lo+i)))) ?istep ?ifin ⟨rfl,0,k,rfl,by lia,by lia,by lia,λi hi=>by lia,λi a1 a2=>by lia⟩) ?ipost)
  case ifin =>
   rintro c st' ⟨rfl,l,r,rfl,b1,b2,b3,b4,b5⟩
   have e:l=r:=by lia
   subst e
   exact ⟨rfl,l,l,rfl,b2,b4,b5⟩
  case istep =>
   rintro x c st' _ hx ⟨rfl,l,r,rfl,b1,b2,b3,b4,b5⟩
   dsimp only
   by_cases hge:l≥r
   ·rw[if_pos hge]
    have e:l=r:=by lia
    subst e
    exact Dr ⟨rfl,l,l,rfl,b2,b4,b5⟩
   ·rw[if_neg hge]
    refine Df (gO C (sa1.k.trans hκ) u1 (by lia) (by lia) ?_)
    dsimp only
    cases hb:O.blt (kk key (Dw st1) (lo+k)) (kk key (Dw st1) (lo+(l+r)/2)) with
    | true =>
     rw[if_pos rfl]
     exact Dr ⟨rfl,l,(l+r)/2,rfl,by lia,by lia,by lia,b4,λi a1 a2=>KeyOrd.klt_of_klt_of_kle hb (up1 _ _ (by lia) (by lia) (by lia))⟩
    | false =>
     rw[if_neg (by simp)]
     exact Dr ⟨rfl,(l+r)/2+1,r,rfl,by lia,by lia,by lia,λi a1=>DY (up1 (lo+i) (lo+(l+r)/2) (by lia) (by lia) (by lia)) hb,b5⟩
  case ipost =>
   rintro c st' ⟨rfl,l,r,rfl,b2,b4,b5⟩
   dsimp only
   rw[moveDown'_eq]
   have e:lo+k-(lo+l)=k-l:=by lia
   refine Df (FX (Dr ⟨rfl,?_,?_⟩))
   ·rw[e]
    exact sa1.bubble (by lia) (by lia)
   ·rw[show min (k+1) n=k+1 by lia]
    intro i j k1 k2 k3
    show O.kle (kk key (bubble (Dw st1) (lo+k) (lo+k-(lo+l))) i) (kk key (bubble (Dw st1) (lo+k) (lo+k-(lo+l))) j)
    have lt:lo+k<(Dw st1).size:=by lia
    rw[e,nJ lt (by lia),nJ lt (by lia),show lo+k-(k-l)=lo+l by lia]
    have b4':∀z,lo<=z->z<lo+l->O.kle (kk key (Dw st1) z) (kk key (Dw st1) (lo+k)):=λz z1 z2=>by
     have:=b4 (z-lo) (by lia)
     rw[show lo+(z-lo)=z by lia] at this
     exact this
    have b5':∀z,lo+l<=z->z<lo+k->O.kle (kk key (Dw st1) (lo+k)) (kk key (Dw st1) z):=λz z1 z2=>by
     have:=b5 (z-lo) (by lia) (by lia)
     rw[show lo+(z-lo)=z by lia] at this
     exact ER this
    repeat' split
    all_goals first
     | (exfalso;lia)
     | exact Fi _
     | exact b4' _ (by lia) (by lia)
     | exact b5' _ (by lia) (by lia)
     | exact up1 _ _ (by lia) (by lia) (by lia)
 ·by_cases h1:ok=0
  ·rw[show i=j by lia];exact Fi _
  ·exact up i j k1 k2 (by lia)
end
open PySem PyProof.Rows
def pwr:Nat->Nat->Nat->Nat->Nat:=sortPriv% PySem.Builtin.power
def mrn:Nat->Nat->Nat->Nat:=sortPriv% PySem.Builtin.minRun
theorem xq:Ai=(do
    let sz:=(Dw (← get)).size
    let mr:=mrn sz sz 0
    let mut lo:=0
    for _ in [0:sz] do
      if lo≥sz then break
      let some fd ← A8 lo (sz-lo)
        | return
      let mut n:=fd
      if n<mr then
        rule "list.sort.binary-insertion"
        let fo:=min (sz-lo) mr
        if !(← wZ lo fo n) then return
        n:=fo
      if let some (s1,n1,_):=(DF (← get)).back? then
        let pw:=pwr sz (2*s1+n1) (2*s1+n1+n1+n) sz
        for _ in [0:sz] do
          let p:=DF (← get)
          let some (_,_,old):=(if p.size>1 then p[p.size-2]? else none)
            | break
          if old<=pw then break
          if !(← mAt (p.size-2)) then return
        modify λs=>SortSt.mk' (kindOf s) (Dw s) ((DF s).modify ((DF s).size-1) λ(st,len,_)=>(st,len,pw)) (gallopOf s) (failedOf s)
      modify λs=>SortSt.mk' (kindOf s) (Dw s) ((DF s).push (lo,n,0)) (gallopOf s) (failedOf s)
      lo:=lo+n
    for _ in [0:sz] do
      let p:=DF (← get)
      if p.size<=1 then break
      let i:=p.size-2
      let bf:=if i>0 then p[i-1]?.map (·.2.1) else none
      let i:=if bf.any (· < (p[i+1]?.elim 0 (·.2.1))) then i-1 else i
      if !(← mAt i) then return):=rfl
def Mt:Nat->List (List Dp)->List (Nat×Nat×Nat)->Prop
 | _,[],[]=>True
 | off,r :: rs,p :: ps=>p.1=off/\p.2.1=r.length/\Mt (off+r.length) rs ps
 | _,_,_=>False
theorem Mt.length:∀{off:Nat} {rs:List (List Dp)} {ps:List (Nat×Nat×Nat)},Mt off rs ps->ps.length=rs.length
 | _,[],[],_=>rfl
 | _,_ :: _,_ :: _,h=>by rw[Dx,Dx,Mt.length h.2.2]
theorem Mt.append:∀{off:Nat} {rs ts:List (List Dp)} {ps us:List (Nat×Nat×Nat)},Mt off rs ps->Mt (off+rs.flatten.length) ts us->Mt off (rs++ts) (ps++us)
 | _,[],_,[],_,_,h=>by simpa using h
 | off,r :: rs,ts,p :: ps,us,h,h'=>by
  refine ⟨h.1,h.2.1,Mt.append h.2.2 ?_⟩
  rw[Fx,CL, <- LW] at h'
  exact h'
theorem Mt.split:∀{off:Nat} {rs:List (List Dp)} {ps:List (Nat×Nat×Nat)} (i:Nat),Mt off rs ps->i+1<ps.length →
  ∃R1 X Y R2 L1 w1 w2 L2,rs=R1++X :: Y :: R2/\ps=L1++(off+R1.flatten.length,X.length,w1) :: (off+R1.flatten.length+X.length,Y.length,w2) :: L2/\L1.length=i/\Mt off R1 L1/\Mt (off+R1.flatten.length+X.length+Y.length) R2 L2
 | off,r :: r2 :: rs,p :: p2 :: ps,0,h,_=>by
  obtain ⟨a,b,w1⟩:=p
  obtain ⟨c,d,w2⟩:=p2
  obtain ⟨h1,h2,h3,h4,h5⟩:=h
  dsimp only at h1 h2 h3 h4
  subst h1 h2 h3 h4
  exact ⟨[],r,r2,rs,[],w1,w2,ps,rfl,rfl,rfl,trivial,h5⟩
 | off,r :: rs,p :: ps,i+1,h,hl=>by
  rw[Dx] at hl
  obtain ⟨R1,X,Y,R2,L1,w1,w2,L2,e1,e2,e3,m1,m2⟩:=Mt.split i h.2.2 (by lia)
  have ea:off+(r :: R1).flatten.length=off+r.length+R1.flatten.length:=by rw[Fx,CL];lia
  refine ⟨r :: R1,X,Y,R2,p :: L1,w1,w2,L2,by rw[e1];rfl,?_,by rw[Dx,e3],⟨h.1,h.2.1,m1⟩,?_⟩
  ·rw[ea,e2];rfl
  ·rw[ea];exact m2
 | off,[],[],i,_,hl=>by simp at hl
 | off,[_],[_],0,_,hl=>by simp at hl
theorem Mt.modify (f:Nat×Nat×Nat->Nat×Nat×Nat)(hf:∀p,(f p).1=p.1/\(f p).2.1=p.2.1):∀{off:Nat} {rs:List (List Dp)} {ps:List (Nat×Nat×Nat)} (i:Nat),Mt off rs ps->Mt off rs (ps.modify i f)
 | _,[],[],i,_=>by cases i <;> exact trivial
 | off,r :: rs,p :: ps,0,h=>⟨(hf p).1.trans h.1,(hf p).2.trans h.2.1,h.2.2⟩
 | off,r :: rs,p :: ps,i+1,h=>⟨h.1,h.2.1,Mt.modify f hf i h.2.2⟩
theorem vB {α:Type}(l:List α)(a b c:α)(r:List α):((l++a :: b :: r).set l.length c).eraseIdx (l.length+1)=l++c :: r:=by
 induction l with
 | nil=>rfl
 | cons x l ih=>simp only[List.cons_append,Dx,List.set_cons_succ,HF,ih]
section
variable  {O:IA}(key:Dp->O.α)(U:Dp->Prop)(κ:SortKind)
structure Rn (a0:List Dp)(lo:Nat)(st:DJ):Prop where
 ex:∃runs rest,(Dw st).toList=runs.flatten++rest/\runs.flatten.length=lo/\(∀r∈runs,r.Pairwise (Le key)/\0<r.length)/\Mt 0 runs (DF st).toList
 perm:(Dw st).toList.Perm a0
 k:kindOf st=κ
 f:failedOf st=none
end
section
variable  {prog:De}{w:DN}{A:D1}{E:CJ->CN->Prop}{s:CN}{O:IA}{key:Dp->O.α}{U:Dp->Prop}{κ:SortKind}
theorem qr (C:Cmp prog w A s O key U κ){a0:List Dp}{lo i:Nat}{st:DJ}{Q:Bool->DJ->Prop}(hu:∀p∈a0,U p)(R:Rn key κ a0 lo st)(hi:i+1<(DF st).size)
  (h:∀st',Rn key κ a0 lo st'->(DF st').size+1=(DF st).size->(Dw st').toList.drop lo=(Dw st).toList.drop lo->Q true st'):wpS (DA prog w) A E s (mAt i) Q st:=by
 obtain ⟨runs,rest,ea,el,er,em⟩:=R.ex
 obtain ⟨R1,X,Y,R2,L1,w1,w2,L2,e1,e2,e3,m1,m2⟩:=Mt.split i em (by rw[CV];exact hi)
 subst e1
 rw[Gx] at e2 m2
 have hx:=er X (by simp)
 have hy:=er Y (by simp)
 have ga:(DF st)[i]? = some (R1.flatten.length,X.length,w1):=by
  rw[<- C3,e2, <- e3,show L1.length=L1.length+0 by lia,sC];rfl
 have gb:(DF st)[i+1]? = some (R1.flatten.length+X.length,Y.length,w2):=by
  rw[<- C3,e2, <- e3,sC];rfl
 refine Bh C (P:=R1.flatten) (X:=X) (Y:=Y) (S:=R2.flatten++rest) R.k R.f (by rw[ea];simp) (λp hp=>hu p (R.perm.mem_iff.mp hp)) ga gb hx.2 hy.2 hx.1 hy.1 λst' M pm sm ar pd kd fl =>?_
 have lm:M.length=X.length+Y.length:=by rw[pm.length_eq,CL]
 have ep:(DF st').toList=L1++(R1.flatten.length,X.length+Y.length,w1) :: L2:=by
  rw[pd,Array.toList_eraseIdxIfInBounds,IG,e2, <- e3]
  exact vB _ _ _ _ _
 refine h st' ⟨⟨R1++M :: R2,rest,?_,?_,λr hr =>?_,?_⟩,?_,kd,fl⟩ ?_ ?_
 ·rw[ar];simp
 ·rw[<- el];simp[lm];lia
 ·rcases CW.mp hr with q | q
  ·exact er r (by simp[q])
  ·rcases C9.mp q with q | q
   ·rw[q];exact ⟨sm,by have:=hx.2;lia⟩
   ·exact er r (by simp[q])
 ·rw[ep]
  refine Mt.append m1 ⟨by rw[Gx],lm.symm,?_⟩
  rw[Gx,lm, <- LW]
  exact m2
 ·rw[ar]
  refine List.Perm.trans ?_ R.perm
  rw[ea,show (R1++X :: Y :: R2).flatten++rest=R1.flatten++((X++Y)++(R2.flatten++rest)) by simp]
  exact E9 _ (F1 _ pm)
 ·rw[<- CV, <- CV,ep,e2]
  simp only[CL,Dx]
  lia
 ·have l1:(R1++M :: R2).flatten.length=lo:=by rw[<- el];simp[lm];lia
  have q1:(Dw st').toList=(R1++M :: R2).flatten++rest:=by rw[ar];simp
  rw[q1,ea, <- l1,IY,l1, <- el,IY]
theorem Rn.sa {a0:List Dp}{lo:Nat}{st st':DJ}(R:Rn key κ a0 lo st)(sa:SA lo st st'):Rn key κ a0 lo st':=by
 obtain ⟨runs,rest,ea,el,er,em⟩:=R.ex
 have et:(Dw st').toList.take lo=runs.flatten:=by
  have e1:(Dw st').toList.take lo=(Dw st).toList.take lo:=by
   refine Fb λi =>?_
   rw[Eu,Eu]
   split
   ·rw[C3,C3];exact sa.pre i (by assumption)
   ·rfl
  rw[e1,ea, <- el,LN]
 refine ⟨⟨runs,(Dw st').toList.drop lo,by rw[<- et,EF],el,er,by rw[sa.p];exact em⟩,(IH.mp sa.perm).trans R.perm,sa.k.trans R.k,sa.f.trans R.f⟩
theorem vC {xs:Array Dp}{lo n:Nat}(h:Up key xs lo n):((xs.toList.drop lo).take n).Pairwise (Le key):=by
 refine Gi.mpr λi j hi hj hij =>?_
 have get:∀k (hk:k<((xs.toList.drop lo).take n).length),key ((xs.toList.drop lo).take n)[k]=kk key xs (lo+k)/\k<n:=λk hk=>by
  have hk':=hk
  rw[Eb] at hk'
  refine ⟨?_,by lia⟩
  have e:((xs.toList.drop lo).take n)[k]? = xs[lo+k]? := by
   rw[Eu,if_pos (by lia),GN,C3]
  rw[CI hk] at e
  unfold kk
  rw[<- e];rfl
 obtain ⟨e1,l1⟩:=get i hi
 obtain ⟨e2,l2⟩:=get j hj
 show O.kle (key _) (key _)
 rw[e1,e2]
 exact h _ _ (by lia) (by lia) (by lia)
theorem Rn.push {a0:List Dp}{lo n:Nat}{st:DJ}(R:Rn key κ a0 lo st)(hn:0<n)(hz:lo+n<=(Dw st).size)(hs:(((Dw st).toList.drop lo).take n).Pairwise (Le key)) :
  Rn key κ a0 (lo+n) (SortSt.mk' (kindOf st) (Dw st) ((DF st).push (lo,n,0)) (gallopOf st) (failedOf st)):=by
 obtain ⟨runs,rest,ea,el,er,em⟩:=R.ex
 have ed:(Dw st).toList.drop lo=rest:=by rw[ea, <- el,IY]
 rw[ed] at hs
 have lr:n<=rest.length:=by
  have:=congrArg List.length ea
  rw[CV,CL,el] at this
  lia
 have lt:(rest.take n).length=n:=by rw[Eb];lia
 refine ⟨⟨runs++[rest.take n],rest.drop n,?_,?_,λr hr =>?_,?_⟩,R.perm,R.k,R.f⟩
 ·show (Dw st).toList=_
  rw[ea];simp
 ·simp[lt,el]
 ·rcases CW.mp hr with q | q
  ·exact er r q
  ·have e:r=rest.take n:=by simpa using q
   rw[e];exact ⟨hs,by lia⟩
 ·show Mt 0 _ ((DF st).push (lo,n,0)).toList
  rw[Fy]
  exact Mt.append em ⟨by show lo=_;lia,lt.symm,trivial⟩
theorem Rn.mod {a0:List Dp}{lo:Nat}{st:DJ}(R:Rn key κ a0 lo st)(i:Nat)(f:Nat×Nat×Nat->Nat×Nat×Nat)(hf:∀p,(f p).1=p.1/\(f p).2.1=p.2.1):Rn key κ a0 lo (SortSt.mk' (kindOf st) (Dw st) ((DF st).modify i f) (gallopOf st) (failedOf st)):=by
 obtain ⟨runs,rest,ea,el,er,em⟩:=R.ex
 refine ⟨⟨runs,rest,ea,el,er,?_⟩,R.perm,R.k,R.f⟩
 show Mt 0 runs ((DF st).modify i f).toList
 rw[Array.toList_modify]
 exact Mt.modify f hf i em
theorem Bi {c:Prop}[Decidable c]{n:Nat}(h:1<n):(if c then n-2-1 else n-2)+1<n:=by split <;> omega
theorem nK:∀{runs:List (List Dp)},(∀r∈runs,0<r.length)->runs.length<=runs.flatten.length
 | [],_=>CO _
 | r :: rs,h=>by
  have h1:=h r Di
  have h2:=nK λq hq=>h q (Dj _ hq)
  rw[Fx,CL,Dx]
  lia
theorem xr (C:Cmp prog w A s O key U κ){a0:List Dp}{st:DJ}{Q:Unit->DJ->Prop}(hu:∀p∈a0,U p)(ha:(Dw st).toList=a0)(hp:DF st = #[])(hk:kindOf st=κ)(hf:failedOf st=none)(h1:1<=a0.length)
  (h:∀st',(Dw st').toList.Perm a0->(Dw st').toList.Pairwise (Le key)->failedOf st'=none->Q () st'):wpS (DA prog w) A E s Ai Q st:=by
 rw[xq]
 refine Df (Ja ?_)
 dsimp only
 have sz0:(Dw st).size=a0.length:=by rw[<- CV,ha]
 have szR:∀{lo:Nat} {st':DJ},Rn key κ a0 lo st'->(Dw st').size=(Dw st).size:=λR=>by rw[<- CV,R.perm.length_eq,sz0]
 have uR:∀{lo:Nat} {st':DJ},Rn key κ a0 lo st'->∀p∈(Dw st').toList,U p:=λR p hp=>hu p (R.perm.mem_iff.mp hp)
 have R0:Rn key κ a0 0 st:=⟨⟨[],a0,by rw[ha];rfl,rfl,λr hr=>(by cases hr),by rw[hp];exact trivial⟩,by rw[ha],hk,hf⟩
 refine Df (FG (EH (I:=λx c st'=>∃lo,c=(none,lo)/\x<=lo/\lo<=(Dw st).size/\Rn key κ a0 lo st') (Q:=λc st'=>c=(none,(Dw st).size)/\Rn key κ a0 (Dw st).size st') ?step ?fin ⟨0,rfl,CO _,DQ _,R0⟩) ?post)
 case fin =>
  rintro c st' ⟨lo,rfl,l1,l2,R⟩
  obtain rfl:lo=(Dw st).size:=by lia
  exact ⟨rfl,R⟩
 case post =>
  rintro c st1 ⟨rfl,R⟩
  dsimp only
  have p0:(DF st1).size<=(Dw st).size:=by
   obtain ⟨runs,rest,ea,el,er,em⟩:=R.ex
   have q:=em.length
   rw[CV] at q
   have:=nK λr hr=>(er r hr).2
   lia
  refine Df (FG (EH (I:=λx c st'=>c=(none,())/\Rn key κ a0 (Dw st).size st'/\((DF st').size<=1\/(DF st').size+x<=(Dw st).size)) (Q:=λc st'=>c=(none,())/\Rn key κ a0 (Dw st).size st'/\(DF st').size<=1) ?stepB ?finB ⟨rfl,R,.inr (by lia)⟩) ?postB)
  case finB =>
   rintro c st' ⟨rfl,R,q⟩
   exact ⟨rfl,R,by lia⟩
  case stepB =>
   rintro x c st' _ hx ⟨rfl,R,q⟩
   refine Df (Ja ?_)
   by_cases c1:(DF st').size<=1
   ·rw[if_pos c1]
    exact Dr ⟨rfl,R,c1⟩
   rw[if_neg c1]
   refine Df (qr C hu R (Bi (by lia)) λst2 R2 s2 _ =>?_)
   simp only[EU,Dg,if_false]
   exact Dr ⟨rfl,R2,by lia⟩
  case postB =>
   rintro c st' ⟨rfl,R,q⟩
   obtain ⟨runs,rest,ea,el,er,em⟩:=R.ex
   have lm:=em.length
   rw[CV] at lm
   have lr:=congrArg List.length ea
   rw[CV,szR R,CL,el] at lr
   have er0:rest=[]:=FW.mp (by lia)
   subst er0
   rw[DU] at ea
   match runs,er,lm,el,ea with
   | [],_,_,el,_=>simp at el;lia
   | [r],er,_,_,ea =>
    have e:(Dw st').toList=r:=by rw[ea];simp
    exact Dr (h st' R.perm (by rw[e];exact (er r (by simp)).1) R.f)
   | _ :: _ :: _,_,lm,_,_=>simp at lm;lia
 case step =>
  rintro x c st1 _ hx ⟨lo,rfl,l1,l2,R⟩
  dsimp only
  by_cases cl:lo≥(Dw st).size
  ·rw[if_pos cl]
   obtain rfl:lo=(Dw st).size:=by lia
   exact Dr ⟨rfl,R⟩
  rw[if_neg cl]
  have s1:=szR R
  refine Df (zq C R.k (uR R) (by lia) (by lia) λn st2 n1 n2 sa2 up2 =>?_)
  dsimp only
  have R2:=R.sa sa2
  have s2:=szR R2
  by_cases cm:n<mrn (Dw st).size (Dw st).size 0
  case' pos =>
   rw[if_pos cm]
   refine Df (Jr (FE ⟨rfl,?_⟩))
   obtain ⟨fo,e⟩:∃fo,fo=min ((Dw st).size-lo) (mrn (Dw st).size (Dw st).size 0):=⟨_,rfl⟩
   rw[<- e]
   refine Df (xo C R2.k (uR R2) (by lia) (by lia) up2 λst3 sa3 up3 =>?_)
   simp only[EU,Dg,if_false]
   have R3:=R2.sa sa3
   have f0:0<fo:=by lia
   have f1:lo+fo<=(Dw st).size:=by lia
  case' neg =>
   rw[if_neg cm]
   obtain ⟨fo,e⟩:∃fo,fo=n:=⟨_,rfl⟩
   subst e
   obtain ⟨st3,e3⟩:∃st3,st3=st2:=⟨_,rfl⟩
   subst e3
   have R3:=R2
   have up3:=up2
   have f0:0<fo:=n1
   have f1:lo+fo<=(Dw st).size:=by lia
  all_goals
   have srt:=vC up3
   have s3:=szR R3
   refine Df (Ja ?_)
   cases hbk:(DF st3).back? with
   | none =>
    dsimp only
    exact Df (FX (Dr ⟨lo+fo,rfl,by lia,f1,R3.push f0 (by lia) srt⟩))
   | some t =>
    obtain ⟨t1,t2,t3⟩:=t
    dsimp only
    refine Df (FG (EH (I:=λ_ c st'=>c=(none,())/\Rn key κ a0 lo st'/\(Dw st').toList.drop lo=(Dw st3).toList.drop lo) (Q:=λc st'=>c=(none,())/\Rn key κ a0 lo st'/\(Dw st').toList.drop lo=(Dw st3).toList.drop lo) ?stepC ?finC ⟨rfl,R3,rfl⟩) ?postC)
    case finC=>exact λc st' q=>q
    case stepC =>
     rintro z c st4 _ _ ⟨rfl,R4,d4⟩
     refine Df (Ja ?_)
     by_cases p1:(DF st4).size>1
     ·rw[if_pos p1]
      have lt:(DF st4).size-2<(DF st4).size:=by lia
      have e:(DF st4)[(DF st4).size-2]? = some (DF st4)[(DF st4).size-2]:=by simp[lt]
      rw[e]
      dsimp only
      split
      ·exact Dr ⟨rfl,R4,d4⟩
      ·refine Df (qr C hu R4 (by lia) λst5 R5 _ d5 =>?_)
       simp only[EU,Dg,if_false]
       exact Dr ⟨rfl,R5,d5.trans d4⟩
     ·rw[if_neg p1]
      exact Dr ⟨rfl,R4,d4⟩
    case postC =>
     rintro c st4 ⟨rfl,R4,d4⟩
     dsimp only
     have s4:=szR R4
     refine Df (FX (Df (FX (Dr ⟨lo+fo,rfl,by lia,f1,?_⟩))))
     refine Rn.push ?_ f0 ?_ ?_
     ·refine Rn.mod R4 _ _ ?_
      exact λp=>⟨rfl,rfl⟩
     ·show lo+fo<=(Dw st4).size
      lia
     ·show (((Dw st4).toList.drop lo).take fo).Pairwise (Le key)
      rw[d4]
      exact srt
end
open PySem PyProof.Rows
structure iW (prog:De)(w:DN)(s:CN)(vs:List CJ)(O:IA)(key:CJ->O.α):Prop where
 ok:2<=vs.length->∀(A:D1) (h6:Heap),(∀b o,s.heap.get? b=some o->h6.get? b=some o)->∃κ,(∀(Q:SortKind->CN->Prop) (E:CJ->CN->Prop),Q κ { s with heap:=h6 }->Dh (DA prog w) A (keyKind' vs.toArray) Q E { s with heap:=h6 }) ∧
  Cmp prog w A { s with heap:=h6 } O (λp=>key p.1) (λp=>p.1=p.2/\p.1∈vs) κ
section
variable  {prog:De}{w:DN}{A:D1}{E:CJ->CN->Prop}{s:CN}{O:IA}{key:CJ->O.α}
theorem zs:∀vs:List CJ,(vs.zip vs).map (·.2)=vs
 | []=>rfl
 | v :: vs=>by rw[HC,Dy,zs vs]
theorem qu {l:List Dp}{vs:List CJ}(h:l.Perm (vs.zip vs)):(l.map (·.2)).Perm vs/\∀p∈l,p.1=p.2/\p.1∈vs:=by
 have e:=zs vs
 refine ⟨by have:=h.map (·.2);rw[e] at this;exact this,λp hp =>?_⟩
 have m:=h.mem_iff.mp hp
 obtain ⟨i,hi⟩:=DC.mp m
 rw[IX] at hi
 have e1:=hi.1.symm.trans hi.2
 exact ⟨Dk e1,CT hi.1⟩
theorem eQ {a:Addr}{vs:List CJ}{n:Nat}{P:Fin->CN->Prop}(ho:s.heap.get? a=some (seqObj "list" vs.toArray n))(hz:vs.length<=C6)
    (hc:2<=vs.length->∀h6,(∀b o,b≠a->s.heap.get? b=some o->h6.get? b=some o)->∃κ,(∀(Q:SortKind->CN->Prop) (E:CJ->CN->Prop),Q κ { s with heap:=h6 }->Dh (DA prog w) A (keyKind' vs.toArray) Q E { s with heap:=h6 }) ∧
      Cmp prog w A { s with heap:=h6 } O (λp=>key p.1) (λp=>p.1=p.2/\p.1∈vs) κ)
    (h:∀out:List CJ,out.Perm vs->out.Pairwise (λx y=>O.kle (key x) (key y))->P (.done (.ret .none)) { s with heap:=sortedHeap s.heap a vs out.toArray }):Dh (DA prog w) A (Builtin.«list.sort» ⟨[.ref a],[]⟩) P E s:=by
  rw[list_sort_plain]
  have ha:a<s.heap.objs.size:=C1 ho
  refine CD (K8 ho rfl ?_)
  refine CD (KD ho rfl ?_ (by rw[CS];exact hz) (DQ _))
  obtain ⟨e1,ho1⟩:∃e1,(s.heap.update a (EL λ_ => #[])).get? a=some (seqObj "list" #[] e1):=⟨_,get?_update_seq ho (λ_ => #[])⟩
  refine CD (seqEpoch_at ho1 rfl (CD (wpAny_newTuple ?_ (by exact hz))))
  refine CD (Iq ?_ (DQ _))
  refine D5 ?_
  generalize hH:((s.heap.update a (EL λ_ => #[])).push (seqObj "tuple" vs.toArray 0)).push (seqObj "list" #[] 0)=h6
  have kp:∀b o,b≠a->s.heap.get? b=some o->h6.get? b=some o:=λb o nb e=>by
    rw[<- hH]
    refine CH _ (CH _ ?_)
    rw[Kc _ _ _ _ nb]
    exact e
  have ho6:h6.get? a=some (seqObj "list" #[] e1):=by
    rw[<- hH]
    exact CH _ (CH _ ho1)
  have eH:∀out:List CJ,sortedHeap s.heap a vs out.toArray=h6.update a (EL λ_=>out.toArray):=λout=>by rw[<- hH];rfl
  have go:∀st':DJ,(Dw st').toList.Perm (vs.zip vs)->(Dw st').toList.Pairwise (λp q=>O.kle (key p.1) (key q.1))->failedOf st'=none →
      Dh (DA prog w) A (do
        let sorted:=(Dw st').map (·.2)
        let touched:=(← seqEpoch a) != e1
        Builtin.List.listUpdate (.ref a) λ_=>sorted
        if let some e:=failedOf st' then rule "list.sort.comparison-raised";throw e
        if touched then rule "list.sort.modified";raiseError "ValueError" "list modified during sort"
        ret .none) P E { s with heap:=h6 }:=by
    intro st' pm ps hf
    obtain ⟨z1,z2⟩:=qu pm
    have em:(Dw st').map (·.2)=((Dw st').toList.map (·.2)).toArray:=by
      apply Lh.mp
      rw[Ie]
    dsimp only
    refine CD (seqEpoch_at ho6 rfl ?_)
    refine CD (KD ho6 rfl ?_ (DQ _) (by rw[D7, <- CV,pm.length_eq,Lu,IP];lia))
    rw[hf]
    simp only[bne_self_eq_false,Dg,if_false]
    refine CK ?_
    rw[em, <- eH]
    refine h _ z1 (Ef.mpr (ps.imp_of_mem λ{p q} hp hq le =>?_))
    rw[<- (z2 p hp).1, <- (z2 q hq).1]
    exact le
  by_cases h2:vs.toArray.size<2
  · rw[if_pos h2,if_pos h2]
    refine CD (CK ?_)
    dsimp only
    rw[StateT.run_pure]
    refine CD (CK ?_)
    refine go (SortSt.mk' general' (vs.toArray.zip vs.toArray) #[] 7 none) (by show (vs.toArray.zip vs.toArray).toList.Perm _;simp) ?_ rfl
    rw[CS] at h2
    have et:(vs.toArray.zip vs.toArray).toList=vs.zip vs:=by simp
    show (vs.toArray.zip vs.toArray).toList.Pairwise (λ(p q:Dp)=>O.kle (key p.1) (key q.1))
    rw[et]
    have short:∀us:List CJ,us.length<2->(us.zip us).Pairwise (λ(p q:Dp)=>O.kle (key p.1) (key q.1)):=λus hu=>by
      match us,hu with
      | [],_=>exact List.Pairwise.nil
      | [v],_=>exact FV _ _
      | _ :: _ :: _,hu=>simp only[Dx] at hu;lia
    exact short vs h2
  · rw[if_neg h2,if_neg h2]
    rw[CS] at h2
    obtain ⟨κ,k1,C⟩:=hc (by lia) h6 kp
    refine CD (k1 _ _ ?_)
    have et:(vs.toArray.zip vs.toArray).toList=vs.zip vs:=by simp
    refine CD (FD (xr C (E:=E) (a0:=vs.zip vs) (st:=SortSt.mk' κ (vs.toArray.zip vs.toArray) #[] 7 none)
      (Q:=λ_ st'=>(Dw st').toList.Perm (vs.zip vs)/\(Dw st').toList.Pairwise (Le λ(p:Dp)=>key p.1)/\failedOf st'=none)
      (qu (Hf _)).2 et rfl rfl rfl (by rw[Lu,IP];lia) λst' a1 a2 a3=>⟨a1,a2,a3⟩) ?_ λ_ _ e=>e)
    rintro ⟨⟨⟩,st'⟩ s' ⟨rfl,hp,hs,hf⟩
    exact go st' hp hs hf
def qv (prog:De)(w:DN)(s:CN)(v:CJ)(vs:List CJ):Prop :=
 ∀(A:D1) (E:CJ->CN->Prop) (R:List CJ->CN->Prop),(∀h1,(∀b o,s.heap.get? b=some o->h1.get? b=some o)->s.heap.objs.size<=h1.objs.size->R vs { s with heap:=h1 })->Dh (DA prog w) A (collect v) R E s
theorem lB {v:CJ}{vs:List CJ}{Q:CJ->CN->Prop}(hv:qv prog w s v vs)(hz:vs.length<=C6)(C:iW prog w s vs O key)
  (h:∀(h':Heap) (p:Addr) (out:List CJ) (n:Nat),(∀b o,s.heap.get? b=some o->h'.get? b=some o)->s.heap.objs.size<=p->h'.get? p=some (seqObj "list" out.toArray n)->out.Perm vs->out.Pairwise (λx y=>O.kle (key x) (key y))->Q (.ref p) { s with heap:=h' }) :
  Dh (DA prog w) A (call (.builtin "sorted") [v]) Q E s:=by
 refine Hh LG K9 La (Lb _) ?_
 unfold Builtin.«sorted»
 refine CD (m:=checkCount "sorted" 1 1 _) (CK ?_)
 refine CD (hv _ _ _ λh1 k1 z1=>CD (Iq ?_ hz))
 have hoL:(h1.push (seqObj "list" vs.toArray 0)).get? h1.objs.size=some (seqObj "list" vs.toArray 0):=CZ _ rfl
 have kL:∀b o,s.heap.get? b=some o->(h1.push (seqObj "list" vs.toArray 0)).get? b=some o:=λb o e=>CH _ (k1 b o e)
 refine CD (D5 (Em slot_list_sort ⟨_,hoL,rfl⟩ entry_list_sort (eQ (key:=key) (O:=O) hoL hz (λh2 h6 k6 =>?_) λout pm ps=>⟨_,rfl,?_⟩) (J9 _)))
 ·exact C.ok h2 _ h6 λb o e=>k6 b o (Dc (Dm (C1 e) z1)) (kL b o e)
 ·obtain ⟨n,en⟩:=KG (out:=out.toArray) hoL
  refine CK ⟨_,rfl,h _ _ out n (λb o e =>?_) z1 en pm ps⟩
  have lt:=Dm (C1 e) z1
  rw[Ka (Dc lt) (by rw[K4];exact DW lt)]
  exact kL b o e
theorem iX {l:Addr}{o:Obj}{vs:List CJ}{n:Nat}(ho:s.heap.get? l=some o)(hc:o.cls = .type "list" \/ o.cls = .type "tuple")(hd:o.data = .seq vs.toArray n)(hz:vs.length<=C6):qv prog w s (.ref l) vs:=by
  intro A E R h
  unfold collect
  refine CD (Hj (D3 entry_proto_collect' ?_))
  show Dh _ _ (do again (.builtin "list.__iadd__" ⟨[<- newList [],.ref l],[]⟩)) _ _ s
  refine CD (Iq (CK ⟨IQ _ (by decide +kernel),D3 entry_list_iadd' ?_⟩))
  show Dh _ _ (DG (.ref s.heap.objs.size) (.ref l) (.ref s.heap.objs.size)) _ _ { s with heap:=s.heap.push (seqObj "list" #[] 0) }
  unfold DG
  have ho':(s.heap.push (seqObj "list" #[] 0)).get? l=some o:=CH _ ho
  have cond:∀T,o.cls = .type T->(T = "list" \/ T = "tuple")->Dh (DA prog w) A (typeOf (.ref l)) (λt s'=>t = .type T/\s'={ s with heap:=s.heap.push (seqObj "list" #[] 0) }) E { s with heap:=s.heap.push (seqObj "list" #[] 0) }:=λT e _=>Fs (T:=T) ⟨o,ho',e⟩ ⟨rfl,rfl⟩
  obtain ⟨T,eT,hT⟩:∃T,o.cls = .type T/\(T = "list" \/ T = "tuple"):=by
    rcases hc with hc | hc
    · exact ⟨_,hc,.inl rfl⟩
    · exact ⟨_,hc,.inr rfl⟩
  refine CD (Fs (T:=T) ⟨o,ho',eT⟩ ?_)
  rw[if_pos (by rcases hT with rfl | rfl <;> simp)]
  refine CD (K8 ho' hd ?_)
  refine CD (K8 (xs := #[]) (n:=0) (CZ _ rfl) rfl ?_)
  rw[if_neg (by simp)]
  refine CD (KD (xs := #[]) (n:=0) (CZ _ rfl) rfl ?_ (DQ _) (by show (#[]++vs.toArray).size<=C6+1;simp only[G3,CS,FH];lia))
  refine CK ?_
  show Dh (DA prog w) A (do
      let o ← load s.heap.objs.size
      match o.data with
      | .seq xs _=>pure xs.toList
      | _=>unsupported "internal:collect") R E { s with heap:=(s.heap.push (seqObj "list" #[] 0)).update s.heap.objs.size (EL (· ++ vs.toArray)) }
  refine CD (JZ (get?_update_seq (CZ _ rfl) _) ?_)
  show Dh _ _ (pure ((#[]:Array CJ)++vs.toArray).toList) R E _
  rw[show ((#[]:Array CJ)++vs.toArray).toList=vs by simp]
  refine CK (h _ (λb ob e =>?_) ?_)
  · rw[Kc _ _ _ _ (Dc (C1 e))]
    exact CH _ e
  · rw[Heap.size_update,K4]
    exact Iu _
end
open PySem PyProof.Rows
def sD:IA where
 α:=Int
 blt:=λa b=>decide (a<b)
 irrefl:=λa=>by simp
 trans:=λa b c h1 h2=>by simp at *;lia
 negTrans:=λa b c h=>by simp at *;lia
 total:=λa b h1 h2=>by simp at *;lia
theorem lex_irrefl:∀a,HT.lexLt a a=false
 | []=>rfl
 | x :: xs=>by rw[HT.cZ,if_pos rfl];exact lex_irrefl xs
theorem lex_trans:∀a b c,HT.lexLt a b=true->HT.lexLt b c=true->HT.lexLt a c=true
 | [],[],_,h,_=>by cases h
 | [],_ :: _,[],_,h=>by cases h
 | [],_ :: _,_ :: _,_,_=>rfl
 | _ :: _,[],_,h,_=>by cases h
 | _ :: _,_ :: _,[],_,h=>by cases h
 | x :: xs,y :: ys,z :: zs,h1,h2=>by
  rw[HT.cZ] at *
  by_cases e1:x=y
  ·subst e1
   rw[if_pos rfl] at h1
   by_cases e2:x=z
   ·rw[if_pos e2] at h2 ⊢
    exact lex_trans xs ys zs h1 h2
   ·rw[if_neg e2] at h2 ⊢
    exact h2
  ·rw[if_neg e1] at h1
   have l1:=of_decide_eq_true h1
   by_cases e2:y=z
   ·subst e2
    rw[if_neg e1]
    exact h1
   ·rw[if_neg e2] at h2
    have l2:=of_decide_eq_true h2
    rw[if_neg (by omega)]
    exact decide_eq_true (by omega)
theorem ff:∀a b,HT.lexLt a b=false->HT.lexLt b a=false->a=b
 | [],[],_,_=>rfl
 | [],_ :: _,h,_=>by cases h
 | _ :: _,[],_,h=>by cases h
 | x :: xs,y :: ys,h1,h2=>by
  rw[HT.cZ] at *
  by_cases e:x=y
  ·subst e
   rw[if_pos rfl] at h1 h2
   rw[ff xs ys h1 h2]
  ·rw[if_neg e] at h1
   rw[if_neg (D8 e)] at h2
   have a1:=of_decide_eq_false h1
   have a2:=of_decide_eq_false h2
   omega
theorem zr (a b c:List Int)(h:HT.lexLt a c=true):HT.lexLt a b=true\/HT.lexLt b c=true:=by
 cases h1:HT.lexLt a b with
 | true=>exact .inl rfl
 | false =>
  right
  cases h2:HT.lexLt b a with
  | true=>exact lex_trans b a c h2 h
  | false=>rw[<- ff a b h1 h2];exact h
def lexOrd:IA where
 α:=List Int
 blt:=HT.lexLt
 irrefl:=lex_irrefl
 trans:=lex_trans
 negTrans:=zr
 total:=ff
def intOf:CJ->Int
 | .int i _=>i
 | _=>0
section
variable  {prog:De}{w:DN}{A:D1}{E:CJ->CN->Prop}{s:CN}
theorem iY:∀{vs:List CJ} {ns:List Int},FF vs ns->∀v∈vs,∃i t,v = .int i t
 | _,_,.nil,v,h=>by cases h
 | _,_,.cons n t r,v,h=>by
  rcases C9.mp h with e | e
  ·exact ⟨n,t,e⟩
  ·exact iY r v e
theorem iZ {vs:List CJ}{ns:List Int}(hI:FF vs ns):iW prog w s vs sD intOf:=by
 refine ⟨λh2 A h6 _=>⟨oneType',λQ E q =>?_,⟨λE st x y Q hk hx hy q =>?_⟩⟩⟩
 ·match vs,h2,hI with
  | v1 :: v2 :: rest,_,hI =>
   rw[keyKind_ints hI]
   exact CK q
  | [],h2,_=>simp at h2
  | [_],h2,_=>simp at h2
 ·obtain ⟨i,t,e1⟩:=iY hI _ hx.2
  obtain ⟨j,u,e2⟩:=iY hI _ hy.2
  rw[lt'_eq]
  refine Df (Ja ?_)
  rw[hk,keyLt'_oneType,e1,e2]
  refine Df (Jr (GF (oneLt_int ⟨rfl,?_⟩)))
  refine Dr ?_
  have q':Q (some (decide (intOf x.1<intOf y.1))) st:=q
  rw[e1,e2] at q'
  exact q'
def dk (h:Heap)(v:CJ):List Int:=match v with
 | .ref p=>match h.get? p with
  | some o=>match o.data with
   | .seq xs _=>xs.toList.map intOf
   | _=>[]
  | none=>[]
 | _=>[]
def d7 (h:Heap)(v:CJ)(ns:List Int):Prop:=∃p o xs n,v = .ref p/\h.get? p=some o/\o.cls = .type "tuple" /\ o.data = .seq xs n/\FF xs.toList ns
theorem ints_map:∀{vs:List CJ} {ns:List Int},FF vs ns->vs.map intOf=ns
 | _,_,.nil=>rfl
 | _,_,.cons n t r=>by rw[Dy,ints_map r];rfl
theorem d7.ints {h:Heap}{v:CJ}{ns:List Int}(x:d7 h v ns):dk h v=ns:=by
 obtain ⟨p,o,xs,n,rfl,e,_,d,r⟩:=x
 unfold dk
 dsimp only
 rw[e]
 dsimp only
 rw[d]
 exact ints_map r
theorem d7.keeps {h h':Heap}{v:CJ}{ns:List Int}(x:d7 h v ns)(k:∀b o,h.get? b=some o->h'.get? b=some o):d7 h' v ns:=by
 obtain ⟨p,o,xs,n,rfl,e,r⟩:=x
 exact ⟨p,o,xs,n,rfl,k _ _ e,r⟩
theorem qw {fin:Bool}{Q:Bool->CN->Prop}:∀{us ws:List CJ} {ns ms:List Int} (i:Nat),FF us ns->FF ws ms->(fin=true↔(decide (ns.length<ms.length)=true))->Q (HT.lexLt ns ms) s →
  PySem.W.KatLex prog w A true fin Q (us.zip ws) i s
 | _,_,_,_,i,.nil,.nil,hf,q=>by
  refine JM ?_
  have e:fin=false:=by cases fin with
   | false=>rfl
   | true=>have:=hf.mp rfl;simp at this
  rw[e];exact q
 | _,_,_,_,i,.nil,.cons _ _ _,hf,q=>by
  refine JM ?_
  have e:fin=true:=hf.mpr (by simp)
  rw[e];exact q
 | _,_,_,_,i,.cons _ _ _,.nil,hf,q=>by
  refine JM ?_
  have e:fin=false:=by cases fin with
   | false=>rfl
   | true=>have:=hf.mp rfl;simp at this
  rw[e];exact q
 | _,_,_,_,i,.cons (ns:=ns) a t r,.cons (ns:=ms) c u r',hf,q=>by
  rw[HC]
  refine PySem.W.kat_cons (wpAny_eqBool_int ?_)
  rw[HT.cZ] at q
  by_cases e:a=c
  ·rw[if_pos e] at q
   rw[beq_iff_eq.mpr e]
   exact PySem.W.kat_yes (qw (i+1) r r' (by rw[hf];simp) q)
  ·rw[if_neg e] at q
   rw[beq_eq_false_iff_ne.mpr e]
   refine PySem.W.kat_no ?_
   by_cases i0:(true && i == 0)=true
   ·rw[i0]
    exact oneLt_int q
   ·rw[G4.mpr i0,oneLt'_eq]
    simp only[Dg,if_false]
    refine CD (HT.qk _ _ a t c u prog w _ _ ?_)
    exact ES q
theorem lC {h:Heap}:∀{vs:List CJ},(∀v∈vs,∃ns,d7 h v ns/\ns≠[])->∃fs,PySem.W.KatTups h vs fs/\fs.length=vs.length/\∀f∈fs,∃i t,f = .int i t
 | [],_=>⟨[],trivial,rfl,λf hf=>by cases hf⟩
 | v :: vs,hv=>by
  obtain ⟨fs,t,l,hf⟩:=lC λu hu=>hv u (Dj _ hu)
  obtain ⟨ns,⟨p,o,xs,n,rfl,e,c,d,r⟩,ne⟩:=hv v Di
  have hx:∃i t,xs[0]? = some (.int i t):=by
   rw[<- C3]
   generalize xs.toList=l at r
   cases r with
   | nil=>exact absurd rfl ne
   | cons i t r=>exact ⟨i,t,rfl⟩
  obtain ⟨i,t',hx⟩:=hx
  exact ⟨.int i t' :: fs,L6 e c d hx t,by rw[Dx,Dx,l],λf hf'=>by
   rcases C9.mp hf' with q | q
   ·exact ⟨i,t',q⟩
   ·exact hf f q⟩
theorem i3 {vs:List CJ}(hv:∀v∈vs,∃ns,d7 s.heap v ns/\ns≠[]):iW prog w s vs lexOrd (dk s.heap):=by
 refine ⟨λh2 A h6 k6=>⟨tuples' true,λQ E q =>?_,⟨λE st x y Q hk hx hy q =>?_⟩⟩⟩
 ·obtain ⟨fs,t,l,hf⟩:=lC (h:=h6) (vs:=vs) λv hv'=>by
   obtain ⟨ns,i,ne⟩:=hv v hv'
   exact ⟨ns,i.keeps k6,ne⟩
  refine PySem.W.kat_kind (T :=.type "int") t (by lia) (λf hf' =>?_) rfl q
  obtain ⟨i,t',rfl⟩:=hf f hf'
  exact L3 rfl
 ·obtain ⟨ns,i1,_⟩:=hv _ hx.2
  obtain ⟨ms,i2,_⟩:=hv _ hy.2
  have q':Q (some (HT.lexLt (dk s.heap x.1) (dk s.heap y.1))) st:=q
  rw[i1.ints,i2.ints] at q'
  obtain ⟨p1,o1,xs1,n1,e1,g1,c1,d1,r1⟩:=i1.keeps k6
  obtain ⟨p2,o2,xs2,n2,e2,g2,c2,d2,r2⟩:=i2.keeps k6
  rw[lt'_eq]
  refine Df (Ja ?_)
  rw[hk,e1,e2]
  have l1:=r1.length
  have l2:=r2.length
  refine Df (Jr (GF (PySem.W.kat_lt g1 d1 g2 d2 (qw 0 r1 r2 ?_ ⟨rfl,?_⟩))))
  ·rw[<- l1, <- l2,CV,CV]
  ·exact Dr q'
end
end Srt
namespace L2
open PySem PySem.Spec PyProof.Rows
theorem lD {α β:Type}{f:α -> β}:∀{l:List β} {m:List α},l.Perm (m.map f)->∃m':List α,m'.Perm m/\l=m'.map f:=by
 intro l m h
 generalize hk:m.map f=k at h
 induction h generalizing m with
 | nil =>
  have:m=[]:=List.map_eq_nil_iff.mp hk
  exact ⟨[],by rw[this],rfl⟩
 | cons x _ ih =>
  match m,hk with
  | y :: m,hk =>
   rw[Dy] at hk
   injection hk with h1 h2
   obtain ⟨m',p,e⟩:=ih h2
   exact ⟨y :: m',p.cons y,by rw[Dy, <- e,h1]⟩
  | [],hk=>cases hk
 | swap x y l =>
  match m,hk with
  | a :: b :: m,hk =>
   rw[Dy,Dy] at hk
   injection hk with h1 h2
   injection h2 with h2 h3
   exact ⟨b :: a :: m,List.Perm.swap a b m,by rw[Dy,Dy,h1,h2,h3]⟩
  | [],hk=>cases hk
  | [_],hk=>simp at hk
 | trans _ _ ih1 ih2 =>
  obtain ⟨m',p,e⟩:=ih2 hk
  obtain ⟨m'',p',e'⟩:=ih1 e.symm
  exact ⟨m'',p'.trans p,e'⟩
theorem cV:∀{ns:List Int} {us:List CJ},Vals (ns.map V.int) us->FF us ns:=λr=>intsAre_of r
theorem fM:∀{us:List CJ} {ns:List Int},FF us ns->Vals (ns.map V.int) us:=λr=>jB r
theorem fg:∀{us:List CJ},(∀u∈us,∃i t,u=Ex i t)->FF us (us.map Srt.intOf)
 | [],_ =>.nil
 | u :: us,h=>by
  obtain ⟨i,t,e⟩:=h u Di
  subst e
  exact .cons i t (fg λv hv=>h v (Dj _ hv))
theorem fj:∀{α:Type} {f:α -> Addr} {ps:List α} {us:List CJ},Vals (ps.map λx=>V.ref (f x)) us->us=ps.map λx=>Dd (f x)
 | _,_,[],_,r=>by cases r;rfl
 | _,f,p :: ps,_,r=>by
  cases r with
  | cons h t=>rw[Dy, <- fj t,show _=Dd (f p) from h]
theorem gP {α:Type}{f:α -> Addr}:∀{ps:List α},Vals (ps.map λx=>V.ref (f x)) (ps.map λx=>Dd (f x))
 | [] =>.nil
 | p :: ps =>.cons rfl gP
section
variable  {X:Cx}
theorem Inv.qx {pins:List (Addr×Obj)}{σ:St}{H:Hp}{s:CN}{p:Addr}{ys:List V}(I:Inv X pins σ H s)(h:SqL X.K H p ys\/SqT X.K H p ys) :
  ∃(its:List CJ) (o:Obj) (n:Nat),Vals ys its/\s.heap.get? p=some o/\(o.cls = .type "list" \/ o.cls = .type "tuple")/\o.data = .seq its.toArray n/\ys.length<=C6:=by
 rcases h with h | h
 ·obtain ⟨its,r,⟨o,n,e,c,_,d⟩,z⟩:=I.list h
  exact ⟨its,o,n,r,e,.inl c,d,z⟩
 ·obtain ⟨its,r,⟨o,e,c,n,d⟩,z⟩:=I.tuple h
  exact ⟨its,o,n,r,e,.inr c,d,z⟩
theorem Inv.newList {pins:List (Addr×Obj)}{σ:St}{H:Hp}{s:CN}{h':Heap}{p:Addr}{ys:List V}{its:List CJ}{n:Nat}(I:Inv X pins σ H s)(k:∀b o,s.heap.get? b=some o->h'.get? b=some o)(hp:s.heap.objs.size<=p)
  (e:h'.get? p=some { cls :=.type "list",data :=.seq its.toArray n }) (r:Vals ys its) (hz:ys.length<=C6):Inv X pins σ (upd H p (.lst ys)) { s with heap:=h' } :=
 I.laid (t':=s.toks) k hp ⟨hz,its,n,r,e⟩
theorem i4:bK X (.builtin "sorted") (λxs H Q=>∃(p:Addr) (ns:List Int),xs=[.ref p]/\(SqL X.K H p (ns.map V.int)\/SqT X.K H p (ns.map V.int))/\∀(l:Addr) (out:List Int),H l=none->out.Perm ns->out.Pairwise (· <= ·)->Q (.ref l) (upd H l (.lst (out.map V.int)))):=by
 intro pins s σ H xs us Q I r h
 obtain ⟨p,ns,rfl,hs,q⟩:=h
 obtain ⟨u,rfl,ru⟩:=vals1 r
 cases (show u=Dd p from ru)
 obtain ⟨its,o,n,rv,e,c,d,z⟩:=I.qx hs
 have hI:=cV rv
 have lz:its.length<=C6:=by rw[<- rv.length];exact z
 refine Srt.lB (Srt.iX e c d lz) lz (Srt.iZ hI) λh' l out m k hl el pm ps =>?_
 have hm:∀v∈out,∃i t,v=Ex i t:=λv hv=>Srt.iY hI v (pm.mem_iff.mp hv)
 have hO:=fg hm
 have pm':(out.map Srt.intOf).Perm ns:=by
  have:=pm.map Srt.intOf
  rw[Srt.ints_map hI] at this
  exact this
 refine ⟨.ref l,_,I.newList k hl el (fM hO) (by rw[CG,pm'.length_eq, <- CG (f:=V.int)];exact z),rfl,q l _ (I.hok.fresh hl) pm' ?_⟩
 refine Ef.mpr (ps.imp λ{x y} le =>?_)
 have le':decide (Srt.intOf y<Srt.intOf x)=false:=le
 have:=of_decide_eq_false le'
 lia
theorem fN:bK X (.builtin "sorted") (λxs H Q=>∃(p:Addr) (ts:List (Addr×List Int)),xs=[.ref p]/\(SqL X.K H p (ts.map λt =>.ref t.1)\/SqT X.K H p (ts.map λt =>.ref t.1))/\(∀t∈ts,SqT X.K H t.1 (t.2.map V.int)/\t.2≠[]) ∧
  ∀(l:Addr) (out:List (Addr×List Int)),H l=none->out.Perm ts->out.Pairwise (λa b=>HT.lexLt b.2 a.2=false)->Q (.ref l) (upd H l (.lst (out.map λt =>.ref t.1)))):=by
 intro pins s σ H xs us Q I r h
 obtain ⟨p,ts,rfl,hs,ht,q⟩:=h
 obtain ⟨u,rfl,ru⟩:=vals1 r
 cases (show u=Dd p from ru)
 obtain ⟨its,o,n,rv,e,c,d,z⟩:=I.qx hs
 have ei:=fj rv
 have lz:its.length<=C6:=by rw[<- rv.length];exact z
 have tup:∀t∈ts,Srt.d7 s.heap (Dd t.1) t.2:=λt hm=>by
  obtain ⟨jts,jr,⟨jo,je,jc,jn,jd⟩,_⟩:=I.tuple (ht t hm).1
  exact ⟨t.1,jo,_,jn,rfl,je,jc,jd,by simpa using cV jr⟩
 have hv:∀v∈its,∃ns,Srt.d7 s.heap v ns/\ns≠[]:=λv hv=>by
  rw[ei] at hv
  obtain ⟨t,hm,rfl⟩:=Du.mp hv
  exact ⟨t.2,tup t hm,(ht t hm).2⟩
 refine Srt.lB (Srt.iX e c d lz) lz (Srt.i3 hv) λh' l out m k hl el pm ps =>?_
 rw[ei] at pm
 obtain ⟨out',pm',rfl⟩:=lD pm
 refine ⟨.ref l,_,I.newList k hl el gP (by rw[CG,pm'.length_eq, <- CG (f:=λt:Addr×List Int=>V.ref t.1)];exact z),rfl,q l _ (I.hok.fresh hl) pm' ?_⟩
 refine (Ef.mp ps).imp_of_mem λ{a b} ha hb le =>?_
 have le':HT.lexLt (Srt.dk s.heap (Dd b.1)) (Srt.dk s.heap (Dd a.1))=false:=le
 rw[(tup a (pm'.mem_iff.mp ha)).ints,(tup b (pm'.mem_iff.mp hb)).ints] at le'
 exact le'
end
open PySem PySem.Spec PyProof.Rows
def SB (r:Addr)(H H':Hp):Prop:=∀b u,b≠r->H b=some u->H' b=some u
theorem SB.refl (r:Addr)(H:Hp):SB r H H:=λ_ _ _ h=>h
theorem SB.trans {r:Addr}{H H1 H2:Hp}(a:SB r H H1)(b:SB r H1 H2):SB r H H2:=λc u n h=>b c u n (a c u n h)
theorem SB.put {r:Addr}{H:Hp}(o:HO):SB r H (upd H r o):=λc u n h=>by rw[aD n];exact h
def Tp (H H':Hp):Prop:=∀b xs,H b=some (.tup xs)->H' b=some (.tup xs)
theorem aE.tp {H H':Hp}(a:aE H H'):Tp H H':=λc u h=>a c _ h
def mnI (a b:Int):Int:=if b<a then b else a
def mxI (a b:Int):Int:=if b>a then b else a
def nrm (a b:Int):List Int:=[mnI a b,mxI a b]
theorem cu (a b:Int):nrm a b=nrm b a:=by
 have h1:mnI a b=mnI b a:=by unfold mnI;split <;> split <;> lia
 have h2:mxI a b=mxI b a:=by unfold mxI;split <;> split <;> lia
 unfold nrm
 rw[h1,h2]
open PySem PySem.Spec PyProof.Rows
section
variable  {X:Cx}{tg:Expr}
def iSeq (K:CM)(tl:TE):TI:=λσ H R=>tl σ H λx H1=>∃a,x = .ref a/\(((∃xs,SqL K H1 a xs)/\R (Itl K a) H1)\/((∃xs,SqT K H1 a xs)/\R (Itt K a) H1))
theorem Bj {l:Expr}{tl:TE}(hl:PE X l tl):PI X tg l (iSeq X.K tl):=by
 intro pins s σ H R I h;refine thn (hl pins s σ H _ I h) λv s1 ⟨x,H1,I1,r1,q1⟩ =>?_
 obtain ⟨a,e,q1⟩:=q1
 subst e
 cases r1
 have fp:∀b∈[s1.heap.objs.size],j6 X pins H1 b:=λb hb=>by
  have e:b=s1.heap.objs.size:=by simpa using hb
  rw[e];exact I1.wG (CO _) (I1.hok.fresh (CO _))
 rcases q1 with ⟨⟨xs,hq⟩,q⟩ | ⟨⟨xs,hq⟩,q⟩
 ·obtain ⟨its,rv,p,hz⟩:=I1.list hq;refine Gw p.isList ?_
  exact ⟨s1.heap.objs.size,_,_,_,H1,rfl,I1.kept (t':=s1.toks) (λb o e=>CH _ e),nh a _,⟨_,CZ _ rfl,rfl,rfl⟩,fp,q⟩
 ·obtain ⟨its,rv,p,hz⟩:=I1.tuple hq;refine Fm (show s1.heap.IsTuple a its.toArray from p) ?_
  exact ⟨s1.heap.objs.size,_,_,_,H1,rfl,I1.kept (t':=s1.toks) (λb o e=>CH _ e),kN a _,⟨_,CZ _ rfl,rfl,rfl⟩,fp,q⟩
end
theorem vD {K:CM}{a:Addr}{xs:List V}{k:Nat}{tc:TT}{te:TE}{τ:St}{H:Hp}{Q:VK}(Pv:Nat->List V->Hp->Prop)(hp:H a=some (.lst xs)\/H a=some (.tup xs))(h0:Pv 0 [] H)(hz:xs.length<=C6)
  (hl:∀i ys H',Pv i ys H'->H' a=H a) (hs:∀i x ys H,xs[i]? = some x->ys.length<=i->Pv i ys H->t7 k tc te τ Pv i x ys H)
  (hd:∀ys H,ys.length<=xs.length->Pv xs.length ys H->∀l,H l=none->Q (.ref l) (upd H l (.lst ys))) :
  ((∃xs,SqL K H a xs)/\k7 (Itl K a) (eZ k) tc te τ Q H)\/((∃xs,SqT K H a xs)/\k7 (Itt K a) (eZ k) tc te τ Q H):=by
 rcases hp with hp | hp
 ·exact .inl ⟨⟨_,SqL.of hp⟩,cf Pv h0 hz (λi ys H' _ z=>SqL.of ((hl i ys H' z).trans hp)) hs hd⟩
 ·exact .inr ⟨⟨_,SqT.of hp⟩,dR Pv h0 hz (λi ys H' _ z=>SqT.of ((hl i ys H' z).trans hp)) hs hd⟩
theorem qy {X:Cx}{K:CM}{x y:Str}{i j k:Nat}{p p' pos:Pos}(hN:X.N.Nodup)(hi:X.N[i]? = some x)(hj:X.N[j]? = some y)(hx:Loc X.env.scope x)(hy:Loc X.env.scope y)(hc:X.calm=true:=by rfl)(h:X.K=K:=by rfl)
  (hf:X.fn x=true\/X.env.scope.names.lookup x=some .local:=by first | exact .inl rfl | exact .inr rfl) (hg:X.fn y=true\/X.env.scope.names.lookup y=some .local:=by first | exact .inl rfl | exact .inr rfl):PG X (.Tuple [.Name x p,.Name y p'] k pos) (Ah K i j):=by
 subst h
 exact bj hc (aA (aq hN hi hx hf) (aA (aq hN hj hy hg) aW))
end L2
namespace STab
open PySem PySem.SetTable
def oT (xs:Array Nat):Prop:=∀i j a b:Nat,xs[i]? = some a->xs[j]? = some b->i<j->a<b
theorem xt {xs:Array Nat}(R:oT xs)(j:Nat):∀(fuel lo hi:Nat),lo<=hi->hi<=xs.size->hi-lo<=fuel →
  (∀i a,i<lo->xs[i]? = some a->a<j)->(∀i a,hi<=i->xs[i]? = some a->j<=a) →
  below.go xs j fuel lo hi<=xs.size/\(∀i a,xs[i]? = some a->(i<below.go xs j fuel lo hi↔a<j)):=by
 intro fuel
 induction fuel with
 | zero =>
  intro lo hi h1 h2 h3 h4 h5
  unfold below.go
  refine ⟨by lia,λi a e=>⟨λq=>h4 i a q e,λq =>?_⟩⟩
  apply GI
  intro q2
  have:=h5 i a (by lia) e
  lia
 | succ fuel ih =>
  intro lo hi h1 h2 h3 h4 h5
  unfold below.go
  by_cases hl:lo<hi
  ·rw[if_pos hl]
   dsimp only
   have hm:(lo+hi)/2<xs.size:=by lia
   have em:xs[(lo+hi)/2]? = some xs[(lo+hi)/2]:=Ds hm
   have eg:xs.getD ((lo+hi)/2) j=xs[(lo+hi)/2]:=by simp[Array.getD,hm]
   rw[eg]
   by_cases hc:xs[(lo+hi)/2]<j
   ·rw[if_pos hc]
    refine ih _ _ (by lia) h2 (by lia) (λi a q e =>?_) h5
    by_cases q2:i=(lo+hi)/2
    ·rw[q2,em] at e;cases e;exact hc
    ·exact Nat.lt_trans (R i _ _ _ e em (by lia)) hc
   ·rw[if_neg hc]
    refine ih _ _ (by lia) (by lia) (by lia) h4 (λi a q e =>?_)
    by_cases q2:i=(lo+hi)/2
    ·rw[q2,em] at e;cases e;lia
    ·have:=R _ i _ _ em e (by lia)
     lia
  ·rw[if_neg hl]
   refine ⟨by lia,λi a e=>⟨λq=>h4 i a q e,λq =>?_⟩⟩
   apply GI
   intro q2
   have:=h5 i a (by lia) e
   lia
theorem d8 {xs:Array Nat}(R:oT xs)(j:Nat):below xs j<=xs.size/\∀i a,xs[i]? = some a->(i<below xs j↔a<j) :=
 xt R j _ _ _ (DQ _) (CO _) (by lia) (λi a h=>by lia) λi a h e=>by
  rw[Ft (by lia)] at e;cases e
theorem below_at {xs:Array Nat}(R:oT xs){i j:Nat}(h:xs[i]? = some j):below xs j=i:=by
 obtain ⟨h1,h2⟩:=d8 R j
 have hi:i<xs.size:=by
  apply GI;intro q;rw[Ft q] at h;cases h
 have a1:¬ i<below xs j:=λq=>by have:=(h2 i j h).mp q;lia
 apply GS (by lia)
 apply Ib
 intro q
 have e:=Ds (xs:=xs) (i:=below xs j) (by lia)
 have l1:=R _ _ _ _ e h q
 have:=(h2 _ _ e).mpr l1
 lia
theorem sE {xs:Array Nat}(R:oT xs){i j:Nat}(h:xs[i]? = some j):below xs (j+1)=i+1:=by
 obtain ⟨h1,h2⟩:=d8 R (j+1)
 have a1:i<below xs (j+1):=(h2 i j h).mpr (by lia)
 apply GS _ a1
 apply Ib
 intro q
 have hk:i+1<xs.size:=by lia
 have e:=Ds (xs:=xs) hk
 have l1:=R _ _ _ _ h e (by lia)
 have:=(h2 _ _ e).mp q
 lia
theorem sF {xs:Array Nat}(R:oT xs):below xs 0=0:=by
 obtain ⟨h1,h2⟩:=d8 R 0
 apply GS _ (DQ _)
 apply Ib
 intro q
 have:=(h2 0 _ (Ds (by lia))).mp q
 lia
theorem cv {α:Type}(xs:Array α)(p:Nat)(x:α):(insertAt xs p x).toList=xs.toList.take p++x :: xs.toList.drop p:=by
 unfold insertAt
 simp
 rw[C7 (by simp)]
theorem cE {α:Type}(xs:Array α){p:Nat}(hp:p<=xs.size)(x:α)(i:Nat) :
  (insertAt xs p x)[i]? = if i<p then xs[i]? else if i=p then some x else xs[i-1]? := by
 rw[<- C3,cv]
 have hl:(xs.toList.take p).length=p:=by rw[Eb,CV];lia
 by_cases h1:i<p
 ·rw[if_pos h1,Dv (by lia),Eu,if_pos h1,C3]
 ·rw[if_neg h1,DB (by lia),hl]
  by_cases h2:i=p
  ·rw[if_pos h2,h2,K5];rfl
  ·rw[if_neg h2]
   obtain ⟨d,hd⟩:∃d,i-p=d+1:=⟨i-p-1,by lia⟩
   rw[hd,Fj,GN,C3]
   congr 1;lia
theorem cI {α:Type}(xs:Array α)(p:Nat)(x:α):(insertAt xs p x).size=xs.size+1:=by
 rw[<- CV,cv,CL,Dx,Eb,Es,CV]
 lia
theorem insertAt_perm {α:Type}(xs:Array α)(p:Nat)(x:α):(insertAt xs p x).toList.Perm (x :: xs.toList):=by
 rw[cv]
 exact Lg.trans (by rw[EF])
theorem fO {α β:Type}(xs:Array α)(p:Nat)(x:α)(f:α -> β):(insertAt xs p x).map f=insertAt (xs.map f) p (f x):=by
 apply Lh.mp
 rw[Ie,cv,cv,Ie,C2,Dy,Io,G5]
theorem mP {xs:Array Nat}(R:oT xs){j:Nat}(hj:∀i:Nat,xs[i]? ≠ some j):oT (insertAt xs (below xs j) j):=by
 obtain ⟨h1,h2⟩:=d8 R j
 intro a b x y ea eb hab
 rw[cE _ h1] at ea eb
 by_cases a1:a<below xs j
 ·rw[if_pos a1] at ea
  have:=(h2 _ _ ea).mp a1
  by_cases b1:b<below xs j
  ·rw[if_pos b1] at eb;exact R _ _ _ _ ea eb hab
  ·rw[if_neg b1] at eb
   by_cases b2:b=below xs j
   ·rw[if_pos b2] at eb;cases eb;exact this
   ·rw[if_neg b2] at eb
    exact R _ _ _ _ ea eb (by lia)
 ·rw[if_neg a1] at ea
  rw[if_neg (by lia),if_neg (by lia)] at eb
  have l1:¬ y<j:=λq=>by have:=(h2 _ _ eb).mpr q;lia
  by_cases a2:a=below xs j
  ·rw[if_pos a2] at ea;cases ea
   have:y≠j:=λq=>hj _ (q ▸ eb)
   lia
  ·rw[if_neg a2] at ea
   exact R _ _ _ _ ea eb (by lia)
def occ (t:SetTable)(j:Nat):Prop:=∃i:Nat,t.place[i]? = some j
theorem jD {t:SetTable}(R:oT t.place){i j:Nat}(h:t.place[i]? = some j):t.slot j = .live i:=by
 unfold SetTable.slot
 dsimp only
 rw[below_at R h,h]
 simp
theorem sH {t:SetTable}(D:t.dummies = #[]){j:Nat}(h:¬ occ t j):t.slot j = .empty:=by
 unfold SetTable.slot
 dsimp only
 have h1:(t.place[below t.place j]? == some j)=false:=by
  rw[beq_eq_false_iff_ne];exact λq=>h ⟨_,q⟩
 rw[h1,D]
 simp[has]
def adv (mask:Nat)(p:Probe):Probe :=
 if p.more>0 then { p with j:=p.j+1,more:=p.more-1 } else
 let (i,perturb):=leap mask p.i p.perturb
 { p with j:=i,more:=runEnd mask i-i,i,perturb }
def dz (mask i perturb:Nat):Probe:={ j:=i,more:=runEnd mask i-i,i,perturb,dummy:=none }
def start (mask:Nat)(h:Int):Probe:=dz mask (bits h%(mask+1)) (bits h)
inductive Way (oc:Nat->Prop)(mask:Nat):Nat->Probe->Probe->Prop
 | here (p:Probe):Way oc mask 0 p p
 | step {n:Nat} {p q:Probe}:oc p.j->Way oc mask n (adv mask p) q->Way oc mask (n+1) p q
theorem Way.mono {oc oc':Nat->Prop}{mask n:Nat}{p q:Probe}(m:∀j,oc j->oc' j)(h:Way oc mask n p q):Way oc' mask n p q:=by
 induction h with
 | here p=>exact .here p
 | step a _ ih=>exact .step (m _ a) ih
theorem Way.dummy {oc:Nat->Prop}{mask n:Nat}{p q:Probe}(h:Way oc mask n p q):q.dummy=p.dummy:=by
 induction h with
 | here p=>rfl
 | @step n p q _ _ ih =>
  rw[ih];unfold adv;split <;> rfl
theorem Bk {mask:Nat}{p:Probe}(h:p.j+p.more<=mask):(adv mask p).j+(adv mask p).more<=mask:=by
 unfold adv
 split
 ·dsimp only;lia
 ·dsimp only[leap]
  have:(p.i*5+1+p.perturb/32)%(mask+1)<mask+1:=HP _ (Hr mask)
  unfold runEnd
  split <;> lia
theorem qz (mask:Nat)(h:Int):(start mask h).j+(start mask h).more<=mask:=by
 unfold start dz
 dsimp only
 have:bits h%(mask+1)<mask+1:=HP _ (Hr mask)
 unfold runEnd
 split <;> lia
theorem Way.le {oc:Nat->Prop}{mask n:Nat}{p q:Probe}(h:Way oc mask n p q):p.j+p.more<=mask->q.j<=mask:=by
 induction h with
 | here p=>intro;lia
 | step _ _ ih=>intro h;exact ih (Bk h)
def oU (mask:Nat):Nat->Probe->Probe
 | 0,p=>p
 | n+1,p=>oU mask n (adv mask p)
theorem qA (mask:Nat):∀(a b:Nat) (p:Probe),oU mask (a+b) p=oU mask b (oU mask a p)
 | 0,b,p=>by rw[Gx];rfl
 | a+1,b,p=>by rw[show a+1+b=(a+b)+1 by lia];exact qA mask a b (adv mask p)
theorem vE (oc:Nat->Prop)(mask:Nat):∀(n:Nat) (p:Probe),¬ oc (oU mask n p).j->∃k q,k<=n/\Way oc mask k p q/\¬ oc q.j:=by
 intro n
 induction n with
 | zero=>intro p h;exact ⟨0,p,CO _,.here p,h⟩
 | succ n ih =>
  intro p h
  by_cases hp:oc p.j
  ·obtain ⟨k,q,a,b,c⟩:=ih (adv mask p) h
   exact ⟨k+1,q,by lia,.step hp b,c⟩
  ·exact ⟨0,p,DQ _,.here p,hp⟩
theorem zt (mask:Nat):∀(m:Nat) (p:Probe),p.more=m->p.dummy=none->oU mask (m+1) p=dz mask (leap mask p.i p.perturb).1 (leap mask p.i p.perturb).2:=by
 intro m
 induction m with
 | zero =>
  intro p h d
  show adv mask p=_
  unfold adv
  rw[if_neg (by lia)]
  obtain ⟨j,mo,i,pe,dm⟩:=p
  cases d
  rfl
 | succ m ih =>
  intro p h d
  show oU mask (m+1) (adv mask p)=_
  have e:adv mask p={ p with j:=p.j+1,more:=p.more-1 }:=by unfold adv;rw[if_pos (by lia)]
  rw[e]
  exact ih _ (by dsimp only;lia) d
def cM (mask:Nat):Nat->Nat×Nat->Nat×Nat
 | 0,x=>x
 | k+1,x=>cM mask k (leap mask x.1 x.2)
theorem nL (mask:Nat):∀(a b:Nat) (x:Nat×Nat),cM mask (a+b) x=cM mask b (cM mask a x)
 | 0,b,x=>by rw[Gx];rfl
 | a+1,b,x=>by rw[show a+1+b=(a+b)+1 by lia];exact nL mask a b _
theorem more_le (mask i:Nat):runEnd mask i-i<=9:=by unfold runEnd;split <;> lia
theorem sI (mask:Nat):∀(k i pe:Nat),∃n,n<=10*k/\oU mask n (dz mask i pe)=dz mask (cM mask k (i,pe)).1 (cM mask k (i,pe)).2:=by
 intro k
 induction k with
 | zero=>intro i pe;exact ⟨0,by lia,rfl⟩
 | succ k ih =>
  intro i pe
  obtain ⟨n,h1,h2⟩:=ih (leap mask i pe).1 (leap mask i pe).2
  refine ⟨(runEnd mask i-i+1)+n,by have:=more_le mask i;lia,?_⟩
  rw[qA,zt mask (runEnd mask i-i) (dz mask i pe) rfl rfl]
  exact h2
theorem ia (mask:Nat):∀(k i pe:Nat),(cM mask k (i,pe)).2=pe/32 ^ k
 | 0,i,pe=>by simp[cM]
 | k+1,i,pe=>by
  show (cM mask k (leap mask i pe)).2=_
  rw[show leap mask i pe=((leap mask i pe).1,pe/32) from rfl,ia mask k,Nat.div_div_eq_div_mul,Nat.pow_succ,Nat.mul_comm 32]
theorem qB (mask:Nat):∀(k i pe:Nat),i<=mask->(cM mask k (i,pe)).1<=mask
 | 0,i,pe,h=>h
 | k+1,i,pe,h=>by
  show (cM mask k (leap mask i pe)).1<=mask
  rw[show leap mask i pe=((leap mask i pe).1,pe/32) from rfl]
  exact qB mask k _ _ (Gq (HP _ (Hr mask)))
def ste (m i:Nat):Nat:=(i*5+1)%m
def its (m:Nat):Nat->Nat->Nat
 | 0,i=>i
 | n+1,i=>its m n (ste m i)
theorem ki (m:Nat):∀(a b i:Nat),its m (a+b) i=its m b (its m a i)
 | 0,b,i=>by rw[Gx];rfl
 | a+1,b,i=>by rw[show a+1+b=(a+b)+1 by lia];exact ki m a b _
def orb (m:Nat):Nat->Nat->List Nat
 | 0,_=>[]
 | n+1,i=>i :: orb m n (ste m i)
theorem oV (m:Nat):∀(n i j:Nat),j∈orb m n i->∃r,r<n/\its m r i=j
 | 0,i,j,h=>by cases h
 | n+1,i,j,h=>by
  rcases C9.mp h with h | h
  ·exact ⟨0,by lia,h.symm⟩
  ·obtain ⟨r,a,b⟩:=oV m n _ _ h
   exact ⟨r+1,by lia,b⟩
def whole (m:Nat):Bool:=((Ei m).all λj=>(orb m m 0).contains j) && (its m m 0 == 0)
theorem vF {m:Nat}(h:whole m=true){i j:Nat}(hi:i<m)(hj:j<m):∃r,r<m/\its m r i=j:=by
 unfold whole at h
 rw[EO,F7,beq_iff_eq] at h
 obtain ⟨h1,h2⟩:=h
 obtain ⟨a,a1,a2⟩:=oV m m 0 i (JN.mp (h1 i (Eg.mpr hi)))
 obtain ⟨b,b1,b2⟩:=oV m m 0 j (JN.mp (h1 j (Eg.mpr hj)))
 by_cases hab:a<=b
 ·refine ⟨b-a,by lia,?_⟩
  rw[<- a2, <- ki,show a+(b-a)=b by lia]
  exact b2
 ·refine ⟨m+b-a,by lia,?_⟩
  rw[<- a2, <- ki,show a+(m+b-a)=m+b by lia,ki,h2]
  exact b2
theorem Bl:whole 8=true:=by decide +kernel
theorem zu:whole 32=true:=by decide +kernel
theorem xu:whole 128=true:=by decide +kernel
theorem xv:whole 512=true:=by decide +kernel
def Msk (mask:Nat):Prop:=mask=7\/mask=31\/mask=127\/mask=511
theorem Msk.whole {mask:Nat}(h:Msk mask):whole (mask+1)=true:=by
 rcases h with rfl | rfl | rfl | rfl
 ·exact Bl
 ·exact zu
 ·exact xu
 ·exact xv
theorem nM (mask:Nat):∀(r i:Nat),cM mask r (i,0)=(its (mask+1) r i,0)
 | 0,i=>rfl
 | r+1,i=>by
  show cM mask r (leap mask i 0)=_
  rw[show leap mask i 0=(ste (mask+1) i,0) from rfl,nM mask r];rfl
theorem zv (h:Int):bits h<2 ^ 64:=by
 unfold bits
 have h1:=FL h (show (0:Int)<2 ^ 64 by decide)
 have h0:=FZ h (show (2 ^ 64:Int)≠0 by decide)
 have:((2 ^ 64:Nat):Int)=2 ^ 64:=by decide
 lia
theorem lE {mask:Nat}(hm:Msk mask){h:Int}{j:Nat}(hj:j<=mask):∃k,k<turns mask/\(cM mask k (bits h%(mask+1),bits h)).1=j:=by
 have p0:(cM mask 13 (bits h%(mask+1),bits h)).2=0:=by
  rw[ia]
  exact Nat.div_eq_of_lt (Dm (zv h) (by decide))
 have i0:=qB mask 13 (bits h%(mask+1)) (bits h) (Gq (HP _ (Hr mask)))
 obtain ⟨r,r1,r2⟩:=vF hm.whole (i:=(cM mask 13 (bits h%(mask+1),bits h)).1) (j:=j) (by lia) (by lia)
 refine ⟨13+r,by unfold turns;lia,?_⟩
 rw[nL,show cM mask 13 (bits h%(mask+1),bits h)=((cM mask 13 (bits h%(mask+1),bits h)).1,0) from Ko rfl p0,nM]
 exact r2
theorem xw {mask:Nat}(hm:Msk mask)(oc:Nat->Prop)(h:Int){j:Nat}(hj:j<=mask)(he:¬ oc j):∃n q,n<10*turns mask/\Way oc mask n (start mask h) q/\¬ oc q.j/\q.j<=mask/\q.dummy=none:=by
 obtain ⟨k,k1,k2⟩:=lE hm (h:=h) hj
 obtain ⟨n,n1,n2⟩:=sI mask k (bits h%(mask+1)) (bits h)
 obtain ⟨n',q,a,b,c⟩:=vE oc mask n (start mask h) (by
  show ¬ oc (oU mask n (dz mask _ _)).j
  rw[n2]
  show ¬ oc (cM mask k (bits h%(mask+1),bits h)).1
  rw[k2]
  exact he)
 exact ⟨n',q,by lia,b,c,b.le (qz mask h),b.dummy⟩
theorem nN {mask n:Nat}(oc:Nat->Prop)(f:Nat->Nat)(hf:∀j,j<=mask->oc j->f j<n)(inj:∀i j,i<=mask->j<=mask->oc i->oc j->f i=f j->i=j)(hn:n<=mask):∃j,j<=mask/\¬ oc j:=by
 by_cases q:∃j,j<=mask/\¬ oc j
 ·exact q
 ·exfalso
  have all:∀j,j<=mask->oc j:=λj hj=>by
   by_cases o:oc j
   ·exact o
   ·exact absurd ⟨j,hj,o⟩ q
  have nd:((Ei (mask+1)).map f).Nodup:=by
   unfold List.Nodup
   rw[Ef]
   refine Hs (λ{a b} ha hb hab e=>hab (inj a b ?_ ?_ (all _ ?_) (all _ ?_) e)) (Li)
   all_goals (rw[Eg] at ha hb;lia)
  have:=EG nd (l₂:=Ei n) (λx hx=>by
   obtain ⟨j,hj,e⟩:=Du.mp hx
   rw[Eg] at hj ⊢
   rw[<- e]
   exact hf j (by lia) (all j (by lia)))
  rw[CG,EY,EY] at this
  lia
open PySem PySem.SetTable
structure Tab (t:SetTable)(hs:Array Int):Prop where
 dm:t.dummies = #[]
 rise:oT t.place
 size:t.place.size=hs.size
 le:∀i j:Nat,t.place[i]? = some j->j<=t.mask
 msk:Msk t.mask
 fit:hs.size<=t.mask
 reach:∀(i j:Nat) (h:Int),t.place[i]? = some j->hs[i]? = some h->∃n q,Way (occ t) t.mask n (start t.mask h) q/\q.j=j
theorem fk {α:Type}{xs:Array α}{i:Nat}{a:α}(h:xs[i]? = some a):i<xs.size:=by
 apply GI;intro q;rw[Ft q] at h;cases h
theorem Tab.fill {t:SetTable}{hs:Array Int}(T:Tab t hs):t.fill=hs.size:=by
 unfold SetTable.fill;rw[T.dm,T.size];rfl
theorem Tab.fits {t:SetTable}{hs:Array Int}(T:Tab t hs):t.fits hs.size=true:=by
 unfold SetTable.fits
 rw[T.fill,T.size]
 simp[T.fit]
theorem Tab.ends {t:SetTable}{hs:Array Int}(T:Tab t hs)(h:Int):∃n q,n<10*turns t.mask/\Way (occ t) t.mask n (start t.mask h) q/\¬ occ t q.j/\q.j<=t.mask/\q.dummy=none:=by
 obtain ⟨j,hj,he⟩:=nN (mask:=t.mask) (n:=hs.size) (occ t) (λj=>below t.place j)
  (λj _ ⟨i,e⟩=>by show below t.place j<hs.size;rw[below_at T.rise e, <- T.size];exact fk e)
  (λi j _ _ ⟨a,ea⟩ ⟨b,eb⟩ e=>by
   have e':below t.place i=below t.place j:=e
   rw[below_at T.rise ea,below_at T.rise eb] at e'
   subst e'
   exact Dk (ea.symm.trans eb)) T.fit
 exact xw T.msk (occ t) h hj he
theorem xx {t:SetTable}{hs:Array Int}(T:Tab t hs){H:Nat->Int}{h:Int}:∀(n:Nat) (p q:Probe) (fuel:Nat),Way (occ t) t.mask n p q->¬ occ t q.j->n<fuel->p.dummy=none →
  (SetTable.probe.go t H h fuel p=some (.empty q.j none)/\∀k r i,Way (occ t) t.mask k p r->t.place[i]? = some r.j->H i≠h) ∨
  (∃k r i,k<n/\Way (occ t) t.mask k p r/\t.place[i]? = some r.j/\H i=h/\SetTable.probe.go t H h fuel p=some (.candidate r.j i (adv t.mask r))/\Way (occ t) t.mask (n-k-1) (adv t.mask r) q/\(adv t.mask r).dummy=none
   /\ ∀k' r' i',k'<k->Way (occ t) t.mask k' p r'->t.place[i']? = some r'.j->H i'≠h):=by
 intro n
 induction n with
 | zero =>
  intro p q fuel W he hf hd
  cases W
  obtain ⟨fuel,rfl⟩:∃f,fuel=f+1:=⟨fuel-1,by lia⟩
  refine .inl ⟨?_,λk r i Wr er =>?_⟩
  ·unfold SetTable.probe.go
   rw[sH T.dm he]
   dsimp only
   rw[hd]
  ·cases Wr with
   | here=>exact absurd ⟨i,er⟩ he
   | step a _=>exact absurd a he
 | succ n ih =>
  intro p q fuel W he hf hd
  obtain ⟨fuel,rfl⟩:∃f,fuel=f+1:=⟨fuel-1,by lia⟩
  cases W with
  | step a W =>
   obtain ⟨i,ei⟩:=a
   have hd':(adv t.mask p).dummy=none:=by rw[<- hd];unfold adv;split <;> rfl
   by_cases hh:H i=h
   ·refine .inr ⟨0,p,i,by lia,.here p,ei,hh,?_,W,hd',λk' r' i' hk=>by lia⟩
    unfold SetTable.probe.go
    rw[jD T.rise ei]
    dsimp only
    rw[if_pos (by rw[hh];exact beq_self_eq_true h)]
    rfl
   ·have e0:SetTable.probe.go t H h (fuel+1) p=SetTable.probe.go t H h fuel (adv t.mask p):=by
     conv=>lhs;unfold SetTable.probe.go
     rw[jD T.rise ei]
     dsimp only
     rw[if_neg (by rw[beq_iff_eq];exact hh)]
     rfl
    rcases ih (adv t.mask p) q fuel W he (by lia) hd' with ⟨r1,r2⟩ | ⟨k,r,i',k1,w1,e1,h1,g1,w2,d2,no⟩
    ·refine .inl ⟨e0.trans r1,λk r j Wr er =>?_⟩
     cases Wr with
     | here =>
      obtain rfl:i=j:=by
       have x:=below_at T.rise ei
       have y:=below_at T.rise er
       exact x.symm.trans y
      exact hh
     | step _ Wr=>exact r2 _ _ _ Wr er
    ·refine .inr ⟨k+1,r,i',by lia,.step ⟨i,ei⟩ w1,e1,h1,e0.trans g1,by rw[show n+1-(k+1)-1=n-k-1 by lia];exact w2,d2,λk' r' j hk Wr er =>?_⟩
     cases Wr with
     | here =>
      obtain rfl:i=j:=by
       have x:=below_at T.rise ei
       have y:=below_at T.rise er
       exact x.symm.trans y
      exact hh
     | step _ Wr=>exact no _ _ _ (by lia) Wr er
theorem qC {t:SetTable}{hs:Array Int}(T:Tab t hs){H:Nat->Int}{h:Int}{n:Nat}{p q:Probe}(W:Way (occ t) t.mask n p q)(he:¬ occ t q.j)(hn:n<10*turns t.mask)(hd:p.dummy=none) :
  (t.probe H h p=some (.empty q.j none)/\∀k r i,Way (occ t) t.mask k p r->t.place[i]? = some r.j->H i≠h) ∨
  (∃k r i,k<n/\Way (occ t) t.mask k p r/\t.place[i]? = some r.j/\H i=h/\t.probe H h p=some (.candidate r.j i (adv t.mask r))/\Way (occ t) t.mask (n-k-1) (adv t.mask r) q/\(adv t.mask r).dummy=none
   /\ ∀k' r' i',k'<k->Way (occ t) t.mask k' p r'->t.place[i']? = some r'.j->H i'≠h) :=
 xx T n p q _ W he hn hd
theorem Tab.xA {t:SetTable}{hs:Array Int}(T:Tab t hs)(j:Nat):t.put j=({ t with place:=insertAt t.place (below t.place j) j },below t.place j):=by
 unfold SetTable.put
 dsimp only
 have:has t.dummies j=false:=by rw[T.dm];simp[has]
 rw[this]
 rfl
theorem Tab.put {t:SetTable}{hs:Array Int}(T:Tab t hs){h:Int}{n:Nat}{q:Probe}(W:Way (occ t) t.mask n (start t.mask h) q)(he:¬ occ t q.j)(hq:q.j<=t.mask)(hf:hs.size+1<=t.mask) :
  Tab { t with place:=insertAt t.place (below t.place q.j) q.j } (insertAt hs (below t.place q.j) h):=by
 have hp:=(d8 T.rise q.j).1
 have hp':below t.place q.j<=hs.size:=by rw[<- T.size];exact hp
 have up:∀j,occ t j->occ { t with place:=insertAt t.place (below t.place q.j) q.j } j:=by
  rintro j ⟨i,e⟩
  by_cases l:i<below t.place q.j
  ·exact ⟨i,by show (insertAt _ _ _)[i]? = _;rw[cE _ hp,if_pos l];exact e⟩
  ·exact ⟨i+1,by show (insertAt _ _ _)[i+1]? = _;rw[cE _ hp,if_neg (by lia),if_neg (by lia)];exact e⟩
 refine ⟨T.dm,mP T.rise λi e=>he ⟨i,e⟩,?_,λi j e =>?_,T.msk,by rw[cI];exact hf,λi j h' e eh =>?_⟩
 ·show (insertAt _ _ _).size=_
  rw[cI,cI,T.size]
 ·have e':(insertAt t.place (below t.place q.j) q.j)[i]? = some j:=e
  rw[cE _ hp] at e'
  split at e'
  ·exact T.le _ _ e'
  ·split at e'
   ·cases e';exact hq
   ·exact T.le _ _ e'
 ·have e':(insertAt t.place (below t.place q.j) q.j)[i]? = some j:=e
  rw[cE _ hp] at e'
  rw[cE _ hp'] at eh
  by_cases l1:i<below t.place q.j
  ·rw[if_pos l1] at e' eh
   obtain ⟨n',q',w,eq⟩:=T.reach _ _ _ e' eh
   exact ⟨n',q',w.mono up,eq⟩
  ·rw[if_neg l1] at e' eh
   by_cases l2:i=below t.place q.j
   ·rw[if_pos l2] at e' eh
    cases e';cases eh
    exact ⟨n,q,W.mono up,rfl⟩
   ·rw[if_neg l2] at e' eh
    obtain ⟨n',q',w,eq⟩:=T.reach _ _ _ e' eh
    exact ⟨n',q',w.mono up,eq⟩
def ocw (owner:Array (Option Nat))(j:Nat):Prop:=∃k,owner[j]? = some (some k)
theorem Way.trans {oc:Nat->Prop}{mask n m:Nat}{p q r:Probe}(h:Way oc mask n p q)(h2:Way oc mask m q r):∃k,Way oc mask k p r:=by
 induction h with
 | here=>exact ⟨m,h2⟩
 | step a _ ih=>obtain ⟨k,w⟩:=ih h2;exact ⟨k+1,.step a w⟩
theorem oW (oc:Nat->Prop)(mask:Nat):∀(k:Nat) (p:Probe),k<=p.more->(∀k',k'<k->oc (p.j+k'))->Way oc mask k p { p with j:=p.j+k,more:=p.more-k }
 | 0,p,_,_ =>.here p
 | k+1,p,h,ho=>by
  have e:adv mask p={ p with j:=p.j+1,more:=p.more-1 }:=by unfold adv;rw[if_pos (by lia)]
  refine .step (ho 0 (by lia)) ?_
  rw[e]
  have:=oW oc mask k { p with j:=p.j+1,more:=p.more-1 } (by dsimp only;lia) λk' hk=>by
   have:=ho (k'+1) (by lia)
   rw[show p.j+(k'+1)=p.j+1+k' by lia] at this
   exact this
  dsimp only at this
  rw[show p.j+1+k=p.j+(k+1) by lia,show p.more-1-k=p.more-(k+1) by lia] at this
  exact this
theorem gg {owner:Array (Option Nat)}{mask j:Nat}(hs:owner.size=mask+1)(hj:j<=mask):(owner.getD j (some 0)).isNone=true↔¬ ocw owner j:=by
 have hl:j<owner.size:=by lia
 have e:owner[j]? = some owner[j]:=Ds hl
 rw[show owner.getD j (some 0)=owner[j] by simp[Array.getD,hl]]
 unfold ocw
 rw[e]
 cases owner[j] with
 | none=>simp
 | some k=>simp
theorem nO {mask i:Nat}(h:i<=mask):runEnd mask i<=mask/\i<=runEnd mask i:=by
 unfold runEnd;split <;> lia
theorem vH {mask:Nat}{owner:Array (Option Nat)}(hs:owner.size=mask+1):∀(fuel i pe j:Nat),i<=mask->SetTable.layClean.free mask owner fuel i pe=some j →
  ¬ ocw owner j/\∃n q,Way (ocw owner) mask n (dz mask i pe) q/\q.j=j:=by
 intro fuel
 induction fuel with
 | zero=>intro i pe j hi h;unfold SetTable.layClean.free at h;cases h
 | succ fuel ih =>
  intro i pe j hi h
  unfold SetTable.layClean.free at h
  obtain ⟨r1,r2⟩:=nO hi
  have no:∀k,k<runEnd mask i+1-i->((owner.getD (i+k) (some 0)).isNone=false)->ocw owner (i+k):=λk hk e=>by
   by_cases o:ocw owner (i+k)
   ·exact o
   ·rw[(gg hs (by lia)).mpr o] at e;cases e
  cases hf:(Ei (runEnd mask i+1-i)).find? λk=>(owner.getD (i+k) (some 0)).isNone with
  | some k =>
   rw[hf] at h
   dsimp only at h
   cases h
   rw[List.find?_range_eq_some] at hf
   obtain ⟨f1,f2,f3⟩:=hf
   rw[Eg] at f2
   refine ⟨(gg hs (by lia)).mp f1,k,_,oW (ocw owner) mask k (dz mask i pe) (by show k<=runEnd mask i-i;lia) λk' hk =>?_,rfl⟩
   refine no k' (by lia) ?_
   have:=f3 k' hk
   simpa using this
  | none =>
   rw[hf] at h
   dsimp only at h
   rw[Je] at hf
   have all:∀k,k<runEnd mask i+1-i->ocw owner (i+k):=λk hk=>no k hk (by simpa using hf k hk)
   obtain ⟨g1,n,q,w,eq⟩:=ih _ _ _ (Gq (HP _ (Hr mask))) h
   refine ⟨g1,?_⟩
   have w0:=oW (ocw owner) mask (runEnd mask i-i) (dz mask i pe) (CO _) λk' hk=>all k' (by lia)
   have w1:Way (ocw owner) mask (n+1) { (dz mask i pe) with j:=(dz mask i pe).j+(runEnd mask i-i),more:=(dz mask i pe).more-(runEnd mask i-i) } q:=by
    refine .step (all (runEnd mask i-i) (by lia)) ?_
    have e:adv mask { (dz mask i pe) with j:=(dz mask i pe).j+(runEnd mask i-i),more:=(dz mask i pe).more-(runEnd mask i-i) }=dz mask (leap mask i pe).1 (leap mask i pe).2:=by
     unfold adv
     rw[if_neg (by show ¬ (runEnd mask i-i-(runEnd mask i-i))>0;lia)]
     rfl
    rw[e]
    exact w
   obtain ⟨k,w2⟩:=w0.trans w1
   exact ⟨k,q,w2,eq⟩
theorem vI {mask:Nat}{owner:Array (Option Nat)}(hs:owner.size=mask+1):∀(fuel i pe k:Nat),i<=mask->k<fuel->¬ ocw owner (cM mask k (i,pe)).1->∃j,SetTable.layClean.free mask owner fuel i pe=some j:=by
 intro fuel
 induction fuel with
 | zero=>intro i pe k _ h;lia
 | succ fuel ih =>
  intro i pe k hi hk he
  unfold SetTable.layClean.free
  obtain ⟨r1,r2⟩:=nO hi
  cases hf:(Ei (runEnd mask i+1-i)).find? λk=>(owner.getD (i+k) (some 0)).isNone with
  | some k=>exact ⟨_,rfl⟩
  | none =>
   dsimp only
   rw[Je] at hf
   cases k with
   | zero =>
    have h0:=hf 0 (by lia)
    have:(owner.getD (i+0) (some 0)).isNone=true:=(gg hs (by lia)).mpr he
    rw[this] at h0
    cases h0
   | succ k=>exact ih _ _ k (Gq (HP _ (Hr mask))) (by lia) he
structure Own (mask:Nat)(owner:Array (Option Nat))(hs:List Int):Prop where
 size:owner.size=mask+1
 cov:∀(k:Nat) (h:Int),hs[k]? = some h->∃j n q,owner[j]? = some (some k)/\Way (ocw owner) mask n (start mask h) q/\q.j=j
 bnd:∀j k:Nat,owner[j]? = some (some k)->k<hs.length
 inj:∀i j k:Nat,owner[i]? = some (some k)->owner[j]? = some (some k)->i=j
theorem Own.step {mask:Nat}(hm:Msk mask){owner:Array (Option Nat)}{hs:List Int}(O:Own mask owner hs)(h:Int)(hl:hs.length<=mask) :
  ∃j,SetTable.layClean.free mask owner (turns mask) (bits h%(mask+1)) (bits h)=some j/\Own mask (owner.setIfInBounds j (some hs.length)) (hs++[h]):=by
 obtain ⟨e,he,hne⟩:=nN (mask:=mask) (n:=hs.length) (ocw owner) (λj=>(owner.getD j none).getD 0)
  (λj _ ⟨k,ek⟩=>by
   have:=fk ek
   show (owner.getD j none).getD 0<_
   rw[show owner.getD j none=some k by rw[Fl,ek];rfl]
   exact O.bnd j k ek)
  (λi j _ _ ⟨a,ea⟩ ⟨b,eb⟩ q=>by
   have q':(owner.getD i none).getD 0=(owner.getD j none).getD 0:=q
   rw[show owner.getD i none=some a by rw[Fl,ea];rfl,show owner.getD j none=some b by rw[Fl,eb];rfl] at q'
   have q'':a=b:=q'
   subst q''
   exact O.inj i j a ea eb) hl
 have i0:bits h%(mask+1)<=mask:=Gq (HP _ (Hr mask))
 obtain ⟨k,k1,k2⟩:=lE hm (h:=h) he
 obtain ⟨j,hj⟩:=vI O.size (turns mask) _ _ k i0 k1 (by rw[k2];exact hne)
 obtain ⟨hno,n,q,w,eq⟩:=vH O.size _ _ _ _ i0 hj
 have hjm:j<=mask:=by rw[<- eq];exact w.le (qz mask h)
 have hjs:j<owner.size:=by rw[O.size];lia
 have ej:owner[j]? = some none:=by
  rw[Ds hjs]
  cases ho:owner[j] with
  | none=>rfl
  | some k=>exact absurd ⟨k,by rw[Ds hjs,ho]⟩ hno
 have get:∀i:Nat,(owner.setIfInBounds j (some hs.length))[i]? = if i=j then some (some hs.length) else owner[i]? := λi=>by
  rw[Array.getElem?_setIfInBounds]
  by_cases q:j=i
  ·rw[if_pos q,if_pos q.symm,if_pos hjs]
  ·rw[if_neg q,if_neg (D8 q)]
 have up:∀i,ocw owner i->ocw (owner.setIfInBounds j (some hs.length)) i:=by
  rintro i ⟨k,ek⟩
  refine ⟨k,?_⟩
  rw[get,if_neg (λq=>by rw[q,ej] at ek;cases ek)]
  exact ek
 refine ⟨j,hj,by rw[Jd];exact O.size,λk h' eh =>?_,λi k ek =>?_,λi i' k ei ei' =>?_⟩
 ·by_cases lk:k<hs.length
  ·rw[Dv lk] at eh
   obtain ⟨j',n',q',a,b,c⟩:=O.cov k h' eh
   refine ⟨j',n',q',?_,b.mono up,c⟩
   rw[get,if_neg (λq=>by rw[q,ej] at a;cases a)]
   exact a
  ·rw[DB (by lia)] at eh
   have:k-hs.length=0:=by
    cases hk:k-hs.length with
    | zero=>rfl
    | succ m=>rw[hk] at eh;cases eh
   rw[this] at eh
   cases eh
   obtain rfl:k=hs.length:=by lia
   exact ⟨j,n,q,by rw[get,if_pos rfl],w.mono up,eq⟩
 ·rw[CL,D2]
  rw[get] at ek
  split at ek
  ·cases ek;lia
  ·have:=O.bnd _ _ ek;lia
 ·rw[get] at ei ei'
  by_cases q1:i=j
  ·by_cases q2:i'=j
   ·rw[q1,q2]
   ·rw[if_pos q1] at ei;rw[if_neg q2] at ei'
    cases ei
    have:=O.bnd _ _ ei';lia
  ·rw[if_neg q1] at ei
   by_cases q2:i'=j
   ·rw[if_pos q2] at ei'
    cases ei'
    have:=O.bnd _ _ ei;lia
   ·rw[if_neg q2] at ei'
    exact O.inj _ _ _ ei ei'
theorem qD {mask:Nat}(hm:Msk mask):∀(l:List Int) (owner:Array (Option Nat)) (hs:List Int),Own mask owner hs->hs.length+l.length<=mask+1 →
    ∃owner',l.foldl (λacc h=>do
      let (owner,k) ← acc
      let j ← SetTable.layClean.free mask owner (turns mask) (bits h%(mask+1)) (bits h)
      pure (owner.setIfInBounds j (some k),k+1)) (some (owner,hs.length))=some (owner',hs.length+l.length)/\Own mask owner' (hs++l)
  | [],owner,hs,O,_=>⟨owner,rfl,by rw[DU];exact O⟩
  | h :: l,owner,hs,O,hl=>by
    rw[Dx] at hl
    obtain ⟨j,hj,O'⟩:=O.step hm h (by lia)
    obtain ⟨owner',e,O''⟩:=qD hm l _ _ O' (by rw[CL,D2];lia)
    refine ⟨owner',?_,by rw[DD] at O'';exact O''⟩
    rw[JH]
    have:(do
      let (owner,k) ← some (owner,hs.length)
      let j ← SetTable.layClean.free mask owner (turns mask) (bits h%(mask+1)) (bits h)
      pure (owner.setIfInBounds j (some k),k+1):Option (Array (Option Nat)×Nat))=some (owner.setIfInBounds j (some hs.length),(hs++[h]).length):=by
      show (SetTable.layClean.free mask owner (turns mask) (bits h%(mask+1)) (bits h)).bind _=_
      rw[hj,CL]
      rfl
    rw[this,e]
    rw[CL,D2,Dx]
    congr 2
    lia
theorem qE {mask:Nat}(hm:Msk mask)(hs:Array Int)(hl:hs.size<=mask+1):∃owner,SetTable.layClean mask hs=some owner/\Own mask owner hs.toList:=by
  have O0:Own mask (Array.replicate (mask+1) none) []:=by
    refine ⟨by simp,λk h e=>by simp at e,λj k e =>?_,λi j k e =>?_⟩
    · rw[Jf] at e;split at e <;> cases e
    · rw[Jf] at e;split at e <;> cases e
  obtain ⟨owner,e,O⟩:=qD hm hs.toList _ [] O0 (by rw[FH,CV];lia)
  refine ⟨owner,?_,by rw[HG] at O;exact O⟩
  unfold SetTable.layClean
  rw[<- Array.foldl_toList]
  have e':hs.toList.foldl (λacc h=>do
      let (owner,k) ← acc
      let j ← SetTable.layClean.free mask owner (turns mask) (bits h%(mask+1)) (bits h)
      pure (owner.setIfInBounds j (some k),k+1)) (some (Array.replicate (mask+1) none,0))=some (owner,0+hs.toList.length):=e
  rw[e']
  rfl
theorem filterMap_get {α β:Type}{f:α -> Option β}:∀(l:List α),(∀x∈l,(f x).isSome=true)->∀i:Nat,(l.filterMap f)[i]? = l[i]?.bind f
 | [],_,i=>by simp
 | x :: l,h,i=>by
  obtain ⟨y,hy⟩:=Jc.mp (h x Di)
  rw[List.filterMap_cons_some hy]
  cases i with
  | zero=>simp[hy]
  | succ i =>
   rw[Fj,Fj]
   exact filterMap_get l (λz hz=>h z (Dj _ hz)) i
theorem zw {mask:Nat}(hm:Msk mask)(finger moves:Nat)(led plain:Bool)(es:Array (Int×CJ))(hl:es.size<=mask) :
  ∃t order,SetTable.laid mask finger moves led plain (es.map (·.1))=some (t,order)/\order.toList.Perm (Ei es.size)/\Tab t ((order.filterMap (es[·]?)).map (·.1))/\(order.filterMap (es[·]?)).toList.Perm es.toList/\t.led=led/\t.plain=plain/\t.mask=mask:=by
 obtain ⟨owner,e,O⟩:=qE hm (es.map (·.1)) (by rw[D7];lia)
 refine ⟨_,_,by unfold SetTable.laid;rw[e];rfl,?_⟩
 generalize hlive:((Ei (mask+1)).filterMap λj=>(owner.getD j none).map (j, ·))=live
 have mem:∀j k,(j,k)∈live↔owner[j]? = some (some k):=λj k=>by
  rw[<- hlive,GL]
  constructor
  ·rintro ⟨a,ha,ea⟩
   rw[Fl] at ea
   cases ho:owner[a]? with
   | none=>rw[ho] at ea;cases ea
   | some x =>
    rw[ho] at ea
    cases x with
    | none=>cases ea
    | some k'=>cases ea;exact ho
  ·intro ho
   refine ⟨j,?_,?_⟩
   ·rw[Eg, <- O.size];exact fk ho
   ·rw[Fl,ho];rfl
 have pw:live.Pairwise (λa b=>a.1<b.1):=by
  rw[<- hlive,List.pairwise_filterMap]
  refine Ma (λ{a b} hab x hx y hy =>?_) HM
  have hx':x.1=a:=by cases ho:owner.getD a none with
   | none=>rw[ho] at hx;cases hx
   | some k=>rw[ho] at hx;cases hx;rfl
  have hy':y.1=b:=by cases ho:owner.getD b none with
   | none=>rw[ho] at hy;cases hy
   | some k=>rw[ho] at hy;cases hy;rfl
  rw[hx',hy'];exact hab
 have nd:(live.map (·.2)).Nodup:=by
  unfold List.Nodup
  rw[Ef]
  refine Hs (λ{a b} ha hb hab q =>?_) pw
  have:=O.inj a.1 b.1 a.2 ((mem _ _).mp ha) (by rw[q];exact (mem _ _).mp hb)
  lia
 have hlen:(es.map (·.1)).toList.length=es.size:=by rw[CV,D7]
 have perm:(live.map (·.2)).Perm (Ei es.size):=by
  rw[G9 nd Li]
  intro k
  rw[Eg,Du]
  constructor
  ·rintro ⟨⟨j,k'⟩,hm',rfl⟩
   have:=O.bnd _ _ ((mem _ _).mp hm')
   rw[hlen] at this
   exact this
  ·intro hk
   obtain ⟨j,_,_,ej,_⟩:=O.cov k _ (CI (by rw[hlen];exact hk))
   exact ⟨(j,k),(mem _ _).mpr ej,rfl⟩
 have all:∀x∈live.map (·.2),(es[x]?).isSome=true:=λx hx=>by
  have:=(perm.mem_iff).mp hx
  rw[Eg] at this
  rw[Ds this];rfl
 have tl:(live.map (·.2)).toArray.toList=live.map (·.2):=rfl
 have ll:live.length=es.size:=by have:=perm.length_eq;rw[CG,EY] at this;exact this
 have fm:((live.map (·.2)).toArray.filterMap (es[·]?)).toList=(live.map (·.2)).filterMap (es[·]?):=by simp
 have fl:((live.map (·.2)).filterMap (es[·]?)).Perm es.toList:=by
  have p1:=perm.filterMap (es[·]?)
  have:(Ei es.size).filterMap (es[·]?)=es.toList:=by
   apply Fb
   intro i
   rw[filterMap_get _ (λx hx=>by rw[Eg] at hx;rw[Ds hx];rfl)]
   by_cases hi:i<es.size
   ·rw[GB hi,C3];rfl
   ·rw[Dz (by rw[EY];lia),Dz (by rw[CV];lia)];rfl
  rw[this] at p1
  exact p1
 refine ⟨perm,?_,by rw[fm];exact fl,rfl,rfl,rfl⟩
 have sz:(((live.map (·.2)).toArray.filterMap (es[·]?)).map (·.1)).size=es.size:=by
  rw[D7, <- CV,fm,fl.length_eq,CV]
 have occ_of:∀j,ocw owner j->occ { mask:=mask,place:=(live.map (·.1)).toArray,dummies := #[],finger:=finger,led:=led,moves:=moves,plain:=plain } j:=by
  rintro j ⟨k,ek⟩
  obtain ⟨i,hi,ei⟩:=GC ((mem j k).mpr ek)
  refine ⟨i,?_⟩
  show (live.map (·.1)).toArray[i]? = some j
  rw[DR,CU,CI hi,ei]
  rfl
 refine ⟨rfl,λi j a b ea eb hij =>?_,?_,λi j ej =>?_,hm,by rw[sz];exact hl,λi j h ej eh =>?_⟩
 ·have ea':(live.map (·.1)).toArray[i]? = some a:=ea
  have eb':(live.map (·.1)).toArray[j]? = some b:=eb
  rw[DR] at ea' eb'
  have pw':(live.map (·.1)).Pairwise (· < ·):=by rw[Ef];exact pw
  obtain ⟨hi,xi⟩:=CP.mp ea'
  obtain ⟨hj,xj⟩:=CP.mp eb'
  rw[<- xi, <- xj]
  exact Gi.mp pw' i j hi hj hij
 ·show (live.map (·.1)).toArray.size=_
  rw[sz,CS,CG,ll]
 ·have ej':(live.map (·.1)).toArray[i]? = some j:=ej
  rw[DR,CU] at ej'
  cases hx:live[i]? with
  | none=>rw[hx] at ej';cases ej'
  | some x =>
   rw[hx] at ej'
   cases ej'
   have:=fk ((mem x.1 x.2).mp (CT hx))
   show x.1<=mask
   rw[O.size] at this
   lia
 ·have ej':(live.map (·.1)).toArray[i]? = some j:=ej
  rw[DR,CU] at ej'
  cases hx:live[i]? with
  | none=>rw[hx] at ej';cases ej'
  | some x =>
   rw[hx] at ej'
   cases ej'
   have ho:=(mem x.1 x.2).mp (CT hx)
   have hk:=O.bnd _ _ ho
   rw[Ks, <- C3,fm,filterMap_get _ all,CU,hx] at eh
   have eh':(es[x.2]?).map (·.1)=some h:=eh
   obtain ⟨j',n,q,a,b,c⟩:=O.cov x.2 h (by rw[Ie,CU,C3];exact eh')
   obtain rfl:=O.inj _ _ _ ho a
   exact ⟨n,q,b.mono occ_of,c⟩
open PySem PySem.SetTable PyProof.Rows
section
variable  {prog:De}{w:DN}{A:D1}{E:CJ->CN->Prop}{s:CN}
abbrev TK (prog:De)(w:DN):=IsTupleKey (prog:=prog) (w:=w) (intKind prog w)
def cJ (prog:De)(w:DN)(ks:List Int):Int:=tupleKeyHash (intKind prog w) ks
def aZ (es:Array (Int×CJ))(ep:Nat)(t:SetTable):Obj:={ cls :=.type "set",dict:=none,data :=.set es ep t }
def ElT (prog:De)(w:DN)(h:Heap)(e:Int×CJ)(ks:List Int):Prop:=∃b,e=(cJ prog w ks,.ref b)/\TK prog w h ks b
theorem oX (d:Nat){v:CJ}(h:carriedByValue v=true):ofAClassStatement d v=pure false:=by
 cases v with
 | ref a=>simp[carriedByValue] at h
 | _=>cases d <;> rfl
theorem i5 {ks:List Int}{b:Addr}{Q:Bool->CN->Prop}(hk:TK prog w s.heap ks b)(h:Q false s):Dh (DA prog w) A (ofAClassStatement 8 (.ref b)) Q E s:=by
 have hT:=hk.typeIs
 obtain ⟨o,items,n,ho,_,hd,hi⟩:=hk
 unfold ofAClassStatement
 refine CD (Fs hT ?_)
 dsimp only
 rw[if_pos (by decide)]
 refine CD (CK ?_)
 simp only[EU,Dg,if_false]
 refine CD (Fe ho hd ?_)
 dsimp only
 refine CD ?_
 rw[<- Kt]
 refine Hl _ (λrest r s'=>r.1=none/\s'=s/\∀v∈rest,carriedByValue v=true) _ ?_ ?_ _ _ ⟨rfl,rfl,hi.byValue⟩
 ·rintro v rest r s' ⟨hr,rfl,hall⟩
  rw[oX _ (hall v Di)]
  refine CD (CK ?_)
  simp only[Dg,if_false]
  exact CK ⟨rfl,rfl,λu hu'=>hall u (Dj _ hu')⟩
 ·rintro ⟨r1,r2⟩ s' ⟨hr,rfl,_⟩
  simp only at hr
  subst hr
  exact CK h
theorem Bm {ks:List Int}{b:Addr}{vs:List CJ}{Q:Bool->CN->Prop}(hk:TK prog w s.heap ks b)(hv:∀v∈vs,∃ks' b',v = .ref b'/\TK prog w s.heap ks' b')(h:Q false s) :
  Dh (DA prog w) A (searchCouldBeSeen (.ref b) vs) Q E s:=by
 unfold searchCouldBeSeen
 refine CD ?_
 refine Hl _ (λrest r s'=>r.1=none/\s'=s/\∀v∈rest,∃ks' b',v = .ref b'/\TK prog w s.heap ks' b') _ ?_ ?_ _ _ ⟨rfl,rfl,hv⟩
 ·rintro v rest r s' ⟨hr,rfl,hall⟩
  obtain ⟨ks',b',rfl,hk'⟩:=hall v Di
  have go:∀u∈rest,∃ks' b',u = .ref b'/\TK prog w s'.heap ks' b':=λu hu'=>hall u (Dj _ hu')
  dsimp only
  split
  ·exact CK ⟨rfl,rfl,go⟩
  ·refine CD (JV hk ?_)
   simp only[EU,Dg,if_false]
   refine CD (JV hk' ?_)
   simp only[EU,Dg,if_false]
   refine CD (i5 hk ?_)
   simp only[Dg,if_false]
   refine CD (i5 hk' ?_)
   simp only[Dg,if_false]
   exact CK ⟨rfl,rfl,go⟩
 ·rintro ⟨r1,r2⟩ s' ⟨hr,rfl,_⟩
  simp only at hr
  subst hr
  exact CK h
theorem zx {m:Nat}(h:Msk m):(m%2 == 0)=false:=by rcases h with rfl | rfl | rfl | rfl <;> rfl
theorem bU {a:Addr}{es:Array (Int×CJ)}{ep:Nat}{t:SetTable}{Q:(Array (Int×CJ)×Nat×SetTable)->CN->Prop}(ho:s.heap.get? a=some (aZ es ep t))(T:Tab t (es.map (·.1)))(h:Q (es,ep,t) s) :
  Dh (DA prog w) A (setState a) Q E s:=wpAny_setState_of ho rfl (by have:=T.fits;rwa [D7] at this) h
theorem sJ (es:Array (Int×CJ))(i:Nat)(e:Int×CJ)(h:es[i]? = some e):(es.map (·.1))[i]? = some e.1:=by rw[Ks,h];rfl
theorem Way.split {oc:Nat->Prop}{mask k:Nat}{p r:Probe}(h:Way oc mask k p r):∀{k':Nat} {r':Probe},Way oc mask k' p r'->k<=k'->Way oc mask (k'-k) r r':=by
 induction h with
 | here p=>intro k' r' h2 _;exact h2
 | @step n p q a _ ih =>
  intro k' r' h2 l
  cases h2 with
  | here=>lia
  | @step m _ _ _ h2=>rw[show m+1-(n+1)=m-n by lia];exact ih h2 (by lia)
theorem sL {a b:Addr}{es:Array (Int×CJ)}{ep:Nat}{t:SetTable}{ks:List Int}{Q:SetFound->CN->Prop}(hu:A.units<cLine)(ho:s.heap.get? a=some (aZ es ep t))(T:Tab t (es.map (·.1)))
    (els:∀e∈es,∃ks',ElT prog w s.heap e ks') (hk:TK prog w s.heap ks b) {q:Probe} (he:¬ occ t q.j) :
    ∀(fuel n:Nat) (st:Option Probe) (p:Probe),st.getD (start t.mask (cJ prog w ks))=p->Way (occ t) t.mask n p q->n<fuel->n<10*turns t.mask->p.dummy=none →
      ((∃(k:Nat) (r:Probe) (i:Nat) (e:Int×CJ),Way (occ t) t.mask k p r/\t.place[i]? = some r.j/\es[i]? = some e/\ElT prog w s.heap e ks)->Q (.there none) s) →
      ((¬ ∃(k:Nat) (r:Probe) (i:Nat) (e:Int×CJ),Way (occ t) t.mask k p r/\t.place[i]? = some r.j/\es[i]? = some e/\ElT prog w s.heap e ks)->Q (.free q.j false) s) →
      Dh (DA prog w) A (setSearchFrom a (.ref b) (cJ prog w ks) true fuel st) Q E s:=by
  intro fuel
  induction fuel with
  | zero=>intro n st p _ _ h;omega
  | succ fuel ih =>
    intro n st p hst W hn hn2 hd hit mis
    unfold setSearchFrom
    refine CD (bU ho T ?_)
    dsimp only
    rw[show t.gaveWay=false from zx T.msk]
    simp only[Dg,if_false]
    rw[show st.getD (t.probeStart (cJ prog w ks))=p from hst]
    rcases qC T (H:=λi=>(es[i]?.map (·.1)).getD 0) (h:=cJ prog w ks) W he hn2 hd with ⟨g,no⟩ | ⟨k,r,i,k1,w1,e1,h1,g,w2,d2,no⟩
    · erw [g]
      dsimp only
      refine CK (mis ?_)
      rintro ⟨k,r,i,e,wr,er,ee,eb,rfl,_⟩
      refine no k r i wr er ?_
      show (es[i]?.map (·.1)).getD 0=_
      rw[ee]
      rfl
    · erw [g]
      dsimp only
      have hi:i<es.size:=by have:=fk e1;rw[T.size,D7] at this;exact this
      have ee:es[i]? = some es[i]:=Ds hi
      obtain ⟨ks',b',eq,hk'⟩:=els es[i] (KU hi)
      rw[eq] at ee
      have hh:cJ prog w ks'=cJ prog w ks:=by
        have h1':(es[i]?.map (·.1)).getD 0=cJ prog w ks:=h1
        rw[ee] at h1'
        exact h1'
      have tail:Dh (DA prog w) A (do
          let equal ← HU [Dd b'] (eqBool (.ref b') (.ref b))
          let (es',_,t') ← setState a
          if (true && equal)=true then return .there none
          let some same:=t'.sameMemory t.moves t.mask | unsupported "set.changed-during-lookup:is-the-new-block-at-the-old-address"
          let still ← match (if same then t'.slot r.j else .empty) with
            | .live i'=>match es'[i']? with
              | some (_,y')=>do pure (if ← isSame y' (.ref b') then some i' else none)
              | none=>pure none
            | _=>pure none
          match still with
          | none=>rule "set.search.anew";setSearchFrom a (.ref b) (cJ prog w ks) true fuel none
          | some i'=>if equal then return .there (some i') else setSearchFrom a (.ref b) (cJ prog w ks) true fuel (some (adv t.mask r))) Q E s:=by
        refine CD (D5 (KH hu hk' hk ?_))
        refine CD (bU ho T ?_)
        dsimp only
        by_cases hks:ks'=ks
        · subst hks
          rw[decide_eq_true rfl]
          simp only[Bool.and_self,if_true]
          exact CK (hit ⟨k,r,i,_,w1,e1,ee,b',rfl,hk'⟩)
        · rw[decide_eq_false hks]
          simp only[IW,Dg,if_false]
          rw[show t.sameMemory t.moves t.mask=some true by unfold SetTable.sameMemory;simp]
          dsimp only
          simp only[if_true]
          rw[jD T.rise e1]
          dsimp only
          rw[ee]
          dsimp only
          refine CD (wpAny_isSame_ref_self (CD (CK ?_)))
          simp only[if_true]
          refine ih (n-k-1) _ _ rfl w2 (by omega) (by omega) d2 (λx=>hit ?_) λx=>mis λy=>x ?_
          · obtain ⟨k',r',i',e',a1,a2,a3,a4⟩:=x
            obtain ⟨k'',w''⟩:=w1.trans (.step ⟨i,e1⟩ a1)
            exact ⟨k'',r',i',e',w'',a2,a3,a4⟩
          · obtain ⟨k',r',i',e',a1,a2,a3,a4⟩:=y
            have hx:(es[i']?.map (·.1)).getD 0=cJ prog w ks:=by
              obtain ⟨bb,rfl,_⟩:=a4
              rw[a3];rfl
            by_cases lt:k'<k
            · exact absurd hx (no k' r' i' lt a1 a2)
            · have w3:=w1.split a1 (by omega)
              cases hd3:k'-k with
              | zero =>
                rw[hd3] at w3
                cases w3
                obtain rfl:i=i':=(below_at T.rise e1).symm.trans (below_at T.rise a2)
                obtain ⟨bb,rfl,hbb⟩:=a4
                rw[ee] at a3
                injection a3 with a3
                injection a3 with a31 a32
                injection a32 with a32
                subst a32
                exact absurd (hk'.inj hbb) hks
              | succ m =>
                rw[hd3] at w3
                cases w3 with
                | step _ w3=>exact ⟨m,r',i',e',w3,a2,a3,a4⟩
      cases hl:t.led with
      | true =>
        simp only[EU,Dg,if_false]
        rw[ee]
        exact tail
      | false =>
        simp only[J6,if_true]
        refine CD (Bm hk (λv hv =>?_) ?_)
        · obtain ⟨e',he',rfl⟩:=Du.mp hv
          obtain ⟨ks2,b2,e2,hk2⟩:=els e' (Array.mem_of_mem_filter (DH.mp he'))
          exact ⟨ks2,b2,by rw[e2],hk2⟩
        · simp only[Dg,if_false]
          rw[ee]
          exact tail
end
open PySem PySem.SetTable PyProof.Rows
section
variable  {prog:De}{w:DN}{A:D1}{E:CJ->CN->Prop}{s:CN}
def dI (w:DN)(h:Heap)(a:Addr)(es:Array (Int×CJ)):Prop :=
 ∃ep t,h.get? a=some (aZ es ep t)/\Tab t (es.map (·.1))/\es.size*5<t.mask*3/\t.led = !w.params.followText "set-order" /\ t.plain=true
theorem dI.at {h h':Heap}{a:Addr}{es:Array (Int×CJ)}(x:dI w h a es)(e:∀o,h.get? a=some o->h'.get? a=some o):dI w h' a es :=
 let ⟨ep,t,ho,r⟩:=x;⟨ep,t,e _ ho,r⟩
theorem qF {m n:Nat}(hm:Msk m)(h1:n*5<m*3)(h2:(n+1)*5≥m*3)(h3:n<300):Msk (sizeAbove (grown (n+1))-1)/\n+1<=sizeAbove (grown (n+1))-1/\(n+1)*5<(sizeAbove (grown (n+1))-1)*3/\sizeAbove (grown (n+1))<=512:=by
 have c:n=4\/n=18\/n=76:=by
  rcases hm with rfl | rfl | rfl | rfl <;> lia
 unfold Msk
 rcases c with rfl | rfl | rfl <;> decide
theorem nP:512<=C6:=by rw[FQ];lia
theorem i6 {a:Addr}{es es':Array (Int×CJ)}{ep:Nat}{t t':SetTable}{Q:Unit->CN->Prop}(ho:s.heap.get? a=some (aZ es ep t))(hz:es'.size<=512)
  (h:∀h',Heap.SameBut a s.heap h'->h'.get? a=some (aZ es' (ep+1) t')->Q () { s with heap:=h' }):Dh (DA prog w) A (storeSet a es' t') Q E s:=by
 refine wpAny_storeSet_of (o:=aZ es ep t) ho rfl ?_ (DT hz nP)
 refine h _ (Hn s.heap a _) ?_
 have:=DI (Obj.putSet es' t') ho (by rw[putSet_of es' t' (o:=aZ es ep t) rfl];rfl)
 rw[putSet_of es' t' (o:=aZ es ep t) rfl] at this
 exact this
theorem Tab.tooFull {t:SetTable}{hs:Array Int}(T:Tab t hs):t.tooFull=decide (hs.size*5≥t.mask*3):=by
 unfold SetTable.tooFull;rw[T.fill]
theorem nQ {t:SetTable}{es:Array (Int×CJ)}(T:Tab t (es.map (·.1))){n:Nat}(hn:es.size=n+1)(h1:n*5<t.mask*3)(h2:(n+1)*5≥t.mask*3)(h3:n<300) :
  ∃t' order,t.relaid (es.map (·.1)) (grown (n+1))=some (t',order)/\order.toList.Perm (Ei es.size)/\Tab t' ((order.filterMap (es[·]?)).map (·.1))/\(order.filterMap (es[·]?)).toList.Perm es.toList/\t'.led=t.led/\t'.plain=t.plain/\(n+1)*5<t'.mask*3:=by
 obtain ⟨k1,k2,k3,k4⟩:=qF T.msk h1 h2 h3
 obtain ⟨t',order,e,pm,T',pe,l,p,m⟩:=zw k1 t.finger (t.movedTo (sizeAbove (grown (n+1))-1)) t.led t.plain es (by lia)
 exact ⟨t',order,e,pm,T',pe,l,p,by rw[m];exact k3⟩
theorem sM {ks:List Int}{b:Addr}{Q:Bool->CN->Prop}(hk:TK prog w s.heap ks b)(h:Q true s):Dh (DA prog w) A (hashByValue 8 (.ref b)) Q E s:=by
 have hT:=hk.typeIs
 obtain ⟨o,items,n,ho,_,hd,hi⟩:=hk
 unfold hashByValue
 refine CD (E8 hT F.slot_tuple_hash.lookup ?_)
 dsimp only
 refine CD (Fe ho hd ?_)
 refine CD ?_
 show Dh _ _ (forIn items _ _) _ _ s
 rw[<- Kt]
 have hall0:∀v∈items.toList,∃k t,v = .int k t:=by
  clear hd ho
  generalize items.toList=l at hi
  induction hi with
  | nil=>intro v hv;cases hv
  | cons h1 _ ih =>
   intro v hv
   rcases C9.mp hv with rfl | hv
   ·obtain ⟨t,e⟩:=G0 h1;exact ⟨_,t,e⟩
   ·exact ih v hv
 refine Hl _ (λrest r s'=>r.1=none/\s'=s/\∀v∈rest,∃k t,v=Ex k t) _ ?_ ?_ _ _ ⟨rfl,rfl,hall0⟩
 ·rintro v rest r s' ⟨hr,rfl,hall⟩
  obtain ⟨k,t,rfl⟩:=hall v Di
  rw[show hashByValue 7 (.int k t)=pure true from rfl]
  refine CD (CK ?_)
  simp only[EU,Dg,if_false]
  exact CK ⟨rfl,rfl,λu hu'=>hall u (Dj _ hu')⟩
 ·rintro ⟨r1,r2⟩ s' ⟨hr,rfl,_⟩
  simp only at hr
  subst hr
  exact CK h
theorem zy {a b:Addr}{es:Array (Int×CJ)}{ks:List Int}{Q:Bool->CN->Prop}(hu:A.units<cLine)(I:dI w s.heap a es)(els:∀e∈es,∃ks',ElT prog w s.heap e ks')(hk:TK prog w s.heap ks b)(hz:es.size<300)
  (hin:(∃e∈es,ElT prog w s.heap e ks)->Q false s)
  (hnew:(¬ ∃e∈es,ElT prog w s.heap e ks)->∀h' es',Heap.SameBut a s.heap h'->dI w h' a es'->es'.toList.Perm ((cJ prog w ks,.ref b) :: es.toList)->Q true { s with heap:=h' }) :
  Dh (DA prog w) A (setAddHashed a (.ref b) (cJ prog w ks)) Q E s:=by
 obtain ⟨ep,t,ho,T,rm,hl,hp⟩:=I
 unfold setAddHashed setAddHashedIn
 refine D5 (CD (bU ho T ?_))
 dsimp only
 rw[show byScan (.ref b) es=false from rfl]
 simp only[Dg,if_false]
 obtain ⟨n,q,hn,W,he,hq,hd⟩:=T.ends (cJ prog w ks)
 have hn':n<100000:=by
  have:t.mask<=511:=by rcases T.msk with e | e | e | e <;> lia
  unfold turns at hn
  lia
 unfold setSearch
 refine CD (sL hu ho T els hk he 100000 n none _ rfl W hn' hn rfl (λx =>?_) λx =>?_)
 ·obtain ⟨k,r,i,e,_,_,ee,el⟩:=x
  exact CK (hin ⟨e,Array.mem_of_getElem? ee,el⟩)
 ·have nx:¬ ∃e∈es,ElT prog w s.heap e ks:=by
   rintro ⟨e,he',el⟩
   obtain ⟨i,hi,ei⟩:=Array.getElem_of_mem he'
   have ee:es[i]? = some e:=by rw[Ds hi,ei]
   have hpl:i<t.place.size:=by rw[T.size,D7];exact hi
   obtain ⟨bb,rfl,hbb⟩:=el
   obtain ⟨k,r,w1,er⟩:=T.reach i _ _ (Ds hpl) (sJ es i _ ee)
   exact x ⟨k,r,i,_,w1,by rw[er];exact Ds hpl,ee,bb,rfl,hbb⟩
  dsimp only
  refine CD (bU ho T ?_)
  dsimp only
  rw[T.xA]
  dsimp only
  rw[hp]
  simp only[if_true]
  have hz':(es.map (·.1)).size+1<=t.mask:=by
   rw[D7];have:=T.fit;rw[D7] at this
   rcases T.msk with e | e | e | e <;> rw[e] at rm ⊢ <;> lia
  have T':=T.put W he hq hz'
  rw[<- fO es (below t.place q.j) (cJ prog w ks,Dd b) (·.1),hp] at T'
  have sz:(insertAt es (below t.place q.j) (cJ prog w ks,Dd b)).size=es.size+1:=cI _ _ _
  refine CD (sM hk ?_)
  simp only[if_true]
  refine CD (i6 ho (by rw[sz];lia) λh1 sb1 ho1 =>?_)
  have pm1:=insertAt_perm es (below t.place q.j) (cJ prog w ks,Dd b)
  rw[T'.tooFull,D7,sz]
  by_cases full:(es.size+1)*5≥t.mask*3
  ·rw[if_pos (by simpa using full)]
   unfold setRelay
   obtain ⟨t2,order,e2,pm2,T2,pe2,l2,p2,rm2⟩:=nQ T' sz (n:=es.size) (by simpa using rm) full hz
   obtain ⟨_,_,_,sa⟩:=qF T.msk rm full hz
   refine CD (CD (bU (s:={ s with heap:=h1 }) ho1 T' ?_))
   dsimp only
   rw[if_neg (Nat.not_lt.mpr (DT sa nP))]
   rw[e2]
   have z2:(order.filterMap ((insertAt es (below t.place q.j) (cJ prog w ks,Dd b))[·]?)).size=es.size+1:=by
    rw[<- CV,pe2.length_eq,CV,sz]
   refine CD ?_
   show Dh _ _ (if ((order.filterMap ((insertAt es (below t.place q.j) (cJ prog w ks,Dd b))[·]?)).size != (insertAt es (below t.place q.j) (cJ prog w ks,Dd b)).size)=true then _ else _) _ _ _
   rw[if_neg (by rw[z2,sz];simp)]
   refine CK ?_
   dsimp only
   refine i6 (s:={ s with heap:=h1 }) ho1 (by rw[z2];lia) λh2 sb2 ho2 =>?_
   refine CK (hnew nx h2 _ (sb1.trans sb2) ⟨_,_,ho2,T2,by rw[z2];exact rm2,by rw[l2];exact hl,by rw[p2]⟩ (pe2.trans pm1))
  ·rw[if_neg (by simpa using full)]
   refine CK (hnew nx h1 _ sb1 ⟨_,_,ho1,T',?_,hl,rfl⟩ pm1)
   rw[sz]
   exact GI full
end
open PySem PySem.SetTable PyProof.Rows
section
variable  {prog:De}{w:DN}{A:D1}{E:CJ->CN->Prop}{s:CN}
def ElI (e:Int×CJ)(k:Int):Prop:=∃t,e=(hashInt k,Ex k t)
theorem vJ {es:Array (Int×CJ)}(els:∀e∈es,∃k,ElI e k):ElemsOf (intKind prog w) es.toList:=by
 intro e he
 obtain ⟨k,t,rfl⟩:=els e (DH.mp he)
 exact ⟨⟨k,Jl _ _ _ _,rfl⟩,rfl⟩
theorem vK {t:SetTable}{es:Array (Int×CJ)}(T:Tab t (es.map (·.1)))(h:Int)(x:CJ){n:Nat}{q:Probe}(hn:n<10*turns t.mask)(W:Way (occ t) t.mask n (start t.mask h) q)(he:¬ occ t q.j)(hq:q.j<=t.mask)(hz:es.size+1<=t.mask) :
  layNew t es h x=(insertAt es (below t.place q.j) (h,x),{ t with place:=insertAt t.place (below t.place q.j) q.j },false,false):=by
 have hf:t.freeSlot h=some (q.j,false):=by
  unfold SetTable.freeSlot
  rcases qC T (H:=λ_=>h+1) (h:=h) W he hn rfl with ⟨g,_⟩ | ⟨_,_,i,_,_,_,h1,_⟩
  ·rw[show t.probe (λ_=>h+1) h (t.probeStart h)=some (.empty q.j none) from g]
   rfl
  ·have:h+1=h:=h1
   lia
 have T':=T.put W he hq (by rw[D7];exact hz)
 rw[<- fO es (below t.place q.j) (h,x) (·.1)] at T'
 have ft:=T'.fits
 rw[D7] at ft
 unfold layNew
 rw[hf]
 dsimp only
 rw[T.xA]
 dsimp only
 unfold SetTable.orStandIn
 rw[if_pos ft,ft]
 rfl
theorem qG {t:SetTable}{es:Array (Int×CJ)}{n:Nat}{t':SetTable}{order:Array Nat}(e:t.relaid (es.map (·.1)) n=some (t',order))(pm:order.toList.Perm (Ei es.size))(T':Tab t' ((order.filterMap (es[·]?)).map (·.1))) :
  relayAll t es n=(order.filterMap (es[·]?),t',false):=by
 unfold relayAll
 rw[e]
 dsimp only
 have c:coversAll order es.size=true:=by unfold coversAll;rw[List.isPerm_iff];exact pm
 have f:=T'.fits
 rw[D7] at f
 rw[c,f]
 rfl
theorem add_int {a:Addr}{es:Array (Int×CJ)}{k:Int}{tok:Tok}{Q:Bool->CN->Prop}(I:dI w s.heap a es)(els:∀e∈es,∃k',ElI e k')(hz:es.size<300)
  (hin:(∃e∈es,ElI e k)->Q false s)
  (hnew:(¬ ∃e∈es,ElI e k)->∀h' es',Heap.SameBut a s.heap h'->dI w h' a es'->es'.toList.Perm ((hashInt k,.int k tok) :: es.toList)->Q true { s with heap:=h' }) :
  Dh (DA prog w) A (setAddHashed a (.int k tok) (hashInt k)) Q E s:=by
 obtain ⟨ep,t,ho,T,rm,hl,hp⟩:=I
 have hel:=vJ (prog:=prog) (w:=w) els
 have hb:es.size<scanBound:=by unfold scanBound;lia
 have hf:t.fits es.size=true:=by have:=T.fits;rwa [D7] at this
 unfold setAddHashed setAddHashedIn
 refine D5 (CD (bU ho T ?_))
 dsimp only
 rw[byScan_of (knd:=intKind prog w) rfl hb hel]
 simp only[↓reduceIte]
 unfold setAddByScan
 refine CD ?_
 refine CD (FE ?_)
 refine CD (wpAny_setScan_of (knd:=intKind prog w) (k:=k) (Jl _ _ _ _) ho rfl hf hel ?_)
 cases hr:List.findIdx? (λe=>(intKind prog w).is k e.2) es.toList with
 | some j =>
  dsimp only
  obtain ⟨hj,hpj,_⟩:=List.findIdx?_eq_some_iff_getElem.mp hr
  refine CK (CK (hin ⟨es.toList[j],DH.mp (GG hj),?_⟩))
  obtain ⟨k',t',e'⟩:=els es.toList[j] (DH.mp (GG hj))
  obtain ⟨u,e2⟩:=G0 hpj
  rw[e'] at e2
  cases e2
  exact ⟨_,e'⟩
 | none =>
  dsimp only
  have nx:¬ ∃e∈es,ElI e k:=by
   rintro ⟨e,he,t',rfl⟩
   have:=List.findIdx?_eq_none_iff.mp hr _ (DH.mpr he)
   rw[Jl] at this
   cases this
  have hgw:∀(b:Bool) {s₁:CN} {Q':Unit->CN->Prop},Q' () s₁->Dh (DA prog w) A (match b with | true=>rule "set.scan.the-table-gave-way" | false=>pure ()) Q' E s₁ :=
   λb s₁ Q' hq=>by cases b <;> first | exact CK hq | exact FE hq
  obtain ⟨n,q,hn,W,he,hq,hd⟩:=T.ends (hashInt k)
  have hz':es.size+1<=t.mask:=by
   rcases T.msk with e | e | e | e <;> rw[e] at rm ⊢ <;> lia
  rw[vK T (hashInt k) (.int k tok) hn W he hq hz']
  dsimp only
  refine CD (CK (a:=()) ?_)
  have T':=T.put W he hq (by rw[D7];exact hz')
  rw[<- fO es (below t.place q.j) (hashInt k,Ex k tok) (·.1),hp] at T'
  rw[hp]
  simp only[↓reduceIte]
  refine CD ?_
  rw[show hashByValue 8 (.int k tok)=pure true from rfl]
  refine CK ?_
  simp only[↓reduceIte]
  have sz:(insertAt es (below t.place q.j) (hashInt k,Ex k tok)).size=es.size+1:=cI _ _ _
  refine CD (i6 ho (by rw[sz];lia) λh1 sb1 ho1 =>?_)
  have pm1:=insertAt_perm es (below t.place q.j) (hashInt k,Ex k tok)
  rw[T'.tooFull,D7,sz]
  by_cases full:(es.size+1)*5≥t.mask*3
  ·rw[if_pos (by simpa using full)]
   obtain ⟨t2,order,e2,pm2,T2,pe2,l2,p2,rm2⟩:=nQ T' sz (n:=es.size) (by simpa using rm) full hz
   rw[qG e2 pm2 T2]
   dsimp only
   have z2:(order.filterMap ((insertAt es (below t.place q.j) (hashInt k,Ex k tok))[·]?)).size=es.size+1:=by
    rw[<- CV,pe2.length_eq,CV,sz]
   refine CD (CK (a:=()) ?_)
   refine CD (i6 (s:={ s with heap:=h1 }) ho1 (by rw[z2];lia) λh2 sb2 ho2 =>?_)
   refine CK (CK (hnew nx h2 _ (sb1.trans sb2) ⟨_,_,ho2,T2,by rw[z2];exact rm2,by rw[l2];exact hl,by rw[p2]⟩ (pe2.trans pm1)))
  ·rw[if_neg (by simpa using full)]
   refine CK (CK (hnew nx h1 _ sb1 ⟨_,_,ho1,T',?_,hl,rfl⟩ pm1))
   rw[sz]
   exact GI full
end
open PySem PySem.SetTable PyProof.Rows PySem.Spec
def TS (h h':Heap):Prop:=∀b o,o.cls = .type "tuple" -> h.get? b=some o->h'.get? b=some o
structure Kd (prog:De)(w:DN)(κ:Type) where
 El:Heap->CJ -> κ -> Prop
 hash:κ -> Int
 room:D1->Prop
 keeps:∀{h h':Heap} {v:CJ} {k:κ},El h v k->TS h h'->El h' v k
 inj:∀{h:Heap} {v:CJ} {k k':κ},El h v k->El h v k'->k=k'
 add:∀{A:D1} {E:CJ->CN->Prop} {s:CN} {a:Addr} {es:Array (Int×CJ)} {v:CJ} {k:κ} {Q:Bool->CN->Prop},room A->dI w s.heap a es->(∀e∈es,∃k',e.1=hash k'/\El s.heap e.2 k')->El s.heap v k->es.size<300 →
  ((∃e∈es,El s.heap e.2 k)->∀tk,s.toks<=tk->Q false { s with toks:=tk }) →
  ((¬ ∃e∈es,El s.heap e.2 k)->∀h' es' tk,s.toks<=tk->Heap.SameBut a s.heap h'->dI w h' a es'->es'.toList.Perm ((hash k,v) :: es.toList)->Q true { s with heap:=h',toks:=tk }) →
  Dh (DA prog w) A (setAdd a v) Q E s
theorem TK.keep {prog:De}{w:DN}{h h':Heap}{ks:List Int}{b:Addr}(x:TK prog w h ks b)(t:TS h h'):TK prog w h' ks b :=
 let ⟨o,items,n,ho,hc,r⟩:=x;⟨o,items,n,t b o hc ho,hc,r⟩
def jZ (prog:De)(w:DN):Kd prog w (List Int) where
 El:=λh v ks=>∃b,v = .ref b/\TK prog w h ks b
 hash:=cJ prog w
 room:=λA=>A.units<cLine
 keeps:=λ⟨b,e,x⟩ t=>⟨b,e,x.keep t⟩
 inj:=λ⟨b,e,x⟩ ⟨b',e',x'⟩=>by
  rw[e] at e';injection e' with e';subst e';exact x.inj x'
 add:=by
  intro A E s a es v k Q hu I els hv hz hin hnew
  obtain ⟨b,rfl,hk⟩:=hv
  unfold setAdd
  refine D5 (CD (wpAny_pyHash_tuple hu hk ?_))
  have els':∀e∈es,∃ks',ElT prog w s.heap e ks':=λe he=>by
   obtain ⟨k',e1,b',e2,x⟩:=els e he
   exact ⟨k',b',Ko e1 e2,x⟩
  have conv:∀e∈es,(ElT prog w s.heap e k↔∃b,e.2 = .ref b/\TK prog w s.heap k b):=λe he=>by
   constructor
   ·rintro ⟨b',rfl,x⟩;exact ⟨b',rfl,x⟩
   ·rintro ⟨b',e2,x⟩
    obtain ⟨k',e1,b2,e3,x2⟩:=els e he
    rw[e2] at e3;injection e3 with e3;subst e3
    obtain rfl:=x.inj x2
    exact ⟨b',Ko e1 e2,x⟩
  refine zy (s:={ s with toks:=s.toks+(k.length+1) }) hu I els' hk hz (λx=>hin ?_ _ (FP _ _)) λx h' es' sb I' pm=>hnew ?_ h' es' _ (FP _ _) sb I' pm
  ·obtain ⟨e,he,x⟩:=x;exact ⟨e,he,(conv e he).mp x⟩
  ·rintro ⟨e,he,y⟩;exact x ⟨e,he,(conv e he).mpr y⟩
def uj (prog:De)(w:DN):Kd prog w Int where
 El:=λ_ v k=>∃t,v = .int k t
 hash:=hashInt
 room:=λ_=>True
 keeps:=λx _=>x
 inj:=λ⟨t,e⟩ ⟨t',e'⟩=>by rw[e] at e';injection e'
 add:=by
  intro A E s a es v k Q _ I els hv hz hin hnew
  obtain ⟨t,rfl⟩:=hv
  unfold setAdd
  refine D5 (CD ((intKind prog w).pyHash (k:=k) (Jl _ _ _ _) ?_))
  have els':∀e∈es,∃k',ElI e k':=λe he=>by
   obtain ⟨k',e1,t',e2⟩:=els e he
   exact ⟨k',t',Ko e1 e2⟩
  have conv:∀e∈es,(ElI e k↔∃t,e.2=Ex k t):=λe he=>by
   constructor
   ·rintro ⟨t',rfl⟩;exact ⟨t',rfl⟩
   ·rintro ⟨t',e2⟩
    obtain ⟨k',e1,t2,e3⟩:=els e he
    rw[e2] at e3;injection e3 with e3 e4;subst e3
    exact ⟨t',Ko e1 e2⟩
  refine add_int (s:={ s with toks:=s.toks+1 }) I els' hz (λx=>hin ?_ _ (Iu _)) λx h' es' sb I' pm=>hnew ?_ h' es' _ (Iu _) sb I' pm
  ·obtain ⟨e,he,x⟩:=x;exact ⟨e,he,(conv e he).mp x⟩
  ·rintro ⟨e,he,y⟩;exact x ⟨e,he,(conv e he).mpr y⟩
section
variable  {prog:De}{w:DN}{κ:Type}(kd:Kd prog w κ)
structure Good (h:Heap)(es:Array (Int×CJ))(l:List κ):Prop where
 el:∀e∈es,∃k,k∈l/\e.1=kd.hash k/\kd.El h e.2 k
 all:∀k∈l,∃e∈es,kd.El h e.2 k
 dis:es.toList.Pairwise (λe e'=>∀k,kd.El h e.2 k->¬ kd.El h e'.2 k)
 len:es.size<=l.length
variable  {kd}
theorem Good.keeps {h h':Heap}{es:Array (Int×CJ)}{l:List κ}(G:Good kd h es l)(t:TS h h'):Good kd h' es l:=by
 refine ⟨λe he =>?_,λk hk =>?_,?_,G.len⟩
 ·obtain ⟨k,a,b,c⟩:=G.el e he;exact ⟨k,a,b,kd.keeps c t⟩
 ·obtain ⟨e,a,b⟩:=G.all k hk;exact ⟨e,a,kd.keeps b t⟩
 ·refine Hs (λ{e e'} he he' x k y z =>?_) G.dis
  obtain ⟨k1,_,_,c1⟩:=G.el e (DH.mp he)
  obtain ⟨k2,_,_,c2⟩:=G.el e' (DH.mp he')
  obtain rfl:=kd.inj y (kd.keeps c1 t)
  obtain rfl:=kd.inj z (kd.keeps c2 t)
  exact x _ c1 c2
theorem Good.nil (h:Heap):Good kd h #[] []:=⟨λe he=>(by simp at he),λk hk=>(by cases hk),(by simp),CO _⟩
theorem Good.same {h:Heap}{es:Array (Int×CJ)}{l:List κ}(G:Good kd h es l){k:κ}(x:∃e∈es,kd.El h e.2 k):Good kd h es (l++[k]):=by
 refine ⟨λe he =>?_,λk' hk =>?_,G.dis,by rw[CL];have:=G.len;lia⟩
 ·obtain ⟨k,a,b⟩:=G.el e he;exact ⟨k,Dn _ a,b⟩
 ·rcases CW.mp hk with hk | hk
  ·exact G.all k' hk
  ·rw[CQ] at hk;subst hk;exact x
theorem Good.more {h:Heap}{es es':Array (Int×CJ)}{l:List κ}(G:Good kd h es l){k:κ}{v:CJ}(hv:kd.El h v k)(x:¬ ∃e∈es,kd.El h e.2 k)(pm:es'.toList.Perm ((kd.hash k,v) :: es.toList)):Good kd h es' (l++[k]):=by
 have mem:∀e,e∈es'↔e=(kd.hash k,v)\/e∈es:=λe=>by
  rw[<- DH,pm.mem_iff,C9,DH]
 refine ⟨λe he =>?_,λk' hk =>?_,?_,?_⟩
 ·rcases (mem e).mp he with rfl | he
  ·exact ⟨k,Dt _ (CQ.mpr rfl),rfl,hv⟩
  ·obtain ⟨k,a,b⟩:=G.el e he;exact ⟨k,Dn _ a,b⟩
 ·rcases CW.mp hk with hk | hk
  ·obtain ⟨e,a,b⟩:=G.all k' hk;exact ⟨e,(mem e).mpr (.inr a),b⟩
  ·rw[CQ] at hk;subst hk;exact ⟨_,(mem _).mpr (.inl rfl),hv⟩
 ·rw[pm.pairwise_iff (λ{a b} z k y1 y2=>z k y2 y1)]
  refine List.Pairwise.cons (λe he k' y1 y2 =>?_) G.dis
  obtain rfl:=kd.inj y1 hv
  exact x ⟨e,DH.mp he,y2⟩
 ·have:=pm.length_eq
  rw[Dx,CV,CV] at this
  rw[CL,D2]
  have:=G.len
  lia
end
section
variable  {prog:De}{w:DN}{A:D1}{R:Result->CN->Prop}{I:Addr}{fp:List Addr}{G:Array GenState->Array GenState->Prop}{n:Nat}{P:Nat->CJ->Prop}{St:Nat->CN->Prop}{κ:Type}{kd:Kd prog w κ}
theorem qH (W:WalksS prog w A.in1 I fp [I] G n P St)(hrm:kd.room A.in1)(hI:∀i s,St i s->∃o,s.heap.get? I=some o/\o.cls ≠ .type "tuple")(S:Addr)(hSf:S∉fp)(hIf:I∈fp)(ks:List κ)(hn:n=ks.length)(hb:n<300) :
  ∀(k i:Nat) (s:CN) (es:Array (Int×CJ)),n-i=k->i<=n->St i s->(∀j v,P j v->∃q,ks[j]? = some q/\kd.El s.heap v q) →
   dI w s.heap S es->Good kd s.heap es (ks.take i) →
   (∀s' es',Moved [S,I] G s s'->dI w s'.heap S es'->Good kd s'.heap es' ks->R (.ok (.ret .none)) s') →
   He (DA prog w) A (.builtin "set.update.loop" ⟨[.ref S,.ref I],[]⟩) R s:=by
 have hSI:S≠I:=λe=>hSf (e ▸ hIf)
 have ts:∀i s s',St i s->Moved [I] G s s'->TS s.heap s'.heap:=λi s s' hst hm b o hc e=>by
  refine hm.heap b o (λhb =>?_) e
  rw[CQ] at hb
  obtain ⟨o',e',c'⟩:=hI i s hst
  rw[hb,e'] at e;cases e;exact c' hc
 intro k
 induction k with
 | zero =>
  intro i s es hk hi hst hv hS hG hR
  have hin:i=n:=by omega
  subst hin
  refine D3 Jn ?_
  rw[DP GD _]
  show Dh _ A.in1 (pyNext (.ref I) >>= _) _ _ s
  refine CD (W.done s _ _ hst λs' hm =>?_)
  show Dh _ A.in1 (ret EW) _ _ s'
  rw[C7 (by omega)] at hG
  exact CK (hR s' es (hm.mono λb hb=>by rw[CQ] at hb;simp[hb]) (hS.at λo e=>hm.heap S o (by rw[CQ];exact hSI) e) (hG.keeps (ts _ _ _ hst hm)))
 | succ k ih =>
  intro i s es hk hi hst hv hS hG hR
  have hlt:i<n:=by omega
  refine D3 Jn ?_
  rw[DP GD _]
  show Dh _ A.in1 (pyNext (.ref I) >>= _) _ _ s
  refine CD (W.item i s _ _ hlt hst λv s' hP hst' hm =>?_)
  have t0:=ts _ _ _ hst hm
  obtain ⟨q,eq,hq⟩:=hv i v hP
  have hS':dI w s'.heap S es:=hS.at λo e=>hm.heap S o (by rw[CQ];exact hSI) e
  have hG':=hG.keeps t0
  have tk:ks.take (i+1)=ks.take i++[q]:=by rw[LO,eq];rfl
  show Dh _ A.in1 (HU [v] (setAdd S v) >>= _) _ _ s'
  have hm2:Moved [S,I] G s s':=hm.mono λb hb=>by rw[CQ] at hb;simp[hb]
  refine CD (D5 (kd.add hrm hS' (λe he =>?_) (kd.keeps hq t0) ?_ (λx tk' htk =>?_) λx h' es' tk' htk sb I' pm =>?_))
  ·obtain ⟨k',_,a,b⟩:=hG'.el e he;exact ⟨k',a,b⟩
  ·have:=hG'.len;rw[Eb] at this;omega
  ·refine CK ⟨Ek GD _,ih (i+1) _ es (by omega) hlt (W.frame _ s' _ _ hst' htk λb _ o e=>e) (λj v' p =>?_) hS' (by rw[tk];exact hG'.same x) λs'' es'' hm'' a b =>?_⟩
   ·obtain ⟨q',a,b⟩:=hv j v' p;exact ⟨q',a,kd.keeps b t0⟩
   ·exact hR s'' es'' (L7 W.gtrans (hm2.then_heap htk λb o _ e=>e) hm'') a b
  ·have t1:TS s'.heap h':=λb o hc e=>by
    rw[sb.2 b (λhb=>by
     obtain ⟨ep,t,ho,_⟩:=hS'
     rw[hb,ho] at e;cases e;simp[aZ] at hc)]
    exact e
   refine CK ⟨Ek GD _,ih (i+1) _ es' (by omega) hlt (W.frame _ s' _ _ hst' htk λb hb o e =>?_) (λj v' p =>?_) I' (by rw[tk];exact (hG'.more (kd.keeps hq t0) x pm).keeps t1) λs'' es'' hm'' a b =>?_⟩
   ·rw[sb.2 b (λh:b=S=>hSf (h ▸ hb))];exact e
   ·obtain ⟨q',a,b⟩:=hv j v' p;exact ⟨q',a,kd.keeps (kd.keeps b t0) t1⟩
   ·refine hR s'' es'' (L7 W.gtrans (hm2.then_heap htk λb o hb e =>?_) hm'') a b
    rw[sb.2 b (λh:b=S=>hb (by rw[h];exact Di))];exact e
end
section
variable  {prog:De}{w:DN}{A:D1}{E:CJ->CN->Prop}{s:CN}
theorem uo (a:CJ){Q₁:CJ->CN->Prop}
    (h:Q₁ (.ref s.heap.objs.size) { s with heap:=s.heap.push (aZ #[] 0 (.fresh 0 0 (!w.params.followText "set-order"))) }) :
    He (DA prog w) A (.call (.builtin "set.__new__") ⟨[.type "set",a],[]⟩) (wants Q₁ E) s:=by
  refine JW ?_
  show Dh _ A.in1 (do checkBuiltinCall "set.__new__" ⟨[.type "set",a],[]⟩;again (.builtin "set.__new__" ⟨[.type "set",a],[]⟩)) _ _ s
  refine CD (E3 (PySem.F.newCall_set_1 a) (CK ⟨Ek Lv _,D3 F.entry_set_new ?_⟩))
  rw[DP Lv _]
  unfold Builtin.«set.__new__» Builtin.Frozenset.newClass
  have hsub:=sub_set_self
  obtain ⟨hp,g,d,tk,os⟩:=s
  dsimp only
  wp_walk
  refine Jx (CK ?_)
  dsimp only
  simp only[newObj]
  refine CD (wpAny_alloc (CK ?_))
  exact CK h
theorem vL (led:Bool):Tab (.fresh 0 0 led) #[]:=by
 refine ⟨rfl,λi j a b e =>?_,rfl,λi j e =>?_,.inl rfl,DQ _,λi j h e =>?_⟩ <;> (simp[SetTable.fresh] at e)
theorem lH {h:Heap}{a:Addr}(ho:h.get? a=some (aZ #[] 0 (.fresh 0 0 (!w.params.followText "set-order")))):dI w h a #[] :=
 ⟨0,_,ho,(by rw[Array.map_empty];exact vL _),(by show 0*5<7*3;decide),rfl,rfl⟩
theorem sub_tuple_set:isSubtype (.type "tuple") (.type "set")=pure false:=by rw[Ff];kernel_rfl
theorem sub_tuple_frozenset:isSubtype (.type "tuple") (.type "frozenset")=pure false:=by rw[Ff];kernel_rfl
end
open PySem PySem.SetTable PyProof.Rows PySem.Spec
section
variable  {prog:De}{w:DN}{A:D1}{E:CJ->CN->Prop}{s:CN}
set_option maxHeartbeats 3200000 in
theorem gh {κ:Type}{kd:Kd prog w κ}{l:Addr}{items:Array CJ}{ks:List κ}{Q:CJ->CN->Prop}
  (hh:A.handled=none) (hrm:kd.room A.in1.in1.in1) (hl:s.heap.IsTuple l items) (hz:items.size=ks.length) (hi:∀(i:Nat) v,items[i]? = some v->∃q,ks[i]? = some q/\kd.El s.heap v q) (hb:items.size<300)
  (h:∀(h':Heap) (es:Array (Int×CJ)) (tk:Nat),s.toks<=tk->dI w h' s.heap.objs.size es->Good kd h' es ks →
   (∀b o,s.heap.get? b=some o->h'.get? b=some o)->Q (.ref s.heap.objs.size) { s with heap:=h',toks:=tk }) :
  Dh (DA prog w) A (call (.type "set") [.ref l]) Q E s:=by
 obtain ⟨c,tl,hmro⟩:=EX.mro
 have hmade:=EX.made
 have hsub:=EX.sub
 refine K2 (JW ?_)
 show Dh _ _ (callAny (.type "set") _) _ _ _
 refine CK ⟨IQ _ (by decide +kernel),D3 KW ?_⟩
 rw[Ku (JX "set" [.ref l] []) rfl]
 have h1:=EX.notType
 have h2:=EX.canCreate
 have hct:=JC (.ref l)
 repeat (any_goals (first | assumption | wp_step))
 have gd:(s.heap.push (aZ #[] 0 (.fresh 0 0 (!w.params.followText "set-order")))).objs.size=s.heap.objs.size+1:=ED _ _
 refine Hy (uo (w:=w) (.ref l) (E:=E) (Q₁:=λobj s₁=>obj = .ref s.heap.objs.size/\s₁={ s with heap:=s.heap.push (aZ #[] 0 (.fresh 0 0 (!w.params.followText "set-order"))) }) ⟨rfl,rfl⟩) λr s₁ hr =>?_
 cases r with
 | error e=>exact hr
 | ok fl =>
  cases fl with
  | ret obj =>
   obtain ⟨rfl,rfl⟩:=hr
   generalize hled:(!w.params.followText "set-order")=led at gd ⊢
   have hS:(s.heap.push (aZ #[] 0 (.fresh 0 0 led))).get? s.heap.objs.size=some (aZ #[] 0 (.fresh 0 0 led)):=CZ _ rfl
   have hT:Shared.TypeIs { s with heap:=s.heap.push (aZ #[] 0 (.fresh 0 0 led)) } (.ref s.heap.objs.size) "set" :=⟨_,hS,rfl⟩
   have hli:=EX.init.lookup
   have hbi:=EX.init.bind (.ref s.heap.objs.size)
   repeat (any_goals (first | assumption | wp_step))
   refine Hy (Il (R:=wants (λr s₂=>r = .none/\∃h' es tk,s₂={ s with heap:=h',toks:=tk }/\s.toks<=tk ∧
     dI w h' s.heap.objs.size es/\Good kd h' es ks ∧
     (∀b o,s.heap.get? b=some o->h'.get? b=some o)) E) EX.init.plain Lj (check_set_init_1 hT ?_)) λr₂ s₂ hr₂ =>?_
   ·obtain ⟨ol,hol,hcl,nl,hdl⟩:=id hl
    obtain ⟨ocls,odict,odata,oslots⟩:=ol
    simp only at hcl hdl
    subst hcl;subst hdl
    have hol':(s.heap.push (aZ #[] 0 (.fresh 0 0 led))).get? l=some { cls :=.type "tuple",dict:=odict,data :=.seq items nl,slots:=oslots }:=CH _ hol
    have hsls:=sub_tuple_set
    have hslf:=sub_tuple_frozenset
    have hne:(EK "tuple" == EK "dict")=false:=by decide
    have hl1:(s.heap.push (aZ #[] 0 (.fresh 0 0 led))).IsTuple l items:=⟨_,hol',rfl,nl,rfl⟩
    unfold Builtin.«set.__init__» noKeywords Builtin.Frozenset.updateFrom
    generalize hPI:pyIter=PI
    wp_walk
    subst hPI
    refine Fm hl1 ?_
    refine CD (Hj ?_)
    have hlS:l<s.heap.objs.size:=C1 hol
    have hh3:A.in1.in1.in1.handled=none:=by simp[hh]
    have hneI:l≠(s.heap.push (aZ #[] 0 (.fresh 0 0 led))).objs.size:=by
     rw[gd];exact Dc (DW hlS)
    have hSf:s.heap.objs.size∉[(s.heap.push (aZ #[] 0 (.fresh 0 0 led))).objs.size,l]:=by
     rw[gd];simp only[C9,CQ,GJ,or_false,not_or]
     exact ⟨Dc (Et _),F8 hlS⟩
    refine qH (kd:=kd) ((Jo hh3 _ l hneI items).toS) hrm (λi s' st =>?hI) s.heap.objs.size hSf Di ks hz hb (items.size-0) 0 _ #[] (by lia) (DQ _)
     ⟨⟨_,CZ _ rfl,rfl,rfl⟩,(hl1.push _)⟩ ?hv (by subst hled;exact lH (CH _ hS)) (Good.nil _) ?hR
    case hI =>
     obtain ⟨o,ho,hc,_⟩:=st.1
     exact ⟨o,ho,by rw[hc];decide⟩
    case hv =>
     intro j v hv
     obtain ⟨q,e,x⟩:=hi j v hv
     exact ⟨q,e,kd.keeps x λb o _ e=>CH _ (CH _ e)⟩
    case hR =>
     intro s' es' hm hS' hG'
     obtain ⟨h',g',d',tk',os'⟩:=s'
     have eg:g'=s.gens:=hm.gens
     have ed:d'=s.drawn:=hm.drawn
     have eo:os'=s.os:=hm.os
     subst eg;subst ed;subst eo
     show Dh _ _ _ _ _ _
     refine CK ?_
     show Dh _ _ (ret EW) _ _ _
     refine CK ⟨rfl,h',es',tk',rfl,hm.toks,hS',hG',λb o e =>?_⟩
     have hbb:=C1 e
     have hb1:b≠s.heap.objs.size:=Dc hbb
     have hb2:b≠(s.heap.push (aZ #[] 0 (.fresh 0 0 led))).objs.size:=by
      rw[gd];exact Dc (DW hbb)
     exact hm.heap b o (by simp only[C9,CQ,GJ,or_false,not_or];exact ⟨hb1,hb2⟩) (CH _ (CH _ e))
   ·cases r₂ with
    | error e=>exact hr₂
    | ok fl₂ =>
     cases fl₂ with
     | ret r =>
      obtain ⟨rfl,h',es,tk,rfl,htk,hS',hG',hk'⟩:=hr₂
      repeat (any_goals (first | assumption | wp_step))
      exact h _ _ _ htk hS' hG' hk'
     | _=>exact hr₂.elim
  | _=>exact hr.elim
end
open PySem PySem.SetTable PyProof.Rows PySem.Spec
section
variable  {prog:De}{w:DN}{A:D1}{E:CJ->CN->Prop}{s:CN}
set_option maxHeartbeats 3200000 in
theorem call_set_list {κ:Type}{kd:Kd prog w κ}{l:Addr}{items:Array CJ}{ks:List κ}{Q:CJ->CN->Prop}
  (hh:A.handled=none) (hrm:kd.room A.in1.in1.in1) (hl:s.heap.IsList l items) (hz:items.size=ks.length) (hi:∀(i:Nat) v,items[i]? = some v->∃q,ks[i]? = some q/\kd.El s.heap v q) (hb:items.size<300)
  (h:∀(h':Heap) (es:Array (Int×CJ)) (tk:Nat),s.toks<=tk->dI w h' s.heap.objs.size es->Good kd h' es ks →
   (∀b o,s.heap.get? b=some o->h'.get? b=some o)->Q (.ref s.heap.objs.size) { s with heap:=h',toks:=tk }) :
  Dh (DA prog w) A (call (.type "set") [.ref l]) Q E s:=by
 obtain ⟨c,tl,hmro⟩:=EX.mro
 have hmade:=EX.made
 have hsub:=EX.sub
 refine K2 (JW ?_)
 show Dh _ _ (callAny (.type "set") _) _ _ _
 refine CK ⟨IQ _ (by decide +kernel),D3 KW ?_⟩
 rw[Ku (JX "set" [.ref l] []) rfl]
 have h1:=EX.notType
 have h2:=EX.canCreate
 have hct:=JC (.ref l)
 repeat (any_goals (first | assumption | wp_step))
 have gd:(s.heap.push (aZ #[] 0 (.fresh 0 0 (!w.params.followText "set-order")))).objs.size=s.heap.objs.size+1:=ED _ _
 refine Hy (uo (w:=w) (.ref l) (E:=E) (Q₁:=λobj s₁=>obj = .ref s.heap.objs.size/\s₁={ s with heap:=s.heap.push (aZ #[] 0 (.fresh 0 0 (!w.params.followText "set-order"))) }) ⟨rfl,rfl⟩) λr s₁ hr =>?_
 cases r with
 | error e=>exact hr
 | ok fl =>
  cases fl with
  | ret obj =>
   obtain ⟨rfl,rfl⟩:=hr
   generalize hled:(!w.params.followText "set-order")=led at gd ⊢
   have hS:(s.heap.push (aZ #[] 0 (.fresh 0 0 led))).get? s.heap.objs.size=some (aZ #[] 0 (.fresh 0 0 led)):=CZ _ rfl
   have hT:Shared.TypeIs { s with heap:=s.heap.push (aZ #[] 0 (.fresh 0 0 led)) } (.ref s.heap.objs.size) "set" :=⟨_,hS,rfl⟩
   have hli:=EX.init.lookup
   have hbi:=EX.init.bind (.ref s.heap.objs.size)
   repeat (any_goals (first | assumption | wp_step))
   refine Hy (Il (R:=wants (λr s₂=>r = .none/\∃h' es tk,s₂={ s with heap:=h',toks:=tk }/\s.toks<=tk ∧
     dI w h' s.heap.objs.size es/\Good kd h' es ks ∧
     (∀b o,s.heap.get? b=some o->h'.get? b=some o)) E) EX.init.plain Lj (check_set_init_1 hT ?_)) λr₂ s₂ hr₂ =>?_
   ·obtain ⟨ol,hol,hcl,nl,hdl⟩:=id hl
    obtain ⟨ocls,odict,odata,oslots⟩:=ol
    simp only at hcl hdl
    subst hcl;subst hdl
    have hol':(s.heap.push (aZ #[] 0 (.fresh 0 0 led))).get? l=some { cls :=.type "list",dict:=odict,data :=.seq items nl,slots:=oslots }:=CH _ hol
    have hsls:=PySem.F.sub_list_set
    have hslf:=PySem.F.sub_list_frozenset
    have hne:(EK "list" == EK "dict")=false:=by decide
    have hl1:(s.heap.push (aZ #[] 0 (.fresh 0 0 led))).IsList l items:=⟨_,hol',rfl,nl,rfl⟩
    unfold Builtin.«set.__init__» noKeywords Builtin.Frozenset.updateFrom
    generalize hPI:pyIter=PI
    wp_walk
    subst hPI
    refine Gw hl1 ?_
    refine CD (Hj ?_)
    have hlS:l<s.heap.objs.size:=C1 hol
    have hh3:A.in1.in1.in1.handled=none:=by simp[hh]
    have hneI:l≠(s.heap.push (aZ #[] 0 (.fresh 0 0 led))).objs.size:=by
     rw[gd];exact Dc (DW hlS)
    have hSf:s.heap.objs.size∉[(s.heap.push (aZ #[] 0 (.fresh 0 0 led))).objs.size,l]:=by
     rw[gd];simp only[C9,CQ,GJ,or_false,not_or]
     exact ⟨Dc (Et _),F8 hlS⟩
    refine qH (kd:=kd) ((KP hh3 _ l hneI items).toS) hrm (λi s' st =>?hI) s.heap.objs.size hSf Di ks hz hb (items.size-0) 0 _ #[] (by lia) (DQ _)
     ⟨⟨_,CZ _ rfl,rfl,rfl⟩,(hl1.push _)⟩ ?hv (by subst hled;exact lH (CH _ hS)) (Good.nil _) ?hR
    case hI =>
     obtain ⟨o,ho,hc,_⟩:=st.1
     exact ⟨o,ho,by rw[hc];decide⟩
    case hv =>
     intro j v hv
     obtain ⟨q,e,x⟩:=hi j v hv
     exact ⟨q,e,kd.keeps x λb o _ e=>CH _ (CH _ e)⟩
    case hR =>
     intro s' es' hm hS' hG'
     obtain ⟨h',g',d',tk',os'⟩:=s'
     have eg:g'=s.gens:=hm.gens
     have ed:d'=s.drawn:=hm.drawn
     have eo:os'=s.os:=hm.os
     subst eg;subst ed;subst eo
     show Dh _ _ _ _ _ _
     refine CK ?_
     show Dh _ _ (ret EW) _ _ _
     refine CK ⟨rfl,h',es',tk',rfl,hm.toks,hS',hG',λb o e =>?_⟩
     have hbb:=C1 e
     have hb1:b≠s.heap.objs.size:=Dc hbb
     have hb2:b≠(s.heap.push (aZ #[] 0 (.fresh 0 0 led))).objs.size:=by
      rw[gd];exact Dc (DW hbb)
     exact hm.heap b o (by simp only[C9,CQ,GJ,or_false,not_or];exact ⟨hb1,hb2⟩) (CH _ (CH _ e))
   ·cases r₂ with
    | error e=>exact hr₂
    | ok fl₂ =>
     cases fl₂ with
     | ret r =>
      obtain ⟨rfl,h',es,tk,rfl,htk,hS',hG',hk'⟩:=hr₂
      repeat (any_goals (first | assumption | wp_step))
      exact h _ _ _ htk hS' hG' hk'
     | _=>exact hr₂.elim
  | _=>exact hr.elim
end
open PySem PySem.SetTable PyProof.Rows
namespace F9
theorem fP:Slot "set_iterator" "__next__" "set_iterator.__next__" :=
 .of (owner := "set_iterator") (n := "__next__") (by rw[FK,EI];kernel_rfl) (by decide +kernel) (by decide +kernel) (by decide +kernel)
  (by first | exact .inl (by decide +kernel) | exact .inr (by decide +kernel)) (by rw[Ff];kernel_rfl)
theorem mQ:entryFor table "set_iterator.__next__" = some Builtin.«set_iterator.__next__» := Jy (by kernel_rfl)
theorem oY (a:CJ):argsOk "set_iterator.__next__" ⟨[a],[]⟩:=by
 unfold argsOk;kernel_rfl
theorem lI:entryFor table "set.__iter__" = some Builtin.«frozenset.__iter__» :=
 entryFor_alias (id' := "frozenset.__iter__") (by kernel_rfl) rfl (by decide +kernel) (by kernel_rfl)
end F9
theorem lJ {α:Type}:∀(l:List α) (i:Nat) (x:α),l[i]? = some x->(x :: l.eraseIdx i).Perm l
 | [],i,x,h=>by simp at h
 | y :: l,0,x,h=>by simp at h;subst h;exact Hf _
 | y :: l,i+1,x,h=>by
  rw[Fj] at h
  rw[HF]
  exact (List.Perm.swap y x _).trans (List.Perm.cons y (lJ l i x h))
theorem uq {α:Type}(next:Nat->Nat):∀(fuel k:Nat) (left:List α) (out:Array α),left.length=fuel->(pickOrder.go next fuel k left out).toList.Perm (out.toList++left)
 | 0,k,left,out,h=>by
  have:left=[]:=FW.mp h
  subst this
  unfold pickOrder.go
  rw[DU]
 | fuel+1,k,left,out,h=>by
  unfold pickOrder.go
  have hl:next k%left.length<left.length:=HP _ (by lia)
  have e:=CI hl
  rw[e]
  dsimp only
  have ih:=uq next fuel (k+1) (left.eraseIdx (next k%left.length)) (out.push left[next k%left.length]) (by rw[Hc,if_pos hl];lia)
  refine ih.trans ?_
  rw[Fy,DD]
  exact E9 _ (lJ _ _ _ e)
theorem vM {α:Type}(next:Nat->Nat)(xs:Array α):(pickOrder next xs).toList.Perm xs.toList:=by
 unfold pickOrder
 have:=uq next xs.size 0 xs.toList #[] (by simp)
 simpa using this
section
variable  {prog:De}{w:DN}{A:D1}{E:CJ->CN->Prop}{s:CN}
def walkVals (w:DN)(a:Addr)(es:Array (Int×CJ))(ep:Nat):List CJ :=
 if w.params.followText "set-order" = true then (pickOrder (w.params.setOrder a ep) es).toList.map (·.2) else es.toList.map (·.2)
theorem nU (w:DN)(a:Addr)(es:Array (Int×CJ))(ep:Nat):(walkVals w a es ep).Perm (es.toList.map (·.2)):=by
 unfold walkVals
 split
 ·exact (vM _ _).map _
 ·exact Hf _
theorem jE {Q:Bool->CN->Prop}(h:Q (w.params.followText "set-order") s):Dh (DA prog w) A setsByText Q E s:=by
 unfold setsByText
 exact CD (Jx (CK h))
theorem sN {a:Addr}{es:Array (Int×CJ)}{ep:Nat}{t:SetTable}{Q:Option (CJ×Nat)->CN->Prop}(ho:s.heap.get? a=some (aZ es ep t))(T:Tab t (es.map (·.1)))(hl:t.led = !w.params.followText "set-order")(hp:t.plain=true){slot i:Nat}
  (hs:w.params.followText "set-order" = false->below t.place slot=i)
  (hy:∀x slot',(walkVals w a es ep)[i]? = some x->(w.params.followText "set-order" = false->below t.place slot'=i+1)->Q (some (x,slot')) s)
  (hn:(walkVals w a es ep)[i]? = none->Q none s):Dh (DA prog w) A (setNext a slot i ep) Q E s:=by
 unfold setNext
 refine CD (bU ho T ?_)
 dsimp only
 refine CD (jE ?_)
 cases hb:w.params.followText "set-order" with
 | true =>
  rw[hb] at hs hy
  simp only[bne_self_eq_false,Dg,if_true,if_false]
  refine CD ?_
  unfold setWalk
  refine CD (bU ho T ?_)
  dsimp only
  refine CD (jE ?_)
  rw[hb]
  simp only[if_true]
  refine CD (Jx (CK ?_))
  refine CK ?_
  have ew:(walkVals w a es ep)[i]? = ((pickOrder (w.params.setOrder a ep) es)[i]?).map (·.2):=by
   unfold walkVals
   rw[if_pos hb,CU,C3]
  show Q (((pickOrder (w.params.setOrder a ep) es)[i]?).map λe=>(e.2,slot)) s
  cases hx:(pickOrder (w.params.setOrder a ep) es)[i]? with
  | none=>rw[hx] at ew;exact hn ew
  | some e=>rw[hx] at ew;exact hy _ _ ew (λq=>by cases q)
 | false =>
  have hs':=hs hb
  simp only[Dg,if_false]
  have ew:(walkVals w a es ep)[i]? = (es[i]?).map (·.2):=by
   unfold walkVals
   rw[if_neg (by rw[hb];exact C8),CU,C3]
  show Dh _ _ (if (!t.plain && decide (es.size>1))=true then _ else _) _ _ _
  rw[hp]
  simp only[EU,IV,Dg,if_false]
  refine CD ?_
  show Dh _ _ (if (!t.led && !es.isEmpty)=true then _ else _) _ _ _
  rw[hl,hb]
  simp only[J6,EU,IV,Dg,if_false]
  refine CK ?_
  rw[hs']
  by_cases hi:i<es.size
  ·have ee:es[i]? = some es[i]:=Ds hi
   have hpl:i<t.place.size:=by rw[T.size,D7];exact hi
   have ep':t.place[i]? = some t.place[i]:=Ds hpl
   rw[ee,ep']
   rw[ee] at ew
   exact CK (hy _ _ ew λ_=>sE T.rise ep')
  ·have ee:es[i]? = none:=Ft (by lia)
   rw[ee]
   rw[ee] at ew
   exact CK (hn ew)
def jF (h:Heap)(it a:Addr)(slot i n ep:Nat):Prop:=h.get? it=some { cls :=.type "set_iterator",data :=.fields #[.int slot 0,.int i 0,.ref a,.int n 0,.int ep 0] }
theorem jF.typeIs {it a:Addr}{slot i n ep:Nat}(x:jF s.heap it a slot i n ep):s.TypeIs (.ref it) "set_iterator" :=⟨_,x,rfl⟩
end
open PySem PySem.SetTable PyProof.Rows
section
variable  {prog:De}{w:DN}{A:D1}{E:CJ->CN->Prop}{s:CN}
structure sO (w:DN)(h:Heap)(it a:Addr)(es:Array (Int×CJ))(ep i:Nat):Prop where
 st:∃t slot,h.get? a=some (aZ es ep t)/\Tab t (es.map (·.1))/\t.led=(!w.params.followText "set-order")/\t.plain=true/\(w.params.followText "set-order" = false->below t.place slot=i)/\jF h it a slot i es.size ep
theorem ur {it a:Addr}{es:Array (Int×CJ)}{ep i:Nat}{Q:Option CJ->CN->Prop}(hh:A.handled=none)(hne:it≠a)(O:sO w s.heap it a es ep i)
  (hy:∀x h',(walkVals w a es ep)[i]? = some x->sO w h' it a es ep (i+1)->Heap.SameBut it s.heap h'->Q (some x) { s with heap:=h' })
  (hn:(walkVals w a es ep)[i]? = none->∀h',Heap.ExtBut it s.heap h'->Q none { s with heap:=h' }) :
  Dh (DA prog w) A (pyNext (.ref it)) Q E s:=by
 obtain ⟨t,slot,ho,T,hl,hp,hs,hit⟩:=O.st
 have hf:t.fits es.size=true:=by have:=T.fits;rwa [D7] at this
 unfold pyNext
 refine CD (GF (EN (name:=Str.ofString "__next__") hit.typeIs F9.fP
  (Em F9.fP hit.typeIs F9.mQ ?_ (F9.oY _))))
 show Dh _ _ (fieldsOf (.ref it) >>= _) _ _ s
 refine CD (wpAny_fieldsOf hit rfl ?_)
 show Dh _ _ (setEntries a >>= _) _ _ s
 refine CD (Kk ho rfl hf ?_)
 rw[if_neg (by simp)]
 show Dh _ _ (setNext a ((slot:Int).toNat) ((i:Int).toNat) ((ep:Int).toNat) >>= _) _ _ s
 rw[Ej,Ej,Ej]
 refine CD (sN ho T hl hp hs (λx slot' ex hs' =>?_) λex =>?_)
 ·dsimp only
  refine CD (IU hit (by simp) λh1 e1 sb1 =>?_)
  refine CD (IU e1 (by simp) λh2 e2 sb2 =>?_)
  refine CK ⟨x,rfl,CK (hy x h2 ex ⟨t,slot',?_,T,hl,hp,hs',?_⟩ (sb1.trans sb2))⟩
  ·rw[(sb1.trans sb2).2 a (D8 hne)];exact ho
  ·unfold jF
   rw[e2]
   simp[GZ]
 ·dsimp only
  refine CD (IU hit (by simp) λh1 e1 sb1 =>?_)
  show Dh _ _ (newExc (.type "StopIteration") [] >>= _) _ _ _
  refine CD ?_
  simp only[newExc,newTuple]
  refine CD (DM ?_ (by size_fits))
  refine CD (m:=firstArgMember _ _) (E3 (a:=EW) (by first | rfl | (simp only[firstArgMember];rfl)) ?_)
  refine DM ?_ (by size_fits)
  simp only[raiseNew]
  refine CD (KC ?_)
  first | rw[show A.in1.handled=none from hh] | rw[hh]
  refine CD (CK (LF ?_))
  refine CD (FR (T := "StopIteration") (b:=true) ⟨_,CZ _ rfl,rfl⟩ J8 ?_)
  exact CK (hn ex _ ((sb1.extBut.push _).push _))
theorem qI {it a S:Addr}{es:Array (Int×CJ)}{ep:Nat}{res:CJ}{R:Result->CN->Prop}(hh:A.in1.handled=none)(hne:it≠a)(hSI:S≠it)(hSa:S≠a)(hz:es.size<300) :
  ∀(k i:Nat) (h:Heap) (acc:Array CJ) (c:Nat),es.size-i=k->i<=es.size->sO w h it a es ep i->h.get? S=some { cls :=.type "list",dict:=none,data :=.seq acc c,slots := #[] }->acc.toList=(walkVals w a es ep).take i →
  (∀h' acc' c',(∀b o,b≠S->b≠it->h.get? b=some o->h'.get? b=some o)->h'.get? S=some { cls :=.type "list",dict:=none,data :=.seq acc' c',slots := #[] }->acc'.toList=walkVals w a es ep->R (.ok (.ret res)) { s with heap:=h' }) →
  He (DA prog w) A (.builtin "list.extend.loop" ⟨[.ref S,.ref it,res],[]⟩) R { s with heap:=h }:=by
 have lw:(walkVals w a es ep).length=es.size:=by rw[(nU w a es ep).length_eq,CG,CV]
 have zl:300<=C6:=by rw[FQ];lia
 intro k
 induction k with
 | zero =>
  intro i h acc c hk hi O hS ha hR
  have hin:i=es.size:=by lia
  subst hin
  refine D3 Ke ?_
  rw[DP F0 _]
  show Dh _ A.in1 (pyNext (.ref it) >>= _) _ _ { s with heap:=h }
  refine CD (ur hh hne O (λx h' ex =>?_) λex h' xb =>?_)
  ·rw[Dz (by lia)] at ex;cases ex
  ·refine CK (hR h' acc c (λb o _ hb e=>xb b o hb e) (xb S _ hSI hS) ?_)
   rw[ha,C7 (by lia)]
 | succ k ih =>
  intro i h acc c hk hi O hS ha hR
  have hlt:i<es.size:=by lia
  refine D3 Ke ?_
  rw[DP F0 _]
  show Dh _ A.in1 (pyNext (.ref it) >>= _) _ _ { s with heap:=h }
  refine CD (ur hh hne O (λx h' ex O' sb =>?_) λex =>?_)
  ·have hS':h'.get? S=some { cls :=.type "list",dict:=none,data :=.seq acc c,slots := #[] }:=by rw[sb.2 S hSI];exact hS
   have hal:acc.size=i:=by rw[<- CV,ha,Eb];lia
   show Dh _ A.in1 (updateSeq S (·.push x) >>= _) _ _ _
   refine CD ?_
   refine EB (s:={ s with heap:=h' }) hS' rfl (CK ⟨Ek F0 _,ih (i+1) _ (acc.push x) _ (by lia) hlt ?_ (DI _ hS' rfl) ?_ λh'' acc' c' kk hS'' ha' =>?_⟩)
    (by rw[hal];lia) (by show (acc.push x).size<=C6+1;rw[Gp,hal];lia)
   ·obtain ⟨t,slot,ho,T,hl,hp,hs,hit⟩:=O'.st
    exact ⟨t,slot,(Dl _ _ hSa).trans ho,T,hl,hp,hs,(Dl _ _ hSI).trans hit⟩
   ·rw[Fy,ha,LO,ex];rfl
   ·refine hR h'' acc' c' (λb o hb hb2 e=>kk b o hb hb2 ?_) hS'' ha'
    refine (Dl _ _ (D8 hb)).trans ?_
    rw[sb.2 b hb2];exact e
  ·rw[CI (by lia)] at ex;cases ex
theorem qJ {a:Addr}{es:Array (Int×CJ)}{R:List CJ->CN->Prop}(hh:A.handled=none)(I:dI w s.heap a es)(hz:es.size<300)
  (h:∀h1 vs,vs.Perm (es.toList.map (·.2))->(∀b o,s.heap.get? b=some o->h1.get? b=some o)->s.heap.objs.size<=h1.objs.size->R vs { s with heap:=h1 }) :
  Dh (DA prog w) A (collect (.ref a)) R E s:=by
 obtain ⟨ep,t,ho,T,rm,hl,hp⟩:=I
 have hf:t.fits es.size=true:=by have:=T.fits;rwa [D7] at this
 have hlt:=C1 ho
 unfold collect
 refine CD (Hj (D3 JO ?_))
 rw[DP JP _]
 show Dh _ A.in1 (newList [] >>= λl=>again (.builtin "list.__iadd__" ⟨[l,.ref a],[]⟩)) _ _ s
 refine CD (DM ?_)
 refine CK ⟨Ek HQ _,D3 KY ?_⟩
 rw[DP HQ _]
 show Dh _ A.in1 (DG (.ref s.heap.objs.size) (.ref a) (.ref s.heap.objs.size)) _ _ _
 unfold DG
 have hSa:s.heap.objs.size≠a:=F8 hlt
 have z1:(s.heap.push { cls :=.type "list",data :=.seq ([]:List CJ).toArray }).objs.size=s.heap.objs.size+1:=ED _ _
 have ho1:(s.heap.push { cls :=.type "list",data :=.seq ([]:List CJ).toArray }).get? a=some (aZ es ep t):=CH _ ho
 have hT1:Shared.TypeIs { s with heap:=s.heap.push { cls :=.type "list",data :=.seq ([]:List CJ).toArray } } (.ref a) "set" :=⟨_,ho1,rfl⟩
 refine CD (Fs hT1 ?_)
 have h1:EC (.ref s.heap.objs.size) (.ref a)=false:=by simp[EC,hSa]
 have h2:(EK "set" == EK "list")=false:=by decide
 have h3:(EK "set" == EK "tuple")=false:=by decide
 simp only[h1,h2,h3,Jp,Dg,if_false]
 refine CD (HS hT1 Lw (Em Lw hT1 F9.lI ?_ (F.args_set_iter_1 _)))
 unfold Builtin.«frozenset.__iter__» Builtin.Frozenset.slot0 slotArgs
 simp only[List.isEmpty_nil,EU,Dg, ↓reduceIte,bind_assoc,FH,bne_self_eq_false]
 unfold Builtin.Frozenset.addrOf Builtin.Frozenset.sizeOf
 refine CD (CK ?_)
 try dsimp only
 refine CD (CK ?_)
 refine CD (CD (Kk ho1 rfl hf (CK ?_)))
 refine CD ?_
 unfold setDrawn
 refine CD (bU ho1 T ?_)
 dsimp only
 refine CD (jE ?_)
 show Dh _ _ (pure (!w.params.followText "set-order" && (!t.plain && decide (es.size>1)))) _ _ _
 rw[hp]
 simp only[EU,IV,IW]
 refine CK ?_
 simp only[Dg,if_false]
 refine CD (CK ?_)
 refine CD (wpAny_setEpoch_of ho1 rfl hf ?_)
 refine CD (DM (CK ⟨_,rfl, "set_iterator",_,⟨_,CZ _ rfl,rfl⟩,F9.fP.lookup,?_⟩))
 have zit:(s.heap.push { cls :=.type "list",data :=.seq ([]:List CJ).toArray }).objs.size=s.heap.objs.size+1:=z1
 show Dh _ A.in1 (HU [.ref (s.heap.push { cls :=.type "list",data :=.seq ([]:List CJ).toArray }).objs.size] (Er (.ref a)) >>= _) _ _ { s with heap:=(s.heap.push { cls :=.type "list",data :=.seq ([]:List CJ).toArray }).push { cls :=.type "set_iterator",data :=.fields #[GZ 0,GZ 0,.ref a,GZ es.size,GZ ep] } }
 rw[zit]
 generalize hH:(s.heap.push { cls :=.type "list",data :=.seq ([]:List CJ).toArray }).push { cls :=.type "set_iterator",data :=.fields #[GZ 0,GZ 0,.ref a,GZ es.size,GZ ep] }=H
 have kH:∀b o,(s.heap.push { cls :=.type "list",data :=.seq ([]:List CJ).toArray }).get? b=some o->H.get? b=some o:=λb o e=>by rw[<- hH];exact CH _ e
 have zH:H.objs.size=s.heap.objs.size+2:=by rw[<- hH,ED,z1]
 have hit:jF H (s.heap.objs.size+1) a 0 0 es.size ep:=by
  unfold jF
  rw[<- hH, <- z1]
  exact CZ _ rfl
 have hT2:Shared.TypeIs { s with heap:=H } (.ref a) "set" :=⟨_,kH _ _ ho1,rfl⟩
 refine CD (D5 ?_)
 unfold Er
 refine CD (E8 hT2 F.slot_set_len.lookup ?_)
 dsimp only
 rw[show splitId "set.__len__" = some ("set", "__len__") by kernel_rfl]
 dsimp only
 refine CD (FR hT2 sub_set_self ?_)
 simp only[EU,Dg,if_false]
 show Dh _ _ (typeOf (.ref a) >>= _) _ _ _
 refine CD (Fs hT2 ?_)
 refine CK ?_
 show Dh _ A.in1 (rule "list.extend.makes-room" >>= λ_=>Builtin.List.listTouch (.ref s.heap.objs.size) >>= λ_ =>
  again (.builtin "list.extend.loop" ⟨[.ref s.heap.objs.size,.ref (s.heap.objs.size+1),.ref s.heap.objs.size],[]⟩)) _ _ _
 refine CD (FE ?_)
 have hS₁:H.get? s.heap.objs.size=some { cls :=.type "list",data :=.seq ([]:List CJ).toArray }:=kH _ _ (CZ _ rfl)
 refine CD ?_
 show Dh _ A.in1 (updateSeq s.heap.objs.size (·.push .none) >>= λ_=>updateSeq s.heap.objs.size (·.pop)) _ _ _
 refine CD (EB (s:={ s with heap:=H }) hS₁ rfl ?_)
 have hS₂:=DI (EL (·.push EW)) hS₁ rfl
 refine EB hS₂ rfl ?_
 have hS₃:=DI (EL (·.pop)) hS₂ rfl
 have oth:∀b o,b≠s.heap.objs.size->H.get? b=some o->((H.update s.heap.objs.size (EL (·.push EW))).update s.heap.objs.size (EL (·.pop))).get? b=some o :=
  λb o hb e=>(Dl _ _ (D8 hb)).trans ((Dl _ _ (D8 hb)).trans e)
 refine CK ⟨Ek F0 _,qI (it:=s.heap.objs.size+1) (a:=a) (es:=es) (ep:=ep) (s:=s) hh (F8 (DW hlt)) (Dc (Et _)) hSa hz es.size 0 _ _ _ rfl (DQ _)
  ⟨t,0,oth a _ (D8 hSa) (kH _ _ ho1),T,hl,hp,λ_=>sF T.rise,oth _ _ (F8 (Et _)) hit⟩ hS₃ rfl λh' acc' c' kk hS' ha =>?_⟩
 show Dh _ A (load s.heap.objs.size >>= _) _ _ { s with heap:=h' }
 refine CD (JZ hS' ?_)
 have kf:∀b o,s.heap.get? b=some o->h'.get? b=some o:=λb o e=>by
  have:=C1 e
  exact kk b o (Dc this) (Dc (DW this)) (oth b o (Dc this) (kH b o (CH _ e)))
 refine CK ?_
 rw[ha]
 exact h h' _ (nU w a es ep) kf (GP (C1 hS'))
end
open PySem PySem.SetTable PyProof.Rows Srt
def Kd.sub {prog:De}{w:DN}{κ:Type}(kd:Kd prog w κ)(M:CJ->Prop):Kd prog w κ where
 El:=λh v k=>kd.El h v k/\M v
 hash:=kd.hash
 room:=kd.room
 keeps:=λx t=>⟨kd.keeps x.1 t,x.2⟩
 inj:=λx y=>kd.inj x.1 y.1
 add:=by
  intro A E s a es v k Q hr I els hv hz hin hnew
  refine kd.add hr I (λe he =>?_) hv.1 hz (λx tk htk=>hin ?_ tk htk) λx h' es' tk htk sb I' pm=>hnew ?_ h' es' tk htk sb I' pm
  ·obtain ⟨k',a1,a2,a3⟩:=els e he;exact ⟨k',a1,a2⟩
  ·obtain ⟨e,he,y⟩:=x
   obtain ⟨k',a1,a2,a3⟩:=els e he
   exact ⟨e,he,y,a3⟩
  ·rintro ⟨e,he,y,_⟩;exact x ⟨e,he,y⟩
section
variable  {prog:De}{w:DN}{A:D1}{E:CJ->CN->Prop}{s:CN}{O:IA}{key:CJ->O.α}
theorem sP {a:Addr}{es:Array (Int×CJ)}{Q:CJ->CN->Prop}(hh:A.handled=none)(I:dI w s.heap a es)(hz:es.size<300)(C:∀vs:List CJ,vs.Perm (es.toList.map (·.2))->iW prog w s vs O key)
  (h:∀(h':Heap) (p:Addr) (out:List CJ) (n:Nat),(∀b o,s.heap.get? b=some o->h'.get? b=some o)->s.heap.objs.size<=p->h'.get? p=some (seqObj "list" out.toArray n)->out.Perm (es.toList.map (·.2))->out.Pairwise (λx y=>O.kle (key x) (key y))->Q (.ref p) { s with heap:=h' }) :
  Dh (DA prog w) A (call (.builtin "sorted") [.ref a]) Q E s:=by
 refine Hh LG K9 La (Lb _) ?_
 unfold Builtin.«sorted»
 refine CD (m:=checkCount "sorted" 1 1 _) (CK ?_)
 refine CD (qJ (by simpa using hh) I hz λh1 vs pv k1 z1 =>?_)
 have hz':vs.length<=C6:=by
  rw[pv.length_eq,CG,CV]
  have:300<=C6:=by rw[FQ];lia
  lia
 refine CD (Iq ?_ hz')
 have hoL:(h1.push (seqObj "list" vs.toArray 0)).get? h1.objs.size=some (seqObj "list" vs.toArray 0):=CZ _ rfl
 have kL:∀b o,s.heap.get? b=some o->(h1.push (seqObj "list" vs.toArray 0)).get? b=some o:=λb o e=>CH _ (k1 b o e)
 refine CD (D5 (Em slot_list_sort ⟨_,hoL,rfl⟩ entry_list_sort (eQ (key:=key) (O:=O) hoL hz' (λh2 h6 k6 =>?_) λout pm ps=>⟨_,rfl,?_⟩) (J9 _)))
 ·exact (C vs pv).ok h2 _ h6 λb o e=>k6 b o (Dc (Dm (C1 e) z1)) (kL b o e)
 ·obtain ⟨n,en⟩:=KG (out:=out.toArray) hoL
  refine CK ⟨_,rfl,h _ _ out n (λb o e =>?_) z1 en (pm.trans pv) ps⟩
  have lt:=Dm (C1 e) z1
  rw[Ka (Dc lt) (by rw[K4];exact DW lt)]
  exact kL b o e
end
end STab
namespace L2
open PySem PySem.Spec PyProof.Rows
section
variable  {X:Cx}
def eR (w:DN)(a:Addr)(ys:List V):HO :=.ext λh=>∃es,STab.dI w h a es/\Vals ys (es.toList.map (·.2))
theorem uv {prog:De}{w:DN}{H:Hp}{h:Heap}{a:Addr}{ys:List V}{es:Array (Int×CJ)}(I:STab.dI w h a es)(r:Vals ys (es.toList.map (·.2))):bB prog w (upd H a (eR w a ys)) h a (eR w a ys):=by
 refine ⟨⟨es,I,r⟩,?_,λh1 h2 ⟨es',I',r'⟩ k=>⟨es',I'.at k,r'⟩⟩
 obtain ⟨ep,t,ho,_⟩:=I
 exact ⟨_,ho⟩
theorem qK:∀{ns:List Int} {xs:List CJ} {prog:De} {w:DN},FF xs ns->ItemsAre (intKind prog w) ns xs
 | _,_,_,_,.nil =>.nil
 | _,_,_,_,.cons n t r =>.cons (Jl _ _ _ _) (qK r)
theorem Inv.tk {pins:List (Addr×Obj)}{σ:St}{H:Hp}{s:CN}(I:Inv X pins σ H s){b:Addr}{ns:List Int}(h:SqT X.K H b (ns.map V.int)):STab.TK X.prog X.w s.heap ns b:=by
 obtain ⟨its,r,⟨o,e,c,n,d⟩,_⟩:=I.tuple h
 exact ⟨o,_,n,e,c,d,qK (by simpa using cV r)⟩
theorem pull {α β:Type}{f:α -> β}{ts:List α}:∀{l:List β},(∀v∈l,∃t∈ts,v=f t)->∃us:List α,l=us.map f/\∀t∈us,t∈ts
 | [],_=>⟨[],rfl,λt h=>by cases h⟩
 | v :: l,h=>by
  obtain ⟨t,ht,e⟩:=h v Di
  obtain ⟨us,e2,m⟩:=pull (l:=l) λv' hv=>h v' (Dj _ hv)
  refine ⟨t :: us,by rw[Dy, <- e, <- e2],λt' ht' =>?_⟩
  rcases C9.mp ht' with rfl | h'
  ·exact ht
  ·exact m _ h'
theorem vN (hh:X.A.handled=none)(hu:X.A.units+64<cLine):bK X (.type "set") (λxs H Q=>∃(p:Addr) (ts:List (Addr×List Int)),xs=[.ref p]/\(SqL X.K H p (ts.map λt =>.ref t.1)\/SqT X.K H p (ts.map λt =>.ref t.1))/\(∀t∈ts,SqT X.K H t.1 (t.2.map V.int))/\ts.length<300 ∧
  ∀(a:Addr) (us:List (Addr×List Int)),H a=none->(∀t∈us,t∈ts)->(us.map (·.2)).Nodup->(∀t∈ts,t.2∈us.map (·.2))->us.length<=ts.length->Q (.ref a) (upd H a (eR X.w a (us.map λt =>.ref t.1)))):=by
 intro pins s σ H xs vs Q I r h
 obtain ⟨p,ts,rfl,hs,ht,hl,q⟩:=h
 obtain ⟨u,rfl,ru⟩:=vals1 r
 cases (show u=Dd p from ru)
 have goal:∀(items:Array CJ),items.toList=(ts.map λt=>Dd t.1)->∀(h':Heap) (es:Array (Int×CJ)) (tk:Nat),s.toks<=tk->STab.dI X.w h' s.heap.objs.size es->STab.Good ((STab.jZ X.prog X.w).sub (· ∈ items.toList)) h' es (ts.map (·.2)) →
   (∀b o,s.heap.get? b=some o->h'.get? b=some o)->EP X pins σ Q (.ref s.heap.objs.size) { s with heap:=h',toks:=tk }:=by
  intro items ei h' es tk _ S G k
  obtain ⟨us,eu,mu⟩:=pull (f:=λt:Addr×List Int=>Dd t.1) (ts:=ts) (l:=es.toList.map (·.2)) (λv hv=>by
   obtain ⟨e,he,rfl⟩:=Du.mp hv
   obtain ⟨_,_,_,_,m⟩:=G.el e (DH.mp he)
   rw[ei] at m
   obtain ⟨t,ht',e'⟩:=Du.mp m
   exact ⟨t,ht',e'.symm⟩)
  have tk':∀t∈us,STab.TK X.prog X.w h' t.2 t.1:=λt m=>(I.tk (ht t (mu t m))).keep λb o _ e=>k b o e
  have elu:∀t∈us,((STab.jZ X.prog X.w).sub (· ∈ items.toList)).El h' (.ref t.1) t.2:=λt m=>⟨⟨t.1,rfl,tk' t m⟩,by
   rw[ei];exact Du.mpr ⟨t,mu t m,rfl⟩⟩
  have nd:(us.map (·.2)).Nodup:=by
   have d:=G.dis
   have d2:(es.toList.map (·.2)).Pairwise (λv v'=>∀k,((STab.jZ X.prog X.w).sub (· ∈ items.toList)).El h' v k->¬ ((STab.jZ X.prog X.w).sub (· ∈ items.toList)).El h' v' k):=by
    rw[Ef];exact d
   rw[eu,Ef] at d2
   unfold List.Nodup
   rw[Ef]
   refine d2.imp_of_mem λ{t t'} m m' x e=>x t.2 (elu t m) ?_
   have:=elu t' m'
   rw[<- e] at this
   exact this
  have cov:∀t∈ts,t.2∈us.map (·.2):=λt m=>by
   obtain ⟨e,he,x,_⟩:=G.all t.2 (Du.mpr ⟨t,m,rfl⟩)
   have:e.2∈us.map λt=>Dd t.1:=by rw[<- eu];exact Du.mpr ⟨e,DH.mpr he,rfl⟩
   obtain ⟨u,hu',e'⟩:=Du.mp this
   obtain ⟨b,eb,x⟩:=x
   rw[<- e'] at eb
   injection eb with eb
   subst eb
   exact Du.mpr ⟨u,hu',(tk' u hu').inj x⟩
  have hlen:us.length<=ts.length:=by
   have:=G.len
   rw[CG] at this
   have e2:=congrArg List.length eu
   rw[CG,CG,CV] at e2
   lia
  refine ⟨.ref s.heap.objs.size,_,I.laid k (CO _) (uv (ys:=us.map λt=>V.ref t.1) S (by rw[eu];exact gP)),rfl,q _ us (I.hok.fresh (CO _)) mu nd cov hlen⟩
 have rm:((STab.jZ X.prog X.w).sub (λv=>True)).room X.A.in1.in1.in1:=by show X.A.units+1+1+1<cLine;lia
 have itm:∀(its:List CJ),its=(ts.map λt=>Dd t.1)->∀(i:Nat) (v:CJ),its.toArray[i]? = some v->∃q,(ts.map (·.2))[i]? = some q/\((STab.jZ X.prog X.w).sub (· ∈ its.toArray.toList)).El s.heap v q:=by
  intro its ei i v hv
  rw[DR,ei,CU] at hv
  cases ht':ts[i]? with
  | none=>rw[ht'] at hv;cases hv
  | some t =>
   rw[ht'] at hv
   cases hv
   have m:=CT ht'
   refine ⟨t.2,by rw[CU,ht'];rfl,⟨t.1,rfl,I.tk (ht t m)⟩,?_⟩
   show Dd t.1∈its
   rw[ei]
   exact Du.mpr ⟨t,m,rfl⟩
 rcases hs with hs | hs
 ·obtain ⟨its,rv,⟨o,n,e,c,dn,d⟩,z⟩:=I.list hs
  have ei:=fj rv
  have lz:its.length=ts.length:=by rw[ei,CG]
  refine STab.call_set_list (kd:=(STab.jZ X.prog X.w).sub (· ∈ its.toArray.toList)) (items:=its.toArray) (ks:=ts.map (·.2)) hh rm ⟨o,e,c,n,d⟩ (by simp[lz]) (λi v hv =>?_) (by simpa [lz] using hl) (goal its.toArray (by simpa using ei))
  exact itm its ei i v hv
 ·obtain ⟨its,rv,⟨o,e,c,n,d⟩,z⟩:=I.tuple hs
  have ei:=fj rv
  have lz:its.length=ts.length:=by rw[ei,CG]
  refine STab.gh (kd:=(STab.jZ X.prog X.w).sub (· ∈ its.toArray.toList)) (items:=its.toArray) (ks:=ts.map (·.2)) hh rm ⟨o,e,c,n,d⟩ (by simp[lz]) (λi v hv =>?_) (by simpa [lz] using hl) (goal its.toArray (by simpa using ei))
  exact itm its ei i v hv
theorem vO (hh:X.A.handled=none):bK X (.type "set") (λxs H Q=>∃(p:Addr) (ns:List Int),xs=[.ref p]/\(SqL X.K H p (ns.map V.int)\/SqT X.K H p (ns.map V.int))/\ns.length<300 ∧
  ∀(a:Addr) (us:List Int),H a=none->(∀k,k∈us↔k∈ns)->us.Nodup->us.length<=ns.length->Q (.ref a) (upd H a (eR X.w a (us.map V.int)))):=by
 intro pins s σ H xs vs Q I r h
 obtain ⟨p,ns,rfl,hs,hl,q⟩:=h
 obtain ⟨u,rfl,ru⟩:=vals1 r
 cases (show u=Dd p from ru)
 have goal:∀(h':Heap) (es:Array (Int×CJ)) (tk:Nat),s.toks<=tk->STab.dI X.w h' s.heap.objs.size es->STab.Good (STab.uj X.prog X.w) h' es ns →
   (∀b o,s.heap.get? b=some o->h'.get? b=some o)->EP X pins σ Q (.ref s.heap.objs.size) { s with heap:=h',toks:=tk }:=by
  intro h' es tk _ S G k
  have sh:∀v∈es.toList.map (·.2),∃k t,v=Ex k t:=λv hv=>by
   obtain ⟨e,he,rfl⟩:=Du.mp hv
   obtain ⟨k',_,_,t,e'⟩:=G.el e (DH.mp he)
   exact ⟨k',t,e'⟩
  have ru:=fM (fg sh)
  have mem:∀k,k∈(es.toList.map (·.2)).map Srt.intOf↔k∈ns:=λk=>by
   constructor
   ·intro m
    obtain ⟨v,hv,rfl⟩:=Du.mp m
    obtain ⟨e,he,rfl⟩:=Du.mp hv
    obtain ⟨k',mk,_,t,e'⟩:=G.el e (DH.mp he)
    rw[e'];exact mk
   ·intro m
    obtain ⟨e,he,t,e'⟩:=G.all k m
    exact Du.mpr ⟨e.2,Du.mpr ⟨e,DH.mpr he,rfl⟩,by rw[e'];rfl⟩
  have nd:((es.toList.map (·.2)).map Srt.intOf).Nodup:=by
   unfold List.Nodup
   rw[Ef,Ef]
   refine G.dis.imp_of_mem λ{e e'} m m' x y =>?_
   obtain ⟨k1,_,_,t1,e1⟩:=G.el e (DH.mp m)
   obtain ⟨k2,_,_,t2,e2⟩:=G.el e' (DH.mp m')
   rw[e1,e2] at y
   have y':k1=k2:=y
   subst y'
   exact x k1 ⟨t1,e1⟩ ⟨t2,e2⟩
  refine ⟨.ref s.heap.objs.size,_,I.laid k (CO _) (uv S ru),rfl,q _ _ (I.hok.fresh (CO _)) mem nd (by rw[CG,CG,CV];exact G.len)⟩
 have itm:∀(its:List CJ),Vals (ns.map V.int) its->∀(i:Nat) (v:CJ),its.toArray[i]? = some v->∃q,ns[i]? = some q/\(STab.uj X.prog X.w).El s.heap v q:=by
  intro its rv i v hv
  have hI:=cV rv
  obtain ⟨t,e⟩:=IntsAre.int_at hI i v (by rw[DR] at hv;exact hv)
  have hlt:i<ns.length:=by
   have:=hI.length
   rw[DR] at hv
   have:=(CP.mp hv).1
   lia
  refine ⟨ns.getD i 0,?_,t,e⟩
  rw[C0,CI hlt]
  rfl
 rcases hs with hs | hs
 ·obtain ⟨its,rv,⟨o,n,e,c,dn,d⟩,z⟩:=I.list hs
  have lz:its.length=ns.length:=by have:=rv.length;rw[CG] at this;exact this.symm
  exact STab.call_set_list (kd:=STab.uj X.prog X.w) (items:=its.toArray) (ks:=ns) hh trivial ⟨o,e,c,n,d⟩ (by simp[lz]) (itm its rv) (by simpa [lz] using hl) goal
 ·obtain ⟨its,rv,⟨o,e,c,n,d⟩,z⟩:=I.tuple hs
  have lz:its.length=ns.length:=by have:=rv.length;rw[CG] at this;exact this.symm
  exact STab.gh (kd:=STab.uj X.prog X.w) (items:=its.toArray) (ks:=ns) hh trivial ⟨o,e,c,n,d⟩ (by simp[lz]) (itm its rv) (by simpa [lz] using hl) goal
theorem Inv.eR {pins:List (Addr×Obj)}{σ:St}{H:Hp}{s:CN}(I:Inv X pins σ H s){a:Addr}{ys:List V}(h:H a=some (eR X.w a ys)):∃es,STab.dI X.w s.heap a es/\Vals ys (es.toList.map (·.2)):=by
 exact (I.hok a _ h).1
theorem mR (hh:X.A.handled=none):bK X (.builtin "sorted") (λxs H Q=>∃(a:Addr) (ts:List (Addr×List Int)),xs=[.ref a]/\H a=some (eR X.w a (ts.map λt =>.ref t.1))/\(∀t∈ts,SqT X.K H t.1 (t.2.map V.int)/\t.2≠[])/\ts.length<300 ∧
  ∀(l:Addr) (out:List (Addr×List Int)),H l=none->out.Perm ts->out.Pairwise (λa b=>HT.lexLt b.2 a.2=false)->Q (.ref l) (upd H l (.lst (out.map λt =>.ref t.1)))):=by
 intro pins s σ H xs us Q I r h
 obtain ⟨a,ts,rfl,hs,ht,hl,q⟩:=h
 obtain ⟨u,rfl,ru⟩:=vals1 r
 cases (show u=Dd a from ru)
 obtain ⟨es,S,rv⟩:=I.eR hs
 have ei:=fj rv
 have lz:es.size=ts.length:=by have:=rv.length;simp at this;lia
 have tup:∀t∈ts,Srt.d7 s.heap (Dd t.1) t.2:=λt hm=>by
  obtain ⟨jts,jr,⟨jo,je,jc,jn,jd⟩,_⟩:=I.tuple (ht t hm).1
  exact ⟨t.1,jo,_,jn,rfl,je,jc,jd,by simpa using cV jr⟩
 have hv:∀v∈es.toList.map (·.2),∃ns,Srt.d7 s.heap v ns/\ns≠[]:=λv hv=>by
  rw[ei] at hv
  obtain ⟨t,hm,rfl⟩:=Du.mp hv
  exact ⟨t.2,tup t hm,(ht t hm).2⟩
 refine STab.sP (O:=Srt.lexOrd) (key:=Srt.dk s.heap) hh S (by lia) (λvs pv=>Srt.i3 λv hm=>hv v (pv.mem_iff.mp hm)) λh' l out m k hl' el pm ps =>?_
 rw[ei] at pm
 obtain ⟨out',pm',rfl⟩:=lD pm
 have z:ts.length<=C6:=by have:300<=C6:=(by rw[FQ];lia);lia
 refine ⟨.ref l,_,I.newList k hl' el gP (by rw[CG,pm'.length_eq];exact z),rfl,q l _ (I.hok.fresh hl') pm' ?_⟩
 refine (Ef.mp ps).imp_of_mem λ{a b} ha hb le =>?_
 have le':HT.lexLt (Srt.dk s.heap (Dd b.1)) (Srt.dk s.heap (Dd a.1))=false:=le
 rw[(tup a (pm'.mem_iff.mp ha)).ints,(tup b (pm'.mem_iff.mp hb)).ints] at le'
 exact le'
end
open PySem PySem.Spec PyProof.Rows
section
variable  {X:Cx}{w:DN}
theorem lK (hw:X.w=w)(hh:X.A.handled=none)(hu:X.A.units+64<cLine):bK X (.type "set") (λxs H Q=>∃(p:Addr) (ts:List (Addr×List Int)),xs=[.ref p]/\(SqL X.K H p (ts.map λt =>.ref t.1)\/SqT X.K H p (ts.map λt =>.ref t.1))/\(∀t∈ts,SqT X.K H t.1 (t.2.map V.int))/\ts.length<300 ∧
  ∀(a:Addr) (us:List (Addr×List Int)),H a=none->(∀t∈us,t∈ts)->(us.map (·.2)).Nodup->(∀t∈ts,t.2∈us.map (·.2))->us.length<=ts.length->Q (.ref a) (upd H a (eR w a (us.map λt =>.ref t.1)))):=by
 subst hw
 exact vN hh hu
theorem sQ (hw:X.w=w)(hh:X.A.handled=none):bK X (.type "set") (λxs H Q=>∃(p:Addr) (ns:List Int),xs=[.ref p]/\(SqL X.K H p (ns.map V.int)\/SqT X.K H p (ns.map V.int))/\ns.length<300 ∧
  ∀(a:Addr) (us:List Int),H a=none->(∀k,k∈us↔k∈ns)->us.Nodup->us.length<=ns.length->Q (.ref a) (upd H a (eR w a (us.map V.int)))):=by
 subst hw
 exact vO hh
theorem gj (hw:X.w=w)(hh:X.A.handled=none):bK X (.builtin "sorted") (λxs H Q=>∃(a:Addr) (ts:List (Addr×List Int)),xs=[.ref a]/\H a=some (eR w a (ts.map λt =>.ref t.1))/\(∀t∈ts,SqT X.K H t.1 (t.2.map V.int)/\t.2≠[])/\ts.length<300 ∧
  ∀(l:Addr) (out:List (Addr×List Int)),H l=none->out.Perm ts->out.Pairwise (λa b=>HT.lexLt b.2 a.2=false)->Q (.ref l) (upd H l (.lst (out.map λt =>.ref t.1)))):=by
 subst hw
 exact mR hh
end
open PySem PySem.Spec PyProof.Rows
section
variable  {X:Cx}
def tBMT (r:V->List V->Hp->VK->Prop)(to:TE)(t:TA):TE:=λσ H Q=>to σ H λx H1=>(∃p xs,x = .ref p/\H1 p=some (.tup xs))/\t σ H1 λxs H2=>r x xs H2 Q
theorem oZ {o e:Expr}{es:List Expr}{to:TE}{t:TA}{name:Str}{apos cpos:Pos}{id:String}{r:V->List V->Hp->VK->Prop}(slot:Slot "tuple" name id)(hty:typeOf (.builtin id)=pure (.type "method_descriptor"))(hm:MtR X id r)(ho:PE X o to)(ha:PA X (e :: es) t)
  (hbase:attributeBase o name X.env (eval o X.env)=eval o X.env:=by rfl)
  (hfew:((HA cpos (D6 (e :: es) X.env)).all (λx => !x.1) && (backToKw cpos (keywordEach [] X.env)).all (λx=>x.1.isSome)
   && decide ((e :: es).length+([]:List Keyword).length+(if ([]:List Keyword).isEmpty then 0 else 1)<30))=true:=by rfl)
  (hline:(apos.endLine == cpos.line)=true:=by rfl) (hs:D6 (e :: es) X.env=(false,eval e X.env) :: D6 es X.env:=by rfl) (hplain:(HA cpos (D6 es X.env)).any (·.1)=false:=by rfl) :
  PE X (.Call (.Attribute o name apos) (e :: es) [] cpos) (tBMT r to t):=by
 intro pins s σ H Q I h
 refine JE hbase hfew hline rfl (thn (ho pins s σ H _ I h) λv s1 ⟨x,H1,I1,r1,ty,q1⟩ =>?_)
 obtain ⟨p,xs,rfl,hp⟩:=ty
 cases (show v=Dd p from r1)
 obtain ⟨_,its,_,ob,e1,⟨c1,d1⟩,n,s1'⟩:=(show bB X.prog X.w H1 s1.heap p (.tup xs) from I1.hok p _ hp)
 refine ⟨"tuple",id,PySem.F.plainAttrs_tuple,slot,hty,⟨ob,e1,c1⟩,λa e=>by cases e;exact ⟨ob,e1,d1⟩,?_⟩
 have hA:=ha cpos pins s1 σ H1 _ I1 q1
 rw[hs] at hA ⊢
 refine HL (by show (false || (HA cpos (D6 es X.env)).any (·.1))=false;rw[hplain] <;> rfl) (J1 ?_)
 exact thn hA λus s2 ⟨vs,H2,I2,r2,q2⟩=>hm pins s2 σ H2 (.ref p) vs _ us Q I2 rfl r2 q2
theorem nV {A:D1}{s:CN}{k:Int}{t:Tok}{its:List CJ}{ns:List Int}(hi:FF its ns):∀y,y∈its.toArray->G8 A s y (.int k t) (isInt k y):=λy hy =>
 (eq_isInt k t hi y (by simpa using hy)).at _ _
theorem vP:MtR X "tuple.count" (λx vs H Q=>∃(p:Addr) (ns:List Int) (k:Int),x = .ref p/\vs=[.int k]/\H p=some (.tup (ns.map V.int))/\Q (.int (ns.count k:Nat)) H):=by
 intro pins s σ H x vs v us Q I rx rv h
 obtain ⟨p,ns,k,rfl,rfl,hp,q⟩:=h
 cases rx
 obtain ⟨u,rfl,⟨t,rfl⟩⟩:=vals1 rv
 obtain ⟨z,its,r,ob,e1,⟨c1,d1⟩,n,s1⟩:=(show bB X.prog X.w H s.heap p (.tup _) from I.hok p _ hp)
 have hi:FF its ns:=intsAre_of r
 obtain ⟨cls,dd,data,sl⟩:=ob
 simp only at c1 s1
 subst c1 s1
 refine Hz FN ⟨_,e1,rfl⟩ IZ (II _ _) (Kf p its.toArray n dd sl (.int k t) (isInt k)) ⟨e1,λy hy=>nV hi y hy,?_⟩
 rw[show its.toArray.toList=its from rfl,countP_isInt k hi]
 exact ⟨.int _,H,I.tok _,⟨_,rfl⟩,q⟩
theorem nW:∀{ns:List Int} {xs:List CJ} {prog:De} {w:DN},FF xs ns->ItemsAre (intKind prog w) ns xs
 | _,_,_,_,.nil =>.nil
 | _,_,_,_,.cons n t r =>.cons (Jl _ _ _ _) (nW r)
theorem Inv.tkA {pins:List (Addr×Obj)}{σ:St}{H:Hp}{s:CN}(I:Inv X pins σ H s){b:Addr}{ns:List Int}(h:SqT X.K H b (ns.map V.int))(prog:De)(w:DN):IsTupleKey (intKind prog w) s.heap ns b:=by
 obtain ⟨its,r,⟨o,e,c,n,d⟩,_⟩:=I.tuple h
 exact ⟨o,_,n,e,c,d,nW (by simpa using intsAre_of r)⟩
theorem Inv.eqT {pins:List (Addr×Obj)}{σ:St}{H:Hp}{s:CN}(I:Inv X pins σ H s){A:D1}(hu:A.units<cLine){a b:Addr}{ns ms:List Int}(h1:SqT X.K H a (ns.map V.int))(h2:SqT X.K H b (ms.map V.int)):G8 A s (.ref a) (.ref b) (decide (ns=ms)) :=
 λprog w E Q q=>KH hu (I.tkA h1 prog w) (I.tkA h2 prog w) q
theorem lL:∀{ps:List (Addr×List Int)} {us:List CJ},Vals (ps.map λx=>V.ref x.1) us->us=ps.map λx=>Dd x.1
 | [],_,r=>by cases r;rfl
 | p :: ps,_,r=>by
  cases r with
  | cons h t=>rw[Dy, <- lL t,show _=Dd p.1 from h]
noncomputable def o6 (ts:List (Addr×List Int))(m:List Int):CJ->Bool:=λv=>decide (∃t∈ts,v = .ref t.1/\t.2=m)
theorem nX {pins:List (Addr×Obj)}{σ:St}{H:Hp}{s:CN}(I:Inv X pins σ H s){ts:List (Addr×List Int)}(ht:∀t∈ts,SqT X.K H t.1 (t.2.map V.int)){m:List Int}{t:Addr×List Int}(hm:t∈ts):o6 ts m (.ref t.1)=decide (t.2=m):=by
 unfold o6
 by_cases e:t.2=m
 ·rw[decide_eq_true e,decide_eq_true ⟨t,hm,rfl,e⟩]
 ·rw[decide_eq_false e,decide_eq_false]
  rintro ⟨t',m',e1,e2⟩
  injection e1 with e1
  have:=I.jw (ht t hm) (by rw[e1];exact ht t' m')
  have inj:Function.Injective V.int:=λa b h=>by injection h
  have:t.2=t'.2:=(List.map_inj_right (λx y h=>inj h)).mp this
  exact e (this.trans e2)
theorem lM {pins:List (Addr×Obj)}{σ:St}{H:Hp}{s:CN}(I:Inv X pins σ H s){ts:List (Addr×List Int)}(ht:∀t∈ts,SqT X.K H t.1 (t.2.map V.int)){m:List Int}:∀us:List (Addr×List Int),(∀t∈us,t∈ts)->(us.map λt=>Dd t.1).countP (o6 ts m)=(us.map (·.2)).count m
 | [],_=>rfl
 | u :: us,h=>by
  rw[Dy,Dy,List.countP_cons,Gr,lM I ht us (λt hm=>h t (Dj _ hm)),nX I ht (h u Di)]
  by_cases e:u.2=m
  ·rw[decide_eq_true e,e];simp
  ·rw[decide_eq_false e];simp[e]
theorem lN (hu:X.A.units+8<cLine):MtR X "tuple.count" (λx vs H Q=>∃(p b:Addr) (ts:List (Addr×List Int)) (m:List Int),x = .ref p/\vs=[.ref b]/\H p=some (.tup (ts.map λt =>.ref t.1))/\(∀t∈ts,H t.1=some (.tup (t.2.map V.int)))/\H b=some (.tup (m.map V.int))/\Q (.int ((ts.map (·.2)).count m:Nat)) H):=by
 intro pins s σ H x vs v us Q I rx rv h
 obtain ⟨p,b,ts,m,rfl,rfl,hp,ht,hb,q⟩:=h
 cases rx
 obtain ⟨u,rfl,ru⟩:=vals1 rv
 cases (show u=Dd b from ru)
 have ht':∀t∈ts,SqT X.K H t.1 (t.2.map V.int):=λt hm=>SqT.of (ht t hm)
 obtain ⟨z,its,r,ob,e1,⟨c1,d1⟩,n,s1⟩:=(show bB X.prog X.w H s.heap p (.tup _) from I.hok p _ hp)
 have ei:=lL r
 obtain ⟨cls,dd,data,sl⟩:=ob
 simp only at c1 s1
 subst c1 s1
 refine Hz FN ⟨_,e1,rfl⟩ IZ (II _ _) (Kf p its.toArray n dd sl (.ref b) (o6 ts m)) ⟨e1,λy hy =>?_,?_⟩
 ·have hy':y∈its:=by simpa using hy
  rw[ei] at hy'
  obtain ⟨t,hm,rfl⟩:=Du.mp hy'
  rw[nX I ht' hm]
  exact I.eqT (by show X.A.units+1<cLine;lia) (ht' t hm) (SqT.of hb)
 ·rw[show its.toArray.toList=its from rfl,ei,lM I ht' ts (λt h=>h)]
  exact ⟨.int _,H,I.tok _,⟨_,rfl⟩,q⟩
theorem gk:∀{its:List CJ} {ns:List Int},FF its ns->∃xs:List (Int×Tok),its=xs.map (λp=>Ex p.1 p.2)/\xs.map (·.1)=ns
 | _,_,.nil=>⟨[],rfl,rfl⟩
 | _,_,.cons n t r=>by
  obtain ⟨xs,e1,e2⟩:=gk r
  exact ⟨(n,t) :: xs,by rw[Dy, <- e1],by rw[Dy,e2]⟩
theorem xB (hh:X.A.handled=none):bK X (.builtin "sum") (λxs H Q=>∃(p:Addr) (ns:List Int),xs=[.ref p]/\H p=some (.lst (ns.map V.int))/\Q (.int ns.sum) H):=by
 intro pins s σ H xs us Q I r h
 obtain ⟨p,ns,rfl,hp,q⟩:=h
 obtain ⟨u,rfl,ru⟩:=vals1 r
 cases (show u=Dd p from ru)
 obtain ⟨z,its,n,r,e1⟩:=(show bB X.prog X.w H s.heap p (.lst _) from I.hok p _ hp)
 obtain ⟨zs,e2,e3⟩:=gk (intsAre_of r)
 have ei:its.toArray=FO zs.toArray:=by rw[e2];simp[FO]
 refine sum_intListG hh (xs:=zs.toArray) ⟨_,e1,rfl,n,by rw[ei]⟩ λh' tk t' k =>?_
 rw[preSum_eq,C7 (by simp),e3]
 exact ⟨.int _,H,I.kept k,⟨_,rfl⟩,q⟩
end
end L2
namespace HT
open PySem PySem.Spec PyProof.Rows
section
variable  {prog:De}{w:DN}{A:D1}{E:CJ->CN->Prop}{s:CN}
theorem hJ {t sl:Addr}{items:Array CJ}{vl vu:CJ}{lo hi:Option Int}{Q:CJ->CN->Prop}(ht:IsTup s.heap t items)(hs:s.heap.IsSliceOf sl vl vu .none)(pl:IsPart vl lo)(pu:IsPart vu hi)
  (hw:sIx items.size 0 lo=0/\sIx items.size items.size hi=items.size) (h:Q (.ref t) s):Dh (DA prog w) A (getItem (.ref t) (.ref sl)) Q E s:=by
 obtain ⟨os,hos,hcs,hds⟩:=id hs
 have hTs:s.TypeIs (.ref sl) "slice" :=⟨os,hos,hcs⟩
 unfold getItem
 try with_reducible refine D5 ?_
 first | refine CD (CK ?_) | skip
 refine CD (K3 ht.typeIs (by decide) ?_)
 refine CD (EN (name:=Str.ofString "__getitem__") ht.typeIs Ed
  (Em Ed ht.typeIs entry_tuple_getitem ?_ (KA _ _)))
 show Dh _ _ (Builtin.Tuple.tupleItemsOf (.ref t) >>= _) _ _ s
 refine CD (tupleItemsOf_ ht ?_)
 refine CD (Fs hTs ?_)
 rw[if_pos (by decide)]
 refine CD (fc hs pl pu ?_)
 show Dh _ _ (if (((sIx items.size 0 lo:Nat):Int) == 0 && (1:Int) == 1 && (sIx items.size items.size hi-sIx items.size 0 lo) == items.size)=true then _ else _) _ _ s
 rw[hw.1,hw.2,if_pos (by simp)]
 unfold Builtin.Tuple.tupleIsExact
 refine CD (CD (Fs ht.typeIs (CK ?_)))
 rw[if_pos (by decide)]
 exact CD (FE (CK ⟨_,rfl,CK h⟩))
end
end HT
namespace L2
open PySem PySem.Spec PyProof.Rows
section
variable  {X:Cx}
theorem zz:SlR X (λx lo hi H Q=>∃a xs,x = .ref a/\SqT X.K H a xs/\((HT.sIx xs.length 0 lo=0/\HT.sIx xs.length xs.length hi=xs.length)->Q (.ref a) H) ∧
  (¬ (HT.sIx xs.length 0 lo=0/\HT.sIx xs.length xs.length hi=xs.length)->∀p,H p=none->Q (.ref p) (upd H p (.tup (fX xs lo hi))))):=by
 intro pins s σ H x v vl vu lo hi sl Q I rx hs pl pu h
 obtain ⟨a,xs,rfl,hx,q1,q2⟩:=h
 by_cases hw:HT.sIx xs.length 0 lo=0/\HT.sIx xs.length xs.length hi=xs.length
 ·cases rx
  obtain ⟨its,r,ht,hz⟩:=I.tuple hx
  have hlen:its.toArray.size=xs.length:=by rw[CS];exact r.length.symm
  refine ⟨"tuple",_,Ed.lookup,ht.typeIs,?_⟩
  exact HT.hJ ht hs pl pu (by rw[hlen];exact hw) ⟨.ref a,H,I,rfl,q1 hw⟩
 ·exact A1 pins s σ H _ v vl vu lo hi sl Q I rx hs pl pu ⟨a,xs,rfl,hx,hw,q2 hw⟩
theorem j1:bK X (.type "range") (λxs H Q=>∃n:Int,xs=[.int n]/\∀a,H a=none->Q (.ref a) (upd H a (.rng 0 n))):=by
 intro pins s σ H xs us Q I r h
 obtain ⟨n,rfl,q⟩:=h
 obtain ⟨u,rfl,⟨t,rfl⟩⟩:=vals1 r
 refine call_range_1 ?_
 exact ⟨.ref s.heap.objs.size,_,I.laid (o :=.rng 0 n) (λb ob q=>CH _ q) (CO _) ⟨_,_,_,CZ _ rfl⟩,rfl,q _ (I.hok.fresh (CO _))⟩
end
section
variable  {prog:De}{w:DN}{A:D1}{E:CJ->CN->Prop}{s:CN}
end
section
variable  {X:Cx}
theorem sR:∀{vs:List CJ},(∀(i:Nat) (x:CJ),vs[i]? = some x->∃t,x=Ex i t)->Vals ((Ei vs.length).map λi=>V.int (i:Nat)) vs:=by
 suffices h:∀(vs:List CJ) (k:Nat),(∀(i:Nat) (x:CJ),vs[i]? = some x->∃t,x=Ex ((i+k:Nat):Int) t)->Vals ((List.range' k vs.length).map λi=>V.int (i:Nat)) vs by
  intro vs hv
  have:=h vs 0 hv
  rw[List.range_eq_range']
  exact this
 intro vs
 induction vs with
 | nil=>intro k _;exact .nil
 | cons x vs ih =>
  intro k hv
  rw[Dx,Jt,Dy]
  refine .cons ?_ (ih (k+1) λi y hy =>?_)
  ·obtain ⟨t,e⟩:=hv 0 x rfl
   exact ⟨t,by rw[e,Gx]⟩
  ·obtain ⟨t,e⟩:=hv (i+1) y (by rw[Fj];exact hy)
   exact ⟨t,by rw[e,show i+1+k=i+(k+1) by lia]⟩
end
open PySem PySem.Spec PyProof.Rows
section
variable  {κ:Type}[DecidableEq κ]
def de (kvs:List (κ×V))(k:κ):Option V:=(kvs.find? λkv=>decide (kv.1=k)).map (·.2)
def putK (kvs:List (κ×V))(k:κ)(v:V):List (κ×V) :=
 if (kvs.any λkv=>decide (kv.1=k))=true then kvs.map (λkv=>if kv.1=k then (kv.1,v) else kv) else kvs++[(k,v)]
theorem gn {p:κ×V}{r:List (κ×V)}{k:κ}(e:p.1=k):de (p :: r) k=some p.2:=by simp[de,GU,e]
theorem gp {p:κ×V}{r:List (κ×V)}{k:κ}(e:¬ p.1=k):de (p :: r) k=de r k:=by simp[de,GU,e]
theorem lO (k:κ):∀kvs:List (κ×V),(kvs.any λkv=>decide (kv.1=k))=(de kvs k).isSome
 | []=>rfl
 | p :: r=>by
  rw[HE]
  by_cases e:p.1=k
  ·simp only[gn e,decide_eq_true e,Bool.true_or,Option.isSome_some]
  ·rw[gp e,decide_eq_false e,LX];exact lO k r
theorem gq (kvs:List (κ×V))(k:κ)(v:V):(putK kvs k v).length<=kvs.length+1:=by
 unfold putK
 split
 ·rw[CG];lia
 ·rw[CL,Dx,FH];lia
theorem qL {kvs:List (κ×V)}{k:κ}(v:V)(h:de kvs k=none):putK kvs k v=kvs++[(k,v)]:=by
 unfold putK
 rw[lO,h]
 exact if_neg (by decide)
theorem kJ.fq {o:Option V}{u:Option CJ}(r:kJ o u):o.isSome=u.isSome:=by
 cases o with
 | none=>cases u with
  | none=>rfl
  | some _=>exact (show False from r).elim
 | some _=>cases u with
  | none=>exact (show False from r).elim
  | some _=>rfl
theorem KV.val {kvs:List (κ×V)}{vs:List (κ×CJ)}(r:KV kvs vs)(k:κ):kJ (de kvs k) (valueAt vs k):=by
 unfold KV at r
 induction r with
 | nil=>exact True.intro
 | @cons p q ps qs h t ih =>
  obtain ⟨h1,h2⟩:=h
  by_cases e:p.1=k
  ·have e':q.1=k:=h1.symm.trans e
   have b:valueAt (q :: qs) k=some q.2:=by simp[valueAt,GU,e']
   rw[gn e,b];exact h2
  ·have e':¬ q.1=k:=λz=>e (h1.trans z)
   have b:valueAt (q :: qs) k=valueAt qs k:=by simp[valueAt,GU,e']
   rw[gp e,b];exact ih
theorem KV.any {kvs:List (κ×V)}{vs:List (κ×CJ)}(r:KV kvs vs)(k:κ):(kvs.any λkv=>decide (kv.1=k))=vs.any λkv=>decide (kv.1=k):=by
 unfold KV at r
 induction r with
 | nil=>rfl
 | cons h t ih=>rw[HE,HE,ih,h.1]
theorem KV.Bn {kvs:List (κ×V)}{vs:List (κ×CJ)}(r:KV kvs vs)(k:κ){y:V}{u:CJ}(ry:RelV y u) :
  KV (kvs.map λkv=>if kv.1=k then (kv.1,y) else kv) (vs.map λkv=>if kv.1=k then (kv.1,u) else kv):=by
 unfold KV at r ⊢
 induction r with
 | nil=>exact .nil
 | @cons p q ps qs h t ih =>
  rw[Dy,Dy]
  refine .cons ?_ ih
  obtain ⟨h1,h2⟩:=h
  by_cases e:p.1=k
  ·rw[if_pos e,if_pos (h1.symm.trans e)];exact ⟨h1,ry⟩
  ·rw[if_neg e,if_neg (λz=>e (h1.trans z))];exact ⟨h1,h2⟩
theorem KV.put {kvs:List (κ×V)}{vs:List (κ×CJ)}(r:KV kvs vs)(k:κ){y:V}{u:CJ}(ry:RelV y u):KV (putK kvs k y) (stored vs k u):=by
 unfold putK stored
 rw[r.any k]
 by_cases e:(vs.any λkv=>decide (kv.1=k))=true
 ·rw[if_pos e,if_pos e];exact r.Bn k ry
 ·rw[if_neg e,if_neg e];exact L8 r ⟨rfl,ry⟩
theorem KV.length {kvs:List (κ×V)}{vs:List (κ×CJ)}(r:KV kvs vs):kvs.length=vs.length:=Gy r
end
theorem nY {P:De}{w:DN}{k:Key}{u:CJ}(r:RelV (kV k) u):(bQ P w).is k u=true:=by
 cases k with
 | inl i=>obtain ⟨t,e⟩:=(show ∃t,u=Ex i t from r);subst e;exact qb P w i t
 | inr x=>obtain ⟨t,e⟩:=(show ∃t,u=Value.str x t from r);subst e;exact qc P w x t
theorem nZ {P:De}{w:DN}:∀{ks:List Key} {us:List CJ},Vals (ks.map kV) us->ItemsAre (bQ P w) ks us
 | [],_,r=>by rw[HX] at r;cases r;exact .nil
 | k :: ks,_,r=>by
  rw[Dy] at r
  cases r with
  | cons h t=>exact .cons (nY h) (nZ t)
abbrev KT (H:Hp):List (List Key×V)->List (List Key×Addr×CJ)->Prop:=Paired λp q=>p.1=q.1/\H q.2.1=some (.tup (p.1.map kV))/\RelV p.2 q.2.2
theorem KT.val {H:Hp}{kvs:List (List Key×V)}{xs:List (List Key×Addr×CJ)}(r:KT H kvs xs)(k:List Key):kJ (de kvs k) ((atKey xs k).map (·.2)):=by
 induction r with
 | nil=>exact True.intro
 | @cons p q ps qs h t ih =>
  obtain ⟨h1,_,h2⟩:=h
  by_cases e:p.1=k
  ·have e':q.1=k:=h1.symm.trans e
   have b:atKey (q :: qs) k=some q.2:=by simp[atKey,GU,e']
   rw[gn e,b];exact h2
  ·have e':¬ q.1=k:=λz=>e (h1.trans z)
   have b:atKey (q :: qs) k=atKey qs k:=by simp[atKey,GU,e']
   rw[gp e,b];exact ih
theorem KT.Bn {H:Hp}{kvs:List (List Key×V)}{xs:List (List Key×Addr×CJ)}(r:KT H kvs xs)(k:List Key){y:V}{u:CJ}(ry:RelV y u) :
  KT H (kvs.map λkv=>if kv.1=k then (kv.1,y) else kv) (xs.map (putAt k u)):=by
 induction r with
 | nil=>exact .nil
 | @cons p q ps qs h t ih =>
  rw[Dy,Dy]
  refine .cons ?_ ih
  obtain ⟨h1,h2,h3⟩:=h
  unfold putAt
  by_cases e:p.1=k
  ·rw[if_pos e,if_pos (h1.symm.trans e)];exact ⟨h1,h2,ry⟩
  ·rw[if_neg e,if_neg (λz=>e (h1.trans z))];exact ⟨h1,h2,h3⟩
theorem KT.put {H:Hp}{kvs:List (List Key×V)}{xs:List (List Key×Addr×CJ)}(r:KT H kvs xs)(k:List Key){b:Addr}{y:V}{u:CJ}(hb:H b=some (.tup (k.map kV)))(ry:RelV y u) :
  KT H (putK kvs k y) (storedH xs k b u):=by
 have e:(kvs.any λkv=>decide (kv.1=k))=(atKey xs k).isSome:=by
  rw[lO,(r.val k).fq,Jg]
 unfold putK storedH
 rw[e]
 by_cases q:(atKey xs k).isSome=true
 ·rw[if_pos q,if_pos q];exact r.Bn k ry
 ·rw[if_neg q,if_neg q];exact L8 r ⟨rfl,hb,ry⟩
theorem KT.keeps {H H':Hp}{kvs:List (List Key×V)}{xs:List (List Key×Addr×CJ)}(r:KT H kvs xs)(ht:∀b ys,H b=some (.tup ys)->H' b=some (.tup ys)):KT H' kvs xs :=
 Paired.AH r λ_ _ z=>⟨z.1,ht _ _ z.2.1,z.2.2⟩
section
variable  {P:De}{w:DN}{H:Hp}{h:Heap}{a:Addr}
theorem Ak {u:HO}(ok:HOk P w H h)(e:Rd H a u):bB P w H h a u:=e.ok ok
theorem qM {kvs:List (Key×V)}(ok:HOk P w H h)(e:Rd H a (.dK kvs)):kvs.length<=C6/\(a == sysModules)=false/\∃vs,KV kvs vs/\h.DictOf (bQ P w) a vs :=
 show bB P w H h a (.dK kvs) from Ak ok e
theorem uw {kvs:List (Key×V)}(ok:HOk P w H h)(e:H a=some (.dK kvs)):kvs.length<=C6/\(a == sysModules)=false/\∃vs,KV kvs vs/\h.DictOf (bQ P w) a vs:=qM ok (.inl e)
theorem lP {ks:List Key}(ok:HOk P w H h)(e:H a=some (.tup (ks.map kV))):(tupleKind (bQ P w)).is h ks a:=by
 obtain ⟨_,its,r,o,h1,h2,n,h3⟩:=(show bB P w H h a (.tup (ks.map kV)) from ok a _ e)
 exact ⟨o,its.toArray,n,h1,h2.1,h3,by simpa using nZ r⟩
theorem qN {kvs:List (List Key×V)}(ok:HOk P w H h)(e:Rd H a (.dT kvs)):kvs.length<=C6/\(a == sysModules)=false ∧
  ∃xs,KT H kvs xs/\h.DictOfH (tupleKind (bQ P w)) a xs:=by
 obtain ⟨z,y,xs,r,o,es,ep,h1,h2,h3,h4,h5⟩:=(show bB P w H h a (.dT kvs) from Ak ok e)
 refine ⟨z,y,xs,r,o,es,ep,h1,h2,h3,h4,λx hx =>?_,h5⟩
 have all:∀{l:List (List Key×V)} {m:List (List Key×Addr×CJ)},KT H l m->∀x∈m,(tupleKind (bQ P w)).is h x.1 x.2.1:=by
  intro l m q
  induction q with
  | nil=>intro x hx;exact nomatch hx
  | @cons p q ps qs hq t ih =>
   intro x hx
   rcases C9.mp hx with e | hx
   ·subst e
    exact lP ok (by rw[<- hq.1];exact hq.2.1)
   ·exact ih x hx
 exact all r x hx
theorem Cg {kvs:List (List Key×V)}(ok:HOk P w H h)(e:H a=some (.dT kvs)):kvs.length<=C6/\(a == sysModules)=false ∧
  ∃xs,KT H kvs xs/\h.DictOfH (tupleKind (bQ P w)) a xs:=qN ok (.inl e)
end
def fv (H:Hp)(a:Addr)(y:V)(r:Option V):Prop :=
 (∃kvs k,Rd H a (.dK kvs)/\y=kV k/\r=de kvs k)\/∃kvs k b,Rd H a (.dT kvs)/\y = .ref b/\H b=some (.tup (k.map kV))/\r=de kvs k
def lQ (H:Hp)(a:Addr)(y v:V)(H':Hp):Prop :=
 (∃kvs k,H a=some (.dK kvs)/\y=kV k/\kvs.length<C6/\H'=upd H a (.dK (putK kvs k v))) ∨
 ∃kvs k b,H a=some (.dT kvs)/\y = .ref b/\H b=some (.tup (k.map kV))/\kvs.length<C6/\H'=upd H a (.dT (putK kvs k v))
theorem fv.k {H:Hp}{a:Addr}{kvs:List (Key×V)}{k:Key}(e:H a=some (.dK kvs)):fv H a (kV k) (de kvs k) :=.inl ⟨kvs,k,.inl e,rfl,rfl⟩
theorem lQ.k {H:Hp}{a:Addr}{kvs:List (Key×V)}{k:Key}{v:V}(e:H a=some (.dK kvs))(hl:kvs.length<C6):lQ H a (kV k) v (upd H a (.dK (putK kvs k v))) :=.inl ⟨kvs,k,e,rfl,hl,rfl⟩
section
variable  {X:Cx}{pins:List (Addr×Obj)}{σ:St}{H:Hp}{s:CN}{a:Addr}{y v:V}{u r:CJ}{o:Option V}{A:D1}{E:CJ->CN->Prop}
theorem Inv.big (I:Inv X pins σ H s):sysModules<s.heap.objs.size:=by
 have h:Ea<s.heap.objs.size:=(I.mod.glob.keeps I.bk).lt
 exact Nat.lt_trans (by decide) h
theorem vQ {Q:CJ->CN->Prop}(hu:A.units+1<cLine)(I:Inv X pins σ H s)(g:fv H a y (some v))(ry:RelV y u)(h:∀w' s',Inv X pins σ H s'->RelV v w'->Q w' s') :
  Dh (DA X.prog X.w) A (getItem (.ref a) u) Q E s:=by
 rcases g with ⟨kvs,k,e,ey,l⟩ | ⟨kvs,k,b,e,ey,eb,l⟩
 ·subst ey
  obtain ⟨z,hd,vs,rel,dd⟩:=qM I.hok e
  obtain ⟨w',hw,rw'⟩:=kJ.some_of (v:=v) (o:=valueAt vs k) (by rw[l];exact rel.val k)
  exact wpAny_getItem_of (nY ry) dd.mapOf hw (h w' _ (I.tok _) rw')
 ·subst ey
  cases (show u=Dd b from ry)
  obtain ⟨z,hd,xs,rel,dd⟩:=qN I.hok e
  obtain ⟨w',hw,rw'⟩:=kJ.some_of (v:=v) (o:=(atKey xs k).map (·.2)) (by rw[l];exact rel.val k)
  obtain ⟨p,hp,hp2⟩:=Fu.mp hw
  refine wpAny_getItem_heap (HJ hu) (lP I.hok eb) dd hp ?_
  rw[hp2]
  exact h w' _ (I.tok _) rw'
theorem d_in {Q:CJ->CN->Prop}(hu:A.units+1<cLine)(I:Inv X pins σ H s)(g:fv H a y o)(ry:RelV y u)(h:∀s',Inv X pins σ H s'->Q (.bool o.isSome) s') :
  Dh (DA X.prog X.w) A (EV .In u (.ref a)) Q E s:=by
 rcases g with ⟨kvs,k,e,ey,l⟩ | ⟨kvs,k,b,e,ey,eb,l⟩
 ·subst ey
  obtain ⟨z,hd,vs,rel,dd⟩:=qM I.hok e
  refine wpAny_in_of (nY ry) hd dd.mapOf ?_
  rw[<- (rel.val k).fq, <- l]
  exact h _ (I.tok _)
 ·subst ey
  cases (show u=Dd b from ry)
  obtain ⟨z,hd,xs,rel,dd⟩:=qN I.hok e
  refine wpAny_in_heap (HJ hu) (lP I.hok eb) hd dd ?_
  have q:=(rel.val k).fq
  rw[Jg] at q
  rw[<- q, <- l]
  exact h _ (I.tok _)
theorem zA {Q:CJ->CN->Prop}(hu:A.units+1<cLine)(I:Inv X pins σ H s)(g:fv H a y o)(ry:RelV y u)(h:∀s',Inv X pins σ H s'->Q (.bool (!o.isSome)) s') :
  Dh (DA X.prog X.w) A (EV .NotIn u (.ref a)) Q E s:=by
 rcases g with ⟨kvs,k,e,ey,l⟩ | ⟨kvs,k,b,e,ey,eb,l⟩
 ·subst ey
  obtain ⟨z,hd,vs,rel,dd⟩:=qM I.hok e
  refine wpAny_notIn_of (nY ry) hd dd.mapOf ?_
  rw[<- (rel.val k).fq, <- l]
  exact h _ (I.tok _)
 ·subst ey
  cases (show u=Dd b from ry)
  obtain ⟨z,hd,xs,rel,dd⟩:=qN I.hok e
  refine wpAny_notIn_heap (HJ hu) (lP I.hok eb) hd dd ?_
  have q:=(rel.val k).fq
  rw[Jg] at q
  rw[<- q, <- l]
  exact h _ (I.tok _)
theorem o7 {h':Heap}{t':Nat}{ob:HO}(I:Inv X pins σ H s)(mu:Mut (H a))(hs:Heap.SameBut a s.heap h')(he:∃q,h'.get? a=some q)(new:bB X.prog X.w (upd H a ob) h' a ob) :
  Inv X pins σ (upd H a ob) { s with heap:=h',toks:=t' } :=
 I.write (x:=a) (e:=a) mu (.inl rfl) (λb q hb z=>(hs.2 b hb).trans z) he new
theorem xC {P:De}{w:DN}{H':Hp}{h':Heap}{kvs:List (Key×V)}{vs:List (Key×CJ)}(z:kvs.length<=C6)(hd:(a == sysModules)=false)(rel:KV kvs vs)(dd:h'.DictOf (bQ P w) a vs) :
  bB P w H' h' a (.dK kvs):=⟨z,hd,vs,rel,dd⟩
theorem vR {H':Hp}{Q:Unit->CN->Prop}(hu:A.units+1<cLine)(I:Inv X pins σ H s)(g:lQ H a y v H')(ry:RelV y u)(rv:RelV v r)(h:∀s',Inv X pins σ H' s'->Q () s') :
  Dh (DA X.prog X.w) A (setItem (.ref a) u r) Q E s:=by
 rcases g with ⟨kvs,k,e,ey,l,eH⟩ | ⟨kvs,k,b,e,ey,eb,l,eH⟩
 ·subst ey eH
  obtain ⟨z,hd,vs,rel,dd⟩:=uw I.hok e
  have hz:vs.length<=C6:=by rw[<- rel.length];exact z
  have hl:(putK kvs k v).length<=C6:=by have:=gq kvs k v;lia
  refine wpAny_setItem_pairs (hsz:=hz) (nY ry) dd λh' dd' hs=>h _ ?_
  have he:∃q,h'.get? a=some q:=let ⟨q,_,_,hq,_⟩:=dd';⟨q,hq⟩
  exact o7 I (by rw[e];exact True.intro) hs he (xC hl hd (rel.put k rv) dd')
 ·subst ey eH
  cases (show u=Dd b from ry)
  obtain ⟨z,hd,xs,rel,dd⟩:=Cg I.hok e
  have hz:xs.length<=C6:=by rw[<- Gy rel];exact z
  have hl:(putK kvs k v).length<=C6:=by have:=gq kvs k v;lia
  refine wpAny_setItem_heap (hsz:=hz) (HJ hu) (lP I.hok eb) dd λh' dd' hs=>h _ ?_
  obtain ⟨q,es,ep,hq,h2,h3,h4,_,h5⟩:=dd'
  refine o7 I (by rw[e];exact True.intro) hs ⟨q,hq⟩ ⟨hl,hd,_,(rel.put k eb rv).keeps λc ys ec =>?_,q,es,ep,hq,h2,h3,h4,h5⟩
  rw[aD (eG ec e (λz=>nomatch z))]
  exact ec
end
section
variable  {X:Cx}{pins:List (Addr×Obj)}{σ:St}{H:Hp}{s:CN}{a:Addr}{kvs:List (Key×V)}{k:Key}{u:CJ}{A:D1}{E:CJ->CN->Prop}
end
def Ci (i:Expr):Prop:=∀ov iv,subscripted i false ov iv=operate [ov,iv] (getItem ov iv)
theorem zB {prog:De}{w:DN}{A:D1}{E:CJ->CN->Prop}{s:CN}{env:Env}{value slice:Expr}{pos:Pos}{T id:String}{Q:CJ->CN->Prop}
  (hl:typeLookup (.type T) "__getitem__" = pure (some (.builtin id))) (hs:Ci slice)
  (h:Dh (DA prog w) A (eval value env) (λo s₁=>Dh (DA prog w) A (eval slice env) (λi s₂=>s₂.TypeIs o T/\Dh (DA prog w) A (getItem o i) Q E s₂) E s₁) E s) :
  Dh (DA prog w) A (eval (.Subscript value slice pos) env) Q E s:=by
 refine Subscript_ (FD h (λo s₁ h₁=>FD h₁ (λi s₂ h₂ =>?_) λ_ _ x=>x) λ_ _ x=>x)
 obtain ⟨hT,h₂⟩:=h₂
 unfold subscriptTail
 refine CD ?_
 rw[getitemInPython_of_ne hT.not_modules]
 refine CD (E8 hT hl ?_)
 have fin:Dh (DA prog w) A (subscripted slice false o i) (λr s₃=>Dh (DA prog w) A (letTemporaryGo value o r >>= λ_=>pure r) Q E s₃) E s₂:=by
  rw[hs o i]
  exact wpAny_operating (FD h₂ (λr s₃ h₃=>CD (wpAny_letTemporaryGo (CK h₃))) λ_ _ x=>x)
 first
  | exact CK (CD fin)
  | exact CD (CK (CD fin))
  | exact CD fin
theorem qO {X:Cx}{pins:List (Addr×Obj)}{σ:St}{H:Hp}{s:CN}{a:Addr}{y:V}{o:Option V}(I:Inv X pins σ H s)(g:fv H a y o):s.TypeIs (.ref a) "dict" := by
 rcases g with ⟨kvs,k,e,_,_⟩ | ⟨kvs,k,b,e,_,_,_⟩
 ·obtain ⟨_,_,vs,_,dd⟩:=qM I.hok e
  exact dd.typeIs
 ·obtain ⟨_,_,xs,_,dd⟩:=qN I.hok e
  exact dd.typeIs
def Cj (td ty:TE):TE:=λσ H Q=>td σ H λx H1=>ty σ H1 λy H2=>∃a v,x = .ref a/\fv H2 a y (some v)/\Q v H2
def tDIn (ty td:TE):TE:=λσ H Q=>ty σ H λy H1=>td σ H1 λx H2=>∃a o,x = .ref a/\fv H2 a y o/\Q (.bl o.isSome) H2
def zC (ty td:TE):TE:=λσ H Q=>ty σ H λy H1=>td σ H1 λx H2=>∃a o,x = .ref a/\fv H2 a y o/\Q (.bl (!o.isSome)) H2
def Ck (td ty tv:TE):TS:=λD σ H=>tv σ H λv H1=>td σ H1 λx H2=>ty σ H2 λy H3=>∃a H4,x = .ref a/\lQ H3 a y v H4/\D.nx σ H4
section
variable  {X:Cx}{o i e value:Expr}{pos pos' tpos:Pos}{td ty tv:TE}
theorem o8 (hu:X.A.units+1<cLine)(ho:PE X o td)(hi:PE X i ty)(hs:Ci i):PE X (.Subscript o i pos) (Cj td ty):=by
 intro pins s σ H Q I h
 refine zB PySem.F.slot_dict_getitem.lookup hs (thn (ho pins s σ H _ I h) λu s1 ⟨x,H1,I1,rx,q1⟩=>thn (hi pins s1 σ H1 _ I1 q1) λiv s2 ⟨y,H2,I2,ry,a,v,ex,g,q2⟩ =>?_)
 subst ex
 obtain rfl:u=Dd a:=rx
 exact ⟨qO I2 g,vQ hu I2 g ry λw' s3 I3 rw'=>⟨v,H2,I3,rw',q2⟩⟩
theorem xD (hu:X.A.units+1<cLine)(hi:PE X i ty)(ho:PE X o td):PC X .In i o (tDIn ty td):=by
 intro pins s σ H Q I h
 refine thn (hi pins s σ H _ I h) λiv s1 ⟨y,H1,I1,ry,q1⟩=>thn (ho pins s1 σ H1 _ I1 q1) λu s2 ⟨x,H2,I2,rx,a,ov,ex,g,q2⟩ =>?_
 subst ex
 obtain rfl:u=Dd a:=rx
 exact d_in hu I2 g ry λs3 I3=>⟨.bl ov.isSome,H2,I3,rfl,q2⟩
theorem dS (hu:X.A.units+1<cLine)(hi:PE X i ty)(ho:PE X o td):PC X .NotIn i o (zC ty td):=by
 intro pins s σ H Q I h
 refine thn (hi pins s σ H _ I h) λiv s1 ⟨y,H1,I1,ry,q1⟩=>thn (ho pins s1 σ H1 _ I1 q1) λu s2 ⟨x,H2,I2,rx,a,ov,ex,g,q2⟩ =>?_
 subst ex
 obtain rfl:u=Dd a:=rx
 exact zA hu I2 g ry λs3 I3=>⟨.bl (!ov.isSome),H2,I3,rfl,q2⟩
theorem i7 (hu:X.A.units+1<cLine)(ho:PE X o td)(hi:PE X i ty)(hv:PE X value tv)(hs:swapsWith value (some (.Subscript o i pos')) pos.line X.env=pure false) :
  PS X (.Assign [.Subscript o i pos'] value pos) (Ck td ty tv):=by
 intro pins s σ H D I h
 refine wpAny_Assign_Subscript (thn (hv pins s σ H _ I h) λr s1 ⟨v,H1,I1,rv,q1⟩=>thn (ho pins s1 σ H1 _ I1 q1) λu s2 ⟨x,H2,I2,rx,q2⟩=>thn (hi pins s2 σ H2 _ I2 q2) λiv s3 ⟨y,H3,I3,ry,a,H4,ex,g,q3⟩ =>?_) hs
 subst ex
 obtain rfl:u=Dd a:=rx
 exact vR hu I3 g ry rv λs4 I4=>⟨σ,H4,I4,q3⟩
end
theorem qP {P:De}{w:DN}{H:Hp}(h:Heap)(hb:sysModules<h.objs.size):bB P w H (h.push { cls :=.type "dict",data :=.dict #[] }) h.objs.size (.dK []) :=
 ⟨DQ _,beq_eq_false_iff_ne.mpr (D8 (Dc hb)),[],.nil,Heap.DictOf.new h⟩
def Bo:TE:=λ_ H Q=>∀p,H p=none->Q (.ref p) (upd H p (.dK []))
section
variable  {X:Cx}{pos:Pos}
theorem lR:PE X (.Dict [] [] pos) Bo:=λpins s σ H Q I h =>
 wpAny_Dict_empty ⟨.ref s.heap.objs.size,_,I.laid (a:=s.heap.objs.size) (o :=.dK []) (t':=s.toks) (λ_ _ q=>CH _ q) (CO _) (qP s.heap I.big),rfl,h _ (I.hok.fresh (CO _))⟩
end
def sS:List (TE×TE)->St->Hp->(List (V×V)->Hp->Prop)->Prop
 | [],_,H,Q=>Q [] H
 | (tk,tv) :: r,σ,H,Q=>tk σ H λx H1=>tv σ H1 λy H2=>sS r σ H2 λps H3=>Q ((x,y) :: ps) H3
abbrev VV:List (V×V)->List (CJ×CJ)->Prop:=Paired λp q=>RelV p.1 q.1/\RelV p.2 q.2
def PPs (X:Cx)(pos:Pos)(keys:List (Option Expr))(values:List Expr)(trs:List (TE×TE)):Prop :=
 ∀(pins:List (Addr×Obj)) (s:CN) (σ:St) (H:Hp) (Q:List (V×V)->Hp->Prop),Inv X pins σ H s->sS trs σ H Q →
  Dh (DA X.prog X.w) X.A (evalPairs (pairTrees keys values X.env pos)) (λvs s'=>∃ps H',Inv X pins σ H' s'/\VV ps vs/\Q ps H') X.xe s
theorem ux {X:Cx}{pos:Pos}:PPs X pos [] [] []:=λpins s σ H Q I h=>pairTrees_nil_walk ⟨[],H,I,.nil,h⟩
theorem qQ {X:Cx}{pos:Pos}{k v:Expr}{ks:List (Option Expr)}{vs:List Expr}{tk tv:TE}{trs:List (TE×TE)}(hk:PE X k tk)(hv:PE X v tv)(hr:PPs X pos ks vs trs) :
  PPs X pos (some k :: ks) (v :: vs) ((tk,tv) :: trs):=λpins s σ H Q I h =>
 pairTrees_cons_walk (thn (hk pins s σ H _ I h) λu s1 ⟨x,H1,I1,rx,q1⟩=>thn (hv pins s1 σ H1 _ I1 q1) λw2 s2 ⟨y,H2,I2,ry,q2⟩ =>
  thn (hr pins s2 σ H2 _ I2 q2) λws s3 ⟨ps,H3,I3,rel,q3⟩=>⟨(x,y) :: ps,H3,I3,.cons ⟨rx,ry⟩ rel,q3⟩)
def dE (kvs more:List (Key×V)):List (Key×V):=more.foldl (λacc kv=>putK acc kv.1 kv.2) kvs
theorem KV.merge:∀{more:List (Key×V)} {rs:List (Key×CJ)} {kvs:List (Key×V)} {vs:List (Key×CJ)},KV more rs->KV kvs vs->KV (dE kvs more) (merged vs rs):=by
 intro more rs kvs vs r
 unfold KV at r
 induction r generalizing kvs vs with
 | nil=>intro q;exact q
 | @cons p q ps qs h t ih =>
  intro r0
  have e:KV (putK kvs p.1 p.2) (stored vs q.1 q.2):=by
   have:=r0.put p.1 h.2
   rw[<- h.1];exact this
  exact ih e
theorem ib:∀(more kvs:List (Key×V)),(dE kvs more).length<=kvs.length+more.length
 | [],kvs=>by show kvs.length<=kvs.length+0;lia
 | p :: r,kvs=>by
  have h1:=ib r (putK kvs p.1 p.2)
  have h2:=gq kvs p.1 p.2
  show (dE (putK kvs p.1 p.2) r).length<=_
  rw[Dx];lia
theorem lS {P:De}{w:DN}:∀{kvs:List (Key×V)} {ws:List (CJ×CJ)},VV (kvs.map λkv=>(kV kv.1,kv.2)) ws->∃rs,Carries (bQ P w) ws rs/\KV kvs rs
 | [],_,r=>by rw[HX] at r;cases r;exact ⟨[],True.intro,.nil⟩
 | p :: kvs,_,r=>by
  rw[Dy] at r
  cases r with
  | @cons a b as bs h t =>
   obtain ⟨rs,c,q⟩:=lS (P:=P) (w:=w) t
   obtain ⟨b1,b2⟩:=b
   exact ⟨(p.1,b2) :: rs,⟨nY h.1,rfl,c⟩,.cons ⟨rfl,h.2⟩ q⟩
def Cm (trs:List (TE×TE)):TE:=λσ H Q=>∀p,H p=none->sS trs σ (upd H p (.dK [])) λps H2=>H2 p=some (.dK [])/\∃kvs:List (Key×V),ps=kvs.map (λkv=>(kV kv.1,kv.2))/\kvs.length<=15/\Q (.ref p) (upd H2 p (.dK (dE [] kvs)))
theorem uy {X:Cx}{pos:Pos}{keys:List (Option Expr)}{values:List Expr}{trs:List (TE×TE)}(h:PPs X pos keys values trs)(hall:keys.all (·.isSome)=true)(hl:keys.length=values.length)(h0:keys≠[])
  (h15:keys.length<=15):PE X (.Dict keys values pos) (Cm trs):=by
 intro pins s σ H Q I q
 have hn:=I.hok.fresh (CO s.heap.objs.size)
 have I1:=I.laid (a:=s.heap.objs.size) (o :=.dK []) (h':=s.heap.push { cls :=.type "dict",data :=.dict #[] }) (t':=s.toks) (λ_ _ q=>CH _ q) (CO _) (qP s.heap I.big)
 refine wpAny_Dict_walk (knd:=bQ X.prog X.w) hall hl h0 h15 (thn (h pins _ σ _ _ I1 (q _ hn)) λws s2 ⟨ps,H2,I2,rel,e,kvs,ep,lk,q2⟩ =>?_)
 subst ep
 obtain ⟨rs,c,rk⟩:=lS (P:=X.prog) (w:=X.w) rel
 obtain ⟨z,hd,vs0,r0,dd⟩:=uw I2.hok e
 cases r0
 refine ⟨rs,c,dd,λh' dd' hs=>⟨.ref s.heap.objs.size,_,?_,rfl,q2⟩⟩
 have hz:(dE [] kvs).length<=C6:=by
  have h1:=ib kvs []
  rw[FH] at h1
  rw[FQ];lia
 have he:∃q,h'.get? s.heap.objs.size=some q:=let ⟨q,_,_,hq,_⟩:=dd';⟨q,hq⟩
 exact o7 I2 (by rw[e];exact True.intro) hs he (xC hz hd (rk.merge .nil) dd')
section
variable  {X:Cx}{pins:List (Addr×Obj)}{σ:St}{H:Hp}{s:CN}{a:Addr}{y d:V}{u r:CJ}{o:Option V}{A:D1}{E:CJ->CN->Prop}
end
section
variable  {X:Cx}{o e f:Expr}{apos cpos:Pos}{td ty tx:TE}
end
section
variable  {X:Cx}{pins:List (Addr×Obj)}{σ:St}{H:Hp}{s:CN}{a:Addr}{kvs:List (Key×V)}{A:D1}{E:CJ->CN->Prop}
end
section
variable  {X:Cx}{pins:List (Addr×Obj)}{σ:St}{H:Hp}{s:CN}{a:Addr}{y:V}{u:CJ}{A:D1}{E:CJ->CN->Prop}
end
open PySem PySem.Spec PyProof.Rows
section
variable  {X:Cx}
end
section
variable  {κ:Type}[DecidableEq κ]
end
end L2
namespace SDct
open PySem PyProof.Rows Srt
section
variable  {prog:De}{w:DN}{K:Type}[DecidableEq K]{knd:KeyKind prog w K}{A:D1}{E:CJ->CN->Prop}{s:CN}
theorem o9 {d:Addr}{kvs:List (K×CJ)}{ep:Nat}{R:List CJ->CN->Prop}(hh:A.handled=none)(hd:(d == sysModules)=false)(hm:s.heap.DictAt knd d kvs ep)(hz:kvs.length<=C6)
  (h:∀h1 tk vs,vs.length=kvs.length->(∀(i:Nat) v,vs[i]? = some v->∃k x,kvs[i]? = some (k,x)/\knd.is k v=true)->(∀b o,s.heap.get? b=some o->h1.get? b=some o)->s.heap.objs.size<=h1.objs.size->R vs { s with heap:=h1,toks:=tk }) :
  Dh (DA prog w) A (collect (.ref d)) R E s:=by
 have hlt:=hm.lt_size
 unfold collect
 refine CD (Hj (D3 JO ?_))
 rw[DP JP _]
 show Dh _ A.in1 (newList [] >>= λl=>again (.builtin "list.__iadd__" ⟨[l,.ref d],[]⟩)) _ _ s
 refine CD (DM ?_)
 refine CK ⟨Ek HQ _,D3 KY ?_⟩
 rw[DP HQ _]
 show Dh _ A.in1 (DG (.ref s.heap.objs.size) (.ref d) (.ref s.heap.objs.size)) _ _ _
 unfold DG
 have hSa:s.heap.objs.size≠d:=F8 hlt
 have z1:(s.heap.push { cls :=.type "list",data :=.seq ([]:List CJ).toArray }).objs.size=s.heap.objs.size+1:=ED _ _
 have hm1:=hm.push { cls :=.type "list",data :=.seq ([]:List CJ).toArray }
 have hT1:Shared.TypeIs { s with heap:=s.heap.push { cls :=.type "list",data :=.seq ([]:List CJ).toArray } } (.ref d) "dict" := hm1.dictOf.typeIs
 refine CD (Fs hT1 ?_)
 have h1:EC (.ref s.heap.objs.size) (.ref d)=false:=by simp[EC,hSa]
 have h2:(EK "dict" == EK "list")=false:=by decide
 have h3:(EK "dict" == EK "tuple")=false:=by decide
 simp only[h1,h2,h3,Jp,Dg,if_false]
 refine CD (wpAny_pyIter_dict hd hm1 ?_)
 show Dh _ A.in1 (HU [.ref (s.heap.push { cls :=.type "list",data :=.seq ([]:List CJ).toArray }).objs.size] (Er (.ref d)) >>= _) _ _ { s with heap:=(s.heap.push { cls :=.type "list",data :=.seq ([]:List CJ).toArray }).push { cls :=.type "dict_keyiterator",data :=.fields #[.ref d,.int 0 0,.int kvs.length 0,.int ep 0] } }
 rw[z1]
 generalize hH:(s.heap.push { cls :=.type "list",data :=.seq ([]:List CJ).toArray }).push { cls :=.type "dict_keyiterator",data :=.fields #[.ref d,.int 0 0,.int kvs.length 0,.int ep 0] }=H
 have kH:∀b o,(s.heap.push { cls :=.type "list",data :=.seq ([]:List CJ).toArray }).get? b=some o->H.get? b=some o:=λb o e=>by rw[<- hH];exact CH _ e
 have hit:H.IsKeyIter (s.heap.objs.size+1) d 0 kvs.length ep:=by
  refine ⟨{ cls :=.type "dict_keyiterator",data :=.fields #[.ref d,.int 0 0,.int kvs.length 0,.int ep 0] },?_,rfl,rfl⟩
  rw[<- hH, <- z1]
  exact CZ _ rfl
 have hm2:H.DictAt knd d kvs ep:=hm1.keep kH
 have hT2:Shared.TypeIs { s with heap:=H } (.ref d) "dict" := hm2.dictOf.typeIs
 refine CD (D5 ?_)
 unfold Er
 refine CD (E8 hT2 F.slot_dict_len.lookup ?_)
 dsimp only
 rw[show splitId "dict.__len__" = some ("dict", "__len__") by kernel_rfl]
 dsimp only
 refine CD (FR hT2 (show isSubtype (.type "dict") (.type "dict")=pure true by rw[Ff];kernel_rfl) ?_)
 simp only[EU,Dg,if_false]
 show Dh _ _ (typeOf (.ref d) >>= _) _ _ _
 refine CD (Fs hT2 ?_)
 refine CK ?_
 show Dh _ A.in1 (rule "list.extend.makes-room" >>= λ_=>Builtin.List.listTouch (.ref s.heap.objs.size) >>= λ_ =>
  again (.builtin "list.extend.loop" ⟨[.ref s.heap.objs.size,.ref (s.heap.objs.size+1),.ref s.heap.objs.size],[]⟩)) _ _ _
 refine CD (FE ?_)
 have hS₁:H.get? s.heap.objs.size=some { cls :=.type "list",data :=.seq ([]:List CJ).toArray }:=kH _ _ (CZ _ rfl)
 refine CD ?_
 show Dh _ A.in1 (updateSeq s.heap.objs.size (·.push .none) >>= λ_=>updateSeq s.heap.objs.size (·.pop)) _ _ _
 refine CD (EB (s:={ s with heap:=H }) hS₁ rfl ?_)
 have hS₂:=DI (EL (·.push EW)) hS₁ rfl
 refine EB hS₂ rfl ?_
 have hS₃:=DI (EL (·.pop)) hS₂ rfl
 have oth:∀b o,b≠s.heap.objs.size->H.get? b=some o->((H.update s.heap.objs.size (EL (·.push EW))).update s.heap.objs.size (EL (·.pop))).get? b=some o :=
  λb o hb e=>(Dl _ _ (D8 hb)).trans ((Dl _ _ (D8 hb)).trans e)
 have W:=(Walks.dictKeys (prog:=prog) (w:=w) (knd:=knd) (A:=A.in1) hh (s.heap.objs.size+1) d (Dc (DW hlt)) kvs ep).toS
 have hSf:s.heap.objs.size∉[s.heap.objs.size+1,d]:=by
  simp only[C9,GJ,or_false,not_or]
  exact ⟨Dc (Et _),hSa⟩
 refine CK ⟨Ek F0 _,Hd W hz _ hSf _ kvs.length 0 _ _ _ rfl (DQ _) ⟨hit.at λo e=>oth _ o (F8 (Et _)) e,hm2.at' λo e=>oth _ o (D8 hSa) e⟩ hS₃ (Kg _) λs' acc' c' hmv hS' ha =>?_⟩
 obtain ⟨h',g',d',tk',os'⟩:=s'
 have eg:g'=s.gens:=hmv.gens
 have ed:d'=s.drawn:=hmv.drawn
 have eo:os'=s.os:=hmv.os
 subst eg;subst ed;subst eo
 show Dh _ A (load s.heap.objs.size >>= _) _ _ _
 refine CD (JZ hS' ?_)
 refine CK (h h' tk' acc'.toList (by rw[CV];exact ha.1) (λi v hv=>ha.2 i v (by rw[C3] at hv;exact hv)) (λb o e =>?_) (GP (C1 hS')))
 have lt:=C1 e
 refine hmv.heap b o ?_ (oth b o (Dc lt) (kH b o (CH _ e)))
 simp only[C9,GJ,or_false,not_or]
 exact ⟨Dc lt,Dc (DW lt)⟩
end
end SDct
namespace L2
open PySem PySem.Spec PyProof.Rows Srt
section
variable  {X:Cx}
theorem pf:∀{kvs:List (Key×V)} {vs:List (Key×CJ)},KV kvs vs->vs.map (·.1)=kvs.map (·.1)
 | _,_,.nil=>rfl
 | _,_,.cons h t=>by rw[Dy,Dy,pf t,h.1]
theorem ph (hh:X.A.handled=none):bK X (.builtin "sorted") (λxs H Q=>∃(a:Addr) (kvs:List (Key×V)) (ks:List Int),xs=[.ref a]/\H a=some (.dK kvs)/\kvs.map (·.1)=ks.map Sum.inl/\∀(l:Addr) (out:List Int),H l=none->out.Perm ks->out.Pairwise (· <= ·)->Q (.ref l) (upd H l (.lst (out.map V.int)))):=by
 intro pins s σ H xs us Q I r h
 obtain ⟨a,kvs,ks,rfl,ha,ek,q⟩:=h
 obtain ⟨u,rfl,ru⟩:=vals1 r
 cases (show u=Dd a from ru)
 obtain ⟨z,hd,vs,rel,dd⟩:=uw I.hok ha
 obtain ⟨ep,dd⟩:=dd.dictAt
 have lv:kvs.length=vs.length:=Gy rel
 have keys:vs.map (·.1)=kvs.map (·.1):=pf rel
 have lk:ks.length=vs.length:=by
  have:=congrArg List.length ek
  rw[CG,CG] at this
  lia
 refine Hh LG K9 La (Lb _) ?_
 unfold Builtin.«sorted»
 refine CD (m:=checkCount "sorted" 1 1 _) (CK ?_)
 refine CD (SDct.o9 (by simpa using hh) hd dd (by lia) λh1 tk ws lw hw k1 z1 =>?_)
 have sh:∀(i:Nat) v,ws[i]? = some v->∃t,ks[i]? = some (intOf v)/\v = .int (intOf v) t:=λi v hv=>by
  obtain ⟨k,x,e1,e2⟩:=hw i v hv
  have e3:(vs.map (·.1))[i]? = some k:=by rw[CU,e1];rfl
  rw[keys,ek,CU] at e3
  cases hk:ks[i]? with
  | none=>rw[hk] at e3;cases e3
  | some n =>
   rw[hk] at e3
   cases e3
   obtain ⟨t,rfl⟩:=G0 (show Value.isInt n v=true from e2)
   exact ⟨t,rfl,rfl⟩
 have si:∀v∈ws,∃i t,v=Ex i t:=λv hv=>by
  obtain ⟨i,hi,e⟩:=GC hv
  obtain ⟨t,_,e2⟩:=sh i v (by rw[CI hi,e])
  exact ⟨_,t,e2⟩
 have ew:ws.map intOf=ks:=by
  apply Fb
  intro i
  rw[CU]
  cases hv:ws[i]? with
  | some v=>obtain ⟨t,e,_⟩:=sh i v hv;rw[e];rfl
  | none =>
   rw[E6] at hv
   rw[Dz (by lia)]
   rfl
 have hI:=fg si
 rw[ew] at hI
 have hz':ws.length<=C6:=by lia
 refine CD (Iq ?_ hz')
 have hoL:(h1.push (seqObj "list" ws.toArray 0)).get? h1.objs.size=some (seqObj "list" ws.toArray 0):=CZ _ rfl
 have kL:∀b o,s.heap.get? b=some o->(h1.push (seqObj "list" ws.toArray 0)).get? b=some o:=λb o e=>CH _ (k1 b o e)
 have C:iW X.prog X.w { s with heap:=h1,toks:=tk } ws sD intOf:=iZ hI
 refine CD (D5 (Em slot_list_sort ⟨_,hoL,rfl⟩ entry_list_sort (eQ (key:=intOf) (O:=sD) hoL hz' (λh2 h6 k6 =>?_) λout pm ps=>⟨_,rfl,?_⟩) (J9 _)))
 ·exact C.ok h2 _ h6 λb o e=>k6 b o (Dc (C1 e)) (CH _ e)
 ·obtain ⟨n,en⟩:=KG (out:=out.toArray) hoL
  have hm:∀v∈out,∃i t,v=Ex i t:=λv hv=>si v (pm.mem_iff.mp hv)
  have hO:=fg hm
  have pm':(out.map intOf).Perm ks:=by
   have:=pm.map intOf
   rw[ew] at this
   exact this
  have kf:∀b o,s.heap.get? b=some o->(sortedHeap (h1.push (seqObj "list" ws.toArray 0)) h1.objs.size ws out.toArray).get? b=some o:=λb o e=>by
   have lt:=Dm (C1 e) z1
   rw[Ka (Dc lt) (by rw[K4];exact DW lt)]
   exact kL b o e
  have fr:H h1.objs.size=none:=I.hok.fresh z1
  refine CK ⟨_,rfl,.ref h1.objs.size,_,I.laid (t':=tk) (o :=.lst ((out.map intOf).map V.int)) kf z1 ⟨?_,out,n,fM hO,en⟩,rfl,q _ _ fr pm' ?_⟩
  ·rw[CG,pm'.length_eq];lia
  ·refine Ef.mpr (ps.imp λ{x y} le =>?_)
   have le':decide (intOf y<intOf x)=false:=le
   have:=of_decide_eq_false le'
   lia
end
end L2
namespace HT
open PySem PySem.Spec PyProof.Rows
section
variable  {prog:De}{w:DN}{A:D1}{E:CJ->CN->Prop}{s:CN}{l:Addr}{xs:Array (Int×Tok)}
theorem oa {items:Array CJ}{Q:CJ->CN->Prop}(hl:s.heap.IsTuple l items)
  (h:∀s₂:CN,s₂={ s with heap:=s.heap.push { cls :=.type "tuple_iterator",data :=.fields #[.ref l,.int 0 0] } } →
   (s₂.heap.IsTupleIter s.heap.objs.size l 0/\s₂.heap.IsTuple l items)->(∀b∈[s.heap.objs.size,l],b<s₂.heap.objs.size)->l≠s.heap.objs.size->Q (.ref s.heap.objs.size) s₂) :
  Dh (DA prog w) A (pyIter (.ref l)) Q E s:=by
 have hlt:l<s.heap.objs.size:=by obtain ⟨_,e,_⟩:=hl;exact C1 e
 refine Fm hl (h _ rfl ⟨⟨_,CZ _ rfl,rfl,rfl⟩,?_⟩ (λb hb =>?_) (Dc hlt))
 ·obtain ⟨o,e,c,d⟩:=hl
  exact ⟨o,CH _ e,c,d⟩
 show b<(s.heap.push _).objs.size
 rw[ED]
 rcases C9.mp hb with rfl | hb
 ·exact Et _
 ·rcases C9.mp hb with rfl | hb
  ·exact DW hlt
  ·cases hb
theorem oe {h':Heap}(hk:∀b o,b∉[s.heap.objs.size]->(s.heap.push { cls :=.type "tuple_iterator",data :=.fields #[.ref l,.int 0 0] }).get? b=some o->h'.get? b=some o) :
  ∀b o,s.heap.get? b=some o->h'.get? b=some o:=λb o e=>by
 refine hk b o (λhm =>?_) (CH _ e)
 rcases C9.mp hm with e1 | hm
 ·exact absurd (e1 ▸ C1 e) (D4 _)
 ·cases hm
theorem zD {Q:CJ->CN->Prop}(hh:A.handled=none)(hl:s.heap.IsTuple l (FO xs))(hne:0<xs.size)
  (h:∀v h' tk,(FO xs)[argBest (λi j=>decide (numAt xs i>numAt xs j)) (xs.size-1)]? = some v->(∀b o,s.heap.get? b=some o->h'.get? b=some o)->Q v { s with heap:=h',toks:=tk }) :
  Dh (DA prog w) A (call (.builtin "max") [.ref l]) Q E s:=by
 refine call_max_walk (oa hl λs₂ e st hfp hlI =>?_)
 subst e
 refine ⟨_,_,_,_,_,_,_,rfl,Jo (A:=A.in1) hh _ l hlI (FO xs),st,hfp,by simpa [FO] using hne,CmpOf.ints_gt (numAt xs) (λ_ _=>Kl),λv h' tk hP hk =>?_⟩
 exact h v h' tk (by simpa [FO] using hP) (oe hk)
theorem zE {Q:CJ->CN->Prop}(hh:A.handled=none)(hl:s.heap.IsTuple l (FO xs))(hne:0<xs.size)
  (h:∀v h' tk,(FO xs)[argBest (λi j=>decide (numAt xs i<numAt xs j)) (xs.size-1)]? = some v->(∀b o,s.heap.get? b=some o->h'.get? b=some o)->Q v { s with heap:=h',toks:=tk }) :
  Dh (DA prog w) A (call (.builtin "min") [.ref l]) Q E s:=by
 refine call_min_walk (oa hl λs₂ e st hfp hlI =>?_)
 subst e
 refine ⟨_,_,_,_,_,_,_,rfl,Jo (A:=A.in1) hh _ l hlI (FO xs),st,hfp,by simpa [FO] using hne,LY (numAt xs) (λ_ _=>Kl),λv h' tk hP hk =>?_⟩
 exact h v h' tk (by simpa [FO] using hP) (oe hk)
end
end HT
namespace L2
open PySem PyProof.Rows
section
variable  {X:Cx}{K:CM}
theorem ii2 {i j:Int}{t1 t2:Tok}:FO #[(i,t1),(j,t2)] = #[Ex i t1,Ex j t2]:=by simp[FO]
theorem og (hc:X.calm=true)(hk:X.K=K:=by rfl):bK X (.builtin "min") (λxs H Q=>∃(p:Addr) (i j:Int),xs=[.ref p]/\SqT K H p [.int i,.int j]/\Q (.int (if j<i then j else i)) H):=by
 subst hk
 intro pins s σ H xs us Q I r h
 obtain ⟨p,i,j,rfl,hq,q⟩:=h
 obtain ⟨u,rfl,ru⟩:=vals1 r
 cases (show u=Dd p from ru)
 obtain ⟨its,rv,ht,_⟩:=I.tuple hq
 obtain ⟨x,y,rfl,⟨t1,rfl⟩,⟨t2,rfl⟩⟩:=vals2 rv
 refine HT.zE (I.ok.hd hc) (xs := #[(i,t1),(j,t2)]) (by rw[ii2];exact ht) (by simp) λv h' tk hv k =>?_
 have ev:∃t,v = .int (if j<i then j else i) t:=by
  have hb:argBest (λa b=>decide (numAt #[(i,t1),(j,t2)] a<numAt #[(i,t1),(j,t2)] b)) (#[(i,t1),(j,t2)].size-1)=if j<i then 1 else 0:=by
   show (if decide (j<i)=true then 1 else 0)=_
   by_cases h:j<i
   ·rw[decide_eq_true h,if_pos h,if_pos rfl]
   ·rw[decide_eq_false h,if_neg h,if_neg C8]
  rw[hb,ii2] at hv
  by_cases h:j<i
  ·rw[if_pos h] at hv ⊢
   exact ⟨t2,(Dk (show some (Ex j t2)=some v from hv)).symm⟩
  ·rw[if_neg h] at hv ⊢
   exact ⟨t1,(Dk (show some (Ex i t1)=some v from hv)).symm⟩
 obtain ⟨t,rfl⟩:=ev
 exact ⟨.int _,H,I.kept k,⟨_,rfl⟩,q⟩
theorem oh (hc:X.calm=true)(hk:X.K=K:=by rfl):bK X (.builtin "max") (λxs H Q=>∃(p:Addr) (i j:Int),xs=[.ref p]/\SqT K H p [.int i,.int j]/\Q (.int (if j>i then j else i)) H):=by
 subst hk
 intro pins s σ H xs us Q I r h
 obtain ⟨p,i,j,rfl,hq,q⟩:=h
 obtain ⟨u,rfl,ru⟩:=vals1 r
 cases (show u=Dd p from ru)
 obtain ⟨its,rv,ht,_⟩:=I.tuple hq
 obtain ⟨x,y,rfl,⟨t1,rfl⟩,⟨t2,rfl⟩⟩:=vals2 rv
 refine HT.zD (I.ok.hd hc) (xs := #[(i,t1),(j,t2)]) (by rw[ii2];exact ht) (by simp) λv h' tk hv k =>?_
 have ev:∃t,v = .int (if j>i then j else i) t:=by
  have hb:argBest (λa b=>decide (numAt #[(i,t1),(j,t2)] a>numAt #[(i,t1),(j,t2)] b)) (#[(i,t1),(j,t2)].size-1)=if j>i then 1 else 0:=by
   show (if decide (j>i)=true then 1 else 0)=_
   by_cases h:j>i
   ·rw[decide_eq_true h,if_pos h,if_pos rfl]
   ·rw[decide_eq_false h,if_neg h,if_neg C8]
  rw[hb,ii2] at hv
  by_cases h:j>i
  ·rw[if_pos h] at hv ⊢
   exact ⟨t2,(Dk (show some (Ex j t2)=some v from hv)).symm⟩
  ·rw[if_neg h] at hv ⊢
   exact ⟨t1,(Dk (show some (Ex i t1)=some v from hv)).symm⟩
 obtain ⟨t,rfl⟩:=ev
 exact ⟨.int _,H,I.kept k,⟨_,rfl⟩,q⟩
end
open PySem PyProof.Rows
section
variable  {X:Cx}
def zF (ns ms:List Int)(j:Nat):Bool:=ns.getD j 0 == ms.getD j 0
theorem qR {ns ms:List Int}(h:ns.length=ms.length):((Ei ns.length).all λj=>zF ns ms j)=decide (ns=ms):=by
 rw[Fh,decide_eq_true_iff,F7]
 constructor
 ·intro hh
  refine Lk h λj h1 h2 =>?_
  have:=hh j (Eg.mpr h1)
  unfold zF at this
  rw[C0,C0,CI h1,CI h2] at this
  exact of_decide_eq_true (by simpa using this)
 ·rintro rfl j _
  exact beq_self_eq_true _
theorem intAt {ns:List Int}{us:List CJ}(r:Vals (ns.map V.int) us){j:Nat}(h:j<us.toArray.size):∃t,us.toArray[j] = .int (ns.getD j 0) t:=by
 have l:=r.length
 rw[CG] at l
 rw[CS] at h
 have e1:(ns.map V.int)[j]? = some (.int (ns.getD j 0)):=by
  rw[CU,C0,CI (by lia)]
  rfl
 obtain ⟨u,g1,q1⟩:=r.get e1
 have f1:us.toArray[j]=u:=by simp[CP] at g1;obtain ⟨_,g⟩:=g1;simpa using g
 rw[f1]
 exact q1
theorem zG {k:Nat}(hr:dF k X.A):OpR X (EV .NotEq) (λx y H Q=>∃(a b:Addr) (ns ms:List Int),x = .ref a/\y = .ref b/\SqL X.K H a (ns.map V.int)/\SqL X.K H b (ms.map V.int)/\Q (.bl (!decide (ns=ms))) H):=by
 intro pins s σ H x y v u Q I rx ry h
 obtain ⟨a,b,ns,ms,rfl,rfl,h1,h2,q⟩:=h
 cases (show v=Dd a from rx)
 cases (show u=Dd b from ry)
 obtain ⟨its,r1,⟨⟨c1,d1,da1,sl1⟩,n1,e1,k1,_,k3⟩,_⟩:=I.list h1
 obtain ⟨its2,r2,⟨⟨c2,d2,da2,sl2⟩,n2,e2,g1,_,g3⟩,_⟩:=I.list h2
 simp only at k1 k3 g1 g3
 subst k1 k3 g1 g3
 have l1:=r1.length
 have l2:=r2.length
 rw[CG] at l1 l2
 have hu:=hr.un
 have hu1:X.A.units<cLine:=by lia
 by_cases hl:ns.length=ms.length
 ·refine F3 (op :=.NotEq) ⟨_,e1,rfl⟩ ⟨_,e2,rfl⟩ F.slot_list_ne Lx (Ll _ _) (SeqAt.list_neAt a b its.toArray its2.toArray n1 n2 d1 d2 sl1 sl2 (by rw[CS,CS];lia) (zF ns ms)) ⟨e1,e2,?_,?_⟩ hu1
  ·intro j h1 h2
   obtain ⟨t1,g1⟩:=intAt r1 h1
   obtain ⟨t2,g2⟩:=intAt r2 h2
   rw[g1,g2]
   exact Gb _ t1 _ t2
  ·have ez:its.toArray.size=ns.length:=by rw[CS];lia
   rw[ez,qR hl]
   exact ⟨(λz=>nomatch z),⟨.bl _,H,I,rfl,q⟩⟩
 ·have ne:ns≠ms:=λz=>hl (by rw[z])
  rw[decide_eq_false ne] at q
  refine F3 (op :=.NotEq) ⟨_,e1,rfl⟩ ⟨_,e2,rfl⟩ F.slot_list_ne Lx (Ll _ _) (SeqAt.list_ne_lengthsAt a b its.toArray its2.toArray n1 n2 d1 d2 sl1 sl2 (by simp;lia)) ⟨e1,e2,?_⟩ hu1
  exact ⟨(λz=>nomatch z),⟨.bl true,H,I,rfl,q⟩⟩
end
end L2
namespace HT
open PySem PySem.Spec PyProof.Rows
section
variable  {prog:De}{w:DN}{A:D1}{R:Result->CN->Prop}{I:Addr}{fp wr:List Addr}{n:Nat}{P:Nat->CJ->Prop}{St:Nat->Heap->Prop}{kw:List (Str×CJ)}
end
section
variable  {prog:De}{w:DN}{A:D1}{E:CJ->CN->Prop}{s:CN}{l:Addr}{xs:Array (Int×Tok)}
end
end HT
namespace L2
open PySem PyProof.Rows
section
variable  {X:Cx}{x:Str}{id:String}{e:Expr}{es:List Expr}{kws:List Keyword}{p pos:Pos}{t tk:TA}{ks:List Str}{r:List V->List V->Hp->VK->Prop}
end
open PySem PyProof.Rows
section
variable  {X:Cx}
theorem Bp {ns:List Int}{j:Nat}(h:j<ns.length):ns.getD j 0∈ns:=by
 rw[C0,CI h]
 exact GG h
theorem Bq {ns:List Int}{a:Int}(h:a∈ns):∃j,j<ns.length/\ns.getD j 0=a:=by
 obtain ⟨j,hj,e⟩:=GC h
 exact ⟨j,hj,by rw[C0,CI hj];exact e⟩
end
open PySem PyProof.Rows
section
variable  {X:Cx}
def uz (ns ms:List Int)(j:Nat):Bool:=ns.getD j 0 == ms.getD j 0
theorem vS {ns ms:List Int}(h:ns.length=ms.length):((Ei ns.length).all λj=>uz ns ms j)=decide (ns=ms):=by
 rw[Fh,decide_eq_true_iff,F7]
 constructor
 ·intro hh
  refine Lk h λj h1 h2 =>?_
  have:=hh j (Eg.mpr h1)
  unfold uz at this
  rw[C0,C0,CI h1,CI h2] at this
  exact of_decide_eq_true (by simpa using this)
 ·rintro rfl j _
  exact beq_self_eq_true _
theorem vT {ns ms:List Int}:((Ei (min ns.length ms.length)).all (uz ns ms) && ns.length == ms.length)=decide (ns=ms):=by
 by_cases h:ns.length=ms.length
 ·rw[<- h,IP,show (ns.length == ns.length)=true from beq_self_eq_true _,Kv]
  exact vS h
 ·have ne:ns≠ms:=λz=>h (by rw[z])
  rw[decide_eq_false ne,show (ns.length == ms.length)=false from by simpa using h,IW]
theorem xE {ns:List Int}{us:List CJ}(r:Vals (ns.map V.int) us){j:Nat}(h:j<us.toArray.size):∃t,us.toArray[j] = .int (ns.getD j 0) t:=by
 have l:=r.length
 rw[CG] at l
 rw[CS] at h
 have e1:(ns.map V.int)[j]? = some (.int (ns.getD j 0)):=by
  rw[CU,C0,CI (by lia)]
  rfl
 obtain ⟨u,g1,q1⟩:=r.get e1
 have f1:us.toArray[j]=u:=by simp[CP] at g1;obtain ⟨_,g⟩:=g1;simpa using g
 rw[f1]
 exact q1
theorem zI {k:Nat}(hr:dF k X.A):OpR X (EV .Eq) (λx y H Q=>∃(a b:Addr) (ns ms:List Int),x = .ref a/\y = .ref b/\SqT X.K H a (ns.map V.int)/\SqT X.K H b (ms.map V.int)/\Q (.bl (decide (ns=ms))) H):=by
 intro pins s σ H x y v u Q I rx ry h
 obtain ⟨a,b,ns,ms,rfl,rfl,h1,h2,q⟩:=h
 cases (show v=Dd a from rx)
 cases (show u=Dd b from ry)
 obtain ⟨its,r1,p1,_⟩:=I.tuple h1
 obtain ⟨its2,r2,p2,_⟩:=I.tuple h2
 have l1:=r1.length
 have l2:=r2.length
 rw[CG] at l1 l2
 have hu:=hr.un
 have hu1:X.A.units<cLine:=by lia
 have R:=KZ (A:=X.A) (e:=uz ns ms) (show s.heap.IsTuple a its.toArray from p1) (show s.heap.IsTuple b its2.toArray from p2) hu1 (by
  intro j h1 h2
  obtain ⟨t1,g1⟩:=xE r1 h1
  obtain ⟨t2,g2⟩:=xE r2 h2
  rw[g1,g2]
  exact Gb _ t1 _ t2)
 rw[CS,CS, <- l1, <- l2,vT] at R
 exact R _ _ _ _ ⟨.bl _,H,I,rfl,q⟩
end
section
variable  {P:De}{w:DN}{K:CM}{mg:Str->Option CJ}{base:Heap}
end
end L2
namespace L2.Rev
open PySem
open Sem (wp)
section
variable  {prog:De}{w:DN}{A:D1}{E:CJ->CN->Prop}{s:CN}
theorem sT:typeLookup (.type "list_reverseiterator") "__len__" = pure none:=by rw[FK,EI];kernel_rfl
theorem i8:typeLookup (.type "list_reverseiterator") "__length_hint__" = pure (some (.builtin "list_reverseiterator.__length_hint__")):=by rw[FK,EI];kernel_rfl
theorem xF {I l:Addr}{i:Int}{Q:Bool->CN->Prop}(hit:s.heap.IsRevIter I l i)(h:Q false s):Dh (DA prog w) A (Er (.ref I)) Q E s:=by
 unfold Er
 refine CD (E8 hit.typeIs sT ?_)
 wp_delta
 refine CD (E8 hit.typeIs i8 ?_)
 generalize hid:("list_reverseiterator.__length_hint__" : String)=id0
 wp_delta
 rw[show splitId id0=some ("list_reverseiterator", "__length_hint__") from by subst hid;decide +kernel]
 subst hid
 refine CD (FR (T := "list_reverseiterator") (b:=true) hit.typeIs (by rw[Ff];kernel_rfl) ?_)
 refine Ew (λhab=>absurd hab (by decide)) (λ_ =>?_)
 refine Ew (λ_ =>?_) (λhab=>absurd (by decide +kernel) hab)
 refine Ew (λhab=>absurd hab (by decide +kernel)) (λ_ =>?_)
 exact CK h
theorem sU {R:Result->CN->Prop}{I l:Addr}{items:Array CJ}(hh:A.handled=none)(hit:s.heap.IsRevIter I l ((items.size:Int)-1))(hl:s.heap.IsList l items)(hne:l≠I)(hlen:items.size<=2 ^ 24)
  (S:Addr) (hSI:S≠I) (hSl:S≠l) (res:CJ) (c₀:Nat) (hS:s.heap.get? S=some { cls :=.type "list",data :=.seq #[] c₀ })
  (hR:∀h' tk acc' c',(∀b o,b≠S->b≠I->s.heap.get? b=some o->h'.get? b=some o)->h'.get? S=some { cls :=.type "list",dict:=none,data :=.seq acc' c',slots := #[] } →
   ItemsOf (λi v=>items[items.size-1-i]? = some v) acc' items.size->R (.ok (.ret res)) { s with heap:=h',toks:=tk }) :
  Dh (DA prog w) A.in1 (DG (.ref S) (.ref I) res)
   (λfin s'=>match fin with | .done f=>R (.ok f) s' | .again c'=>c'.quiet=true/\He (DA prog w) A c' R s') (λe s'=>R (.error e) s') s:=by
 have hSf:S∉[I,l]:=λhm=>by
  rcases C9.mp hm with e | hm
  ·exact hSI e
  ·exact hSl (CQ.mp hm)
 have W:=(Walks.listRev (prog:=prog) (w:=w) (A:=A.in1) hh I l hne items).toS
 unfold DG
 refine CD (Fs (T := "list_reverseiterator") hit.typeIs ?_)
 have h1:EC (.ref S) (.ref I)=false:=by simp[EC,hSI]
 have h2:(EK "list_reverseiterator" == EK "list")=false:=by decide +kernel
 have h3:(EK "list_reverseiterator" == EK "tuple")=false:=by decide +kernel
 simp only[h1,h2,h3,Jp,Dg,if_false]
 refine CD (wpAny_pyIter_revIter hit ?_)
 refine CD (D5 (xF hit ?_))
 refine Ew (λhab=>absurd hab (by decide +kernel)) (λ_=>CK ⟨Ek F0 _,?_⟩)
 refine Hd W (by rw[FQ];omega) S hSf res items.size 0 _ #[] c₀ rfl (DQ _) ⟨DQ _,by simpa using hit,hl⟩ hS (Kg _) λs' acc' c' hm hS' hacc =>?_
 rw[Kw hm]
 refine hR s'.heap s'.toks acc' c' (λb o hb hbI e=>hm.heap b o (λhmem =>?_) e) hS' hacc
 rcases C9.mp hmem with e' | hmem
 ·exact hb e'
 ·exact hbI (CQ.mp hmem)
theorem xG {R:Result->CN->Prop}{I l:Addr}{items:Array CJ}(hh:A.handled=none)(hit:s.heap.IsRevIter I l ((items.size:Int)-1))(hl:s.heap.IsList l items)(hne:l≠I)(hlen:items.size<=2 ^ 24)
    (S:Addr) (hSI:S≠I) (hSl:S≠l) (hS:s.heap.get? S=some { cls :=.type "list",data :=.seq #[] })
    (hR:∀h' tk acc' c',(∀b o,b≠S->b≠I->s.heap.get? b=some o->h'.get? b=some o)->h'.get? S=some { cls :=.type "list",dict:=none,data :=.seq acc' c',slots := #[] } →
      ItemsOf (λi v=>items[items.size-1-i]? = some v) acc' items.size->R (.ok (.ret .none)) { s with heap:=h',toks:=tk }) :
    Dh (DA prog w) A.in1 (Builtin.«list.__init__» ⟨[.ref S,.ref I],[]⟩)
      (λfin s'=>match fin with | .done f=>R (.ok f) s' | .again c'=>c'.quiet=true/\He (DA prog w) A c' R s') (λe s'=>R (.error e) s') s:=by
  show Dh _ _ (do let old ← Builtin.List.listItems (.ref S);Builtin.List.listUpdate (.ref S) (λ_ => #[]);letGo old.toList.reverse;DG (.ref S) (.ref I) .none) _ _ s
  refine CD ?_
  unfold Builtin.List.listItems
  refine CD (Fe hS rfl (CK ?_))
  show Dh _ _ (updateSeq S (λ_ => #[]) >>= λ_=>letGo (#[]:Array CJ).toList.reverse >>= λ_=>DG (.ref S) (.ref I) .none) _ _ s
  refine CD (EB hS rfl ?_)
  have hS₂:=DI (EL (λ_=>(#[]:Array CJ))) hS rfl
  have oth:∀b o,b≠S->s.heap.get? b=some o->(s.heap.update S (EL (λ_=>(#[]:Array CJ)))).get? b=some o :=
    λb o hb e=>(Dl _ _ (D8 hb)).trans e
  refine CD (GY ?_)
  refine sU hh (hit.at λo e=>oth I o (D8 hSI) e) (hl.at λo e=>oth l o (D8 hSl) e) hne hlen S hSI hSl .none _ hS₂ λh' tk acc' c' hk hS' hacc =>?_
  exact hR h' tk acc' c' (λb o hb hbI e=>hk b o hb hbI (oth b o hb e)) hS' hacc
theorem xH {Q:CJ->CN->Prop}{I l:Addr}{items:Array CJ}(hh:A.handled=none)(hit:s.heap.IsRevIter I l ((items.size:Int)-1))(hl:s.heap.IsList l items)(hne:l≠I)(hlen:items.size<=2 ^ 24)
  (hQ:∀h' tk acc' c',(∀b o,b≠I->s.heap.get? b=some o->h'.get? b=some o) →
   h'.get? s.heap.objs.size=some { cls :=.type "list",dict:=none,data :=.seq acc' c',slots := #[] }->ItemsOf (λi v=>items[items.size-1-i]? = some v) acc' items.size->Q (.ref s.heap.objs.size) { s with heap:=h',toks:=tk }) :
  Dh (DA prog w) A (call (.type "list") [.ref I]) Q E s:=by
 refine callType_codes (Q₁:=λobj s₁=>obj = .ref s.heap.objs.size/\s₁={ s with heap:=s.heap.push { cls :=.type "list",data :=.seq #[] } }) F.called_list (F.typeCall_list_1 _) F.entry_list_init
  (code_list_new _ ⟨rfl,rfl⟩) λobj s₁ h₁ =>?_
 obtain ⟨rfl,rfl⟩:=h₁
 have hS:(s.heap.push { cls :=.type "list",data :=.seq #[] }).get? s.heap.objs.size=some { cls :=.type "list",data :=.seq #[] }:=CZ _ rfl
 obtain ⟨oi,hoi,_⟩:=id hit
 obtain ⟨ol,hol,_⟩:=id hl
 refine ⟨⟨_,hS,rfl⟩,F.args_list_init_2 _ _,xG (A:=A.in1) hh (hit.at λo e=>CH _ e) (hl.at λo e=>CH _ e) hne hlen _ (D8 (Dc (C1 hoi))) (D8 (Dc (C1 hol))) hS λh' tk acc' c' hk hS' hacc =>?_⟩
 exact ⟨rfl,hQ h' tk acc' c' (λb o hbI e=>hk b o (Dc (C1 e)) hbI (CH _ e)) hS' hacc⟩
end
end L2.Rev
namespace L2
open PySem PySem.Spec PyProof.Rows
section
variable  {X:Cx}
theorem gr:Ec "reversed" = some (.type "reversed"):=by decide +kernel
theorem xI:Ec "list" = some (.type "list"):=by decide +kernel
theorem lT:∀{xs:List V} {us:List CJ},Vals xs us->Vals xs.reverse us.reverse
 | [],[],_ =>.nil
 | x :: xs,u :: us,.cons h t=>by
  rw[G6,G6]
  exact (lT t).append (.cons h .nil)
def xJ (K:CM)(te:TE):TE:=λσ H Q=>te σ H λx H1=>∃l xs,x = .ref l/\SqL K H1 l xs/\xs.length<=1000/\∀p,H1 p=none->Q (.ref p) (upd H1 p (.lst xs.reverse))
theorem sV {e:Expr}{te:TE}{p1 p2 pos1 pos2:Pos}(hh:X.A.handled=none)(hg1:Gl X "list")(hm1:X.mg "list" = none)(hg2:Gl X "reversed")(hm2:X.mg "reversed" = none)(he:PE X e te)
  (hs1:D6 [Expr.Call (.Name "reversed" p2) [e] [] pos2] X.env=(false,eval (.Call (.Name "reversed" p2) [e] [] pos2) X.env) :: D6 [] X.env:=by rfl) (hp1:(HA pos1 (D6 [] X.env)).any (·.1)=false:=by rfl)
  (hs2:D6 [e] X.env=(false,eval e X.env) :: D6 [] X.env:=by rfl) (hp2:(HA pos2 (D6 [] X.env)).any (·.1)=false:=by rfl) :
  PE X (.Call (.Name "list" p1) [.Call (.Name "reversed" p2) [e] [] pos2] [] pos1) (xJ X.K te):=by
 intro pins s σ H Q I h
 refine Fn (dD I hg1 hm1 xI ?_ (by decide) (by decide))
 refine Eo ?_ hs1 hp1
 rw[hs1]
 show Dh _ _ (spliced ((false,eval (.Call (.Name "reversed" p2) [e] [] pos2) X.env) :: HA pos1 (D6 [] X.env))) _ _ s
 refine IL ?_
 refine Fn (dD I hg2 hm2 gr ?_ (by decide) (by decide))
 refine Eo (thn ((aa he ah hs2) pos2 pins s σ H (λvs H1=>match vs with | [x]=>∃l xs,x = .ref l/\SqL X.K H1 l xs/\xs.length<=1000/\∀p,H1 p=none->Q (.ref p) (upd H1 p (.lst xs.reverse)) | _=>False) I ?_) λus s1 ⟨vs,H1,I1,r1,q1⟩ =>?_) hs2 hp2
 ·exact h
 ·match vs,q1 with
  | [x],q1 =>
  obtain ⟨l,xs,rfl,hx,h1000,q⟩:=q1
  obtain ⟨u,rfl,ru⟩:=vals1 r1
  cases (show u=Dd l from ru)
  obtain ⟨its,r,hl,hz⟩:=I1.list hx
  have hL:s1.heap.IsList l its.toArray:=hl.isList
  refine call_reversed_list hL ?_
  refine Jb ?_
  have ll:=r.length
  obtain ⟨ol,hol,_⟩:=id hL
  refine Rev.xH hh (I:=s1.heap.objs.size) (l:=l) (items:=its.toArray) ⟨_,CZ _ rfl,rfl,rfl⟩ (hL.at λo e=>CH _ e) (Dc (C1 hol)) (by rw[CS];omega) λh' tk acc' c' k e' it =>?_
  have ea:acc'.toList=its.reverse:=by
   refine Fb λj =>?_
   rw[C3]
   have h1:acc'.size=its.length:=by rw[it.1,CS]
   by_cases hj:j<its.length
   ·obtain ⟨v,hv⟩:∃v,acc'[j]? = some v:=⟨acc'[j]'(by omega),Ds _⟩
    have:=it.2 j v hv
    dsimp only at this
    rw[DR,CS] at this
    rw[hv,JQ hj,this]
   ·rw[Ft (by omega),Dz (by rw[EM];omega)]
  have rv:=lT r
  rw[<- ea] at rv
  have L1:(s1.heap.push (revObj l (((its.toArray).size:Int)-1))).objs.size=s1.heap.objs.size+1:=by
   simp[Heap.push]
  refine ⟨.ref (s1.heap.push (revObj l (((its.toArray).size:Int)-1))).objs.size,_,I1.laid (o :=.lst xs.reverse) (λb u eb=>k b u (Dc (C1 eb)) (CH _ eb)) (by rw[L1];omega) ⟨by rw[EM];exact hz,acc'.toList,c',rv,by simpa using e'⟩,rfl,q _ (I1.hok.fresh (by rw[L1];omega))⟩
end
end L2
namespace L2.Rem
open PySem PySem.SeqAt PySem.MeetsSeq
open AutoSeq1 (wpAny_loadPart')
end L2.Rem
namespace L2
open PySem PySem.Spec PyProof.Rows
section
variable  {X:Cx}
end
open PySem PySem.Spec PyProof.Rows
section
variable  {X:Cx}
end
open PySem PySem.Spec PyProof.Rows
section
variable  {X:Cx}
theorem qS:bK X (.builtin "len") (λxs H Q=>∃(a:Addr) (ys:List V),xs=[.ref a]/\H a=some (eR X.w a ys)/\ys.length<1000/\Q (.int ys.length) H):=by
 intro pins s σ H xs us Q I r h
 obtain ⟨a,ys,rfl,ha,hl,q⟩:=h
 obtain ⟨u,rfl,ru⟩:=vals1 r
 cases (show u=Dd a from ru)
 obtain ⟨⟨es,⟨ep,t,ho,T,_⟩,rv⟩,_⟩:=(show bB X.prog X.w H s.heap a (eR X.w a ys) from I.hok a _ ha)
 have l:=rv.length
 have l2:es.size=ys.length:=by simpa using l.symm
 refine call_len_set ho ⟨rfl,rfl,rfl⟩ rfl (by have:=T.fits;rwa [D7] at this) (by lia) ?_
 rw[l2]
 exact ⟨.int ys.length,H,I.tok _,⟨_,rfl⟩,q⟩
end
open PySem PySem.Spec PyProof.Rows
section
variable  {X:Cx}
end
open PySem PySem.Spec PyProof.Rows
open PySem PySem.Spec PyProof.Rows
theorem fV {ns:List Int}{i:Nat}{x:V}(e:(ns.map V.int)[i]? = some x):∃u,ns[i]? = some u/\x = .int u:=by
 rw[CU] at e
 cases z:ns[i]? with
 | none=>rw[z] at e;cases e
 | some tt=>rw[z] at e;exact ⟨tt,rfl,(Dk e).symm⟩
variable  {X:Cx}
open PySem PySem.Spec PyProof.Rows
section
variable  {X:Cx}
theorem xK {k:Int}:∀{ns:List Int} {m:Nat} (h:m<ns.length),m<ns.idxOf k->ns[m]≠k
 | [],m,h,_=>absurd h (Gs _)
 | n :: ns,0,_,l=>by
  intro z
  have e:(n :: ns)[0]=n:=rfl
  rw[e] at z
  subst z
  simp at l
 | n :: ns,m+1,h,l=>by
  have h':m<ns.length:=Nat.lt_of_succ_lt_succ h
  show ns[m]≠k
  refine xK h' ?_
  by_cases e:n=k
  ·subst e;simp at l
  ·rw[List.idxOf_cons,show (n == k)=false by simpa using e] at l
   simp at l
   exact l
def uA (K:CM):R2:=λx y H Q=>∃a b xs ys,x = .ref a/\y = .ref b/\SqT K H a xs/\SqT K H b ys/\xs.length+ys.length<=C6/\(xs=[]->Q (.ref b) H)/\(ys=[]->Q (.ref a) H)/\(xs≠[]->ys≠[]->∀p,H p=none->Q (.ref p) (upd H p (.tup (xs++ys))))
theorem xM:OpR X (binaryOp .Add) (uA X.K):=by
 intro pins s σ H x y v u Q I rx ry h
 obtain ⟨a,b,xs,ys,rfl,rfl,ha,hb,hz,q1,q2,q3⟩:=h
 by_cases hx:xs=[]
 ·cases rx
  cases ry
  obtain ⟨its,r1,p1,_⟩:=I.tuple ha
  obtain ⟨its2,r2,p2,_⟩:=I.tuple hb
  obtain ⟨⟨c1,d1,da1,s1⟩,o1,k1,n1,g1⟩:=id p1
  obtain ⟨⟨c2,d2,da2,s2⟩,o2,k2,n2,g2⟩:=id p2
  simp only at k1 g1 k2 g2
  subst k1 g1 k2 g2
  have e0:its=[]:=r1.kg.mpr hx
  exact JU ⟨_,o1,rfl⟩ ⟨_,o2,rfl⟩ Jw Kz HK HD (Hq _ _)
   (tuple_addW0 a b its.toArray its2.toArray n1 n2 d1 d2 s1 s2 (by simp[e0])) ⟨o1,o2,⟨.ref b,H,I,rfl,q1 hx⟩⟩
 ·exact yW pins s σ H _ _ v u Q I rx ry ⟨a,b,xs,ys,rfl,rfl,ha,hb,hx,hz,q2,λhy=>q3 hx hy⟩
theorem uA.one {K:CM}{H:Hp}{Q:VK}{a b:Addr}{xs ys:List V}(ha:H a=some (.tup xs))(hb:H b=some (.tup ys))(hz:xs.length+ys.length<=C6)(q:∀p H',aE H H'->H' p=some (.tup (xs++ys))->Q (.ref p) H'):uA K (.ref a) (.ref b) H Q:=by
 refine ⟨a,b,xs,ys,rfl,rfl,SqT.of ha,SqT.of hb,hz,λz =>?_,λz =>?_,λ_ _ p hp=>q p _ (af hp _) ag⟩
 ·subst z;exact q b H (aE.refl _) hb
 ·subst z;exact q a H (aE.refl _) (by rw[DU];exact ha)
end
open PySem PySem.Spec PyProof.Rows
section
variable  {prog:De}{w:DN}{A:D1}{E:CJ->CN->Prop}{s:CN}
end
end L2
namespace Srt
open PySem PyProof.Rows
section
variable  {prog:De}{w:DN}{A:D1}{E:CJ->CN->Prop}{s:CN}
end
end Srt
namespace L2
open PySem PySem.Spec PyProof.Rows
section
variable  {X:Cx}
end
open PySem PySem.Spec PyProof.Rows
open PySem PySem.Spec PyProof.Rows
section
variable  {X:Cx}
end
open PySem PySem.Spec PyProof.Rows
section
variable  {X:Cx}
end
end L2
namespace SDct
open PySem PyProof.Rows Srt
section
variable  {prog:De}{w:DN}{A:D1}{E:CJ->CN->Prop}{s:CN}{T:String}{r d:Addr}{n:Nat}{P:Nat->CJ->Prop}{OK:Heap->Prop}
end
end SDct
namespace L2
open PySem PySem.Spec PyProof.Rows Srt
section
variable  {X:Cx}
end
open PySem PySem.Spec PyProof.Rows
section
variable  {X:Cx}
theorem j2:∀{ks:List Int} {ws:List CJ},ws.length=ks.length->(∀(i:Nat) v,ws[i]? = some v->∃k t,ks[i]? = some k/\v = .int k t)->Vals (ks.map V.int) ws
 | [],[],_,_ =>.nil
 | k :: ks,v :: ws,hl,h=>by
  obtain ⟨k',t,e1,e2⟩:=h 0 v rfl
  cases e1
  exact .cons ⟨t,e2⟩ (j2 (by simpa using hl) λi v hv=>h (i+1) v hv)
theorem sW (hh:X.A.handled=none):bK X (.type "list") (λxs H Q=>∃(a:Addr) (kvs:List (Key×V)) (ks:List Int),xs=[.ref a]/\H a=some (.dK kvs)/\kvs.map (·.1)=ks.map Sum.inl/\∀l,H l=none->Q (.ref l) (upd H l (.lst (ks.map V.int)))):=by
 intro pins s σ H xs us Q I r h
 obtain ⟨a,kvs,ks,rfl,ha,ek,q⟩:=h
 obtain ⟨u,rfl,ru⟩:=vals1 r
 cases (show u=Dd a from ru)
 obtain ⟨z,hd,vs,rel,dd⟩:=uw I.hok ha
 obtain ⟨ep,dd⟩:=dd.dictAt
 have lv:kvs.length=vs.length:=Gy rel
 have keys:vs.map (·.1)=kvs.map (·.1):=pf rel
 have lk:ks.length=vs.length:=by
  have:=congrArg List.length ek
  rw[CG,CG] at this
  lia
 refine W.kdl_call (W.kdl_dict (knd:=bQ X.prog X.w) hd) hh dd (by lia) λh' tk acc' c' kp e' it =>?_
 have sh:Vals (ks.map V.int) acc'.toList:=j2 (by rw[CV,it.1];lia) λi v hv=>by
  rw[C3] at hv
  obtain ⟨k,x,e1,e2⟩:=it.2 i v hv
  have e3:(vs.map (·.1))[i]? = some k:=by rw[CU,e1];rfl
  rw[keys,ek,CU] at e3
  cases hk:ks[i]? with
  | none=>rw[hk] at e3;cases e3
  | some n =>
   rw[hk] at e3
   cases e3
   obtain ⟨t,rfl⟩:=G0 (show Value.isInt n v=true from e2)
   exact ⟨n,t,rfl,rfl⟩
 exact ⟨.ref s.heap.objs.size,_,I.laid (o :=.lst (ks.map V.int)) kp (CO _) ⟨by rw[CG];lia,acc'.toList,c',sh,by simpa using e'⟩,rfl,q _ (I.hok.fresh (CO _))⟩
end
open PySem PySem.Spec PyProof.Rows
section
variable  {X:Cx}
theorem vU:BU X (λo i H Q=>∃(p:Addr) (xs:List V) (k:Nat) (v:V),o = .ref p/\i = .int k/\SqL X.K H p xs/\xs[k]? = some v/\Q v H):=by
 intro pins s σ H o i ov iv Q I ro ri h
 obtain ⟨p,xs,k,v,rfl,rfl,hq,he,q⟩:=h
 cases (show ov=Dd p from ro)
 obtain ⟨t,rfl⟩:=(show ∃t,iv=Ex k t from ri)
 obtain ⟨its,r,pl,hz⟩:=I.list hq
 obtain ⟨w,ew,rw'⟩:=r.get he
 have hk:k<xs.length:=(CP.mp he).1
 have hn:=jz
 exact wpAny_getItem_list pl.isList (by lia) (by lia) (by simpa using ew) ⟨v,H,I,rw',q⟩
def EqS (K:CM)(H:Hp):Nat->V->V->Prop
 | 0,x,y=>(∃i,x = .int i/\y = .int i)\/(∃i,x = .str i/\y = .str i)\/∃a,x = .ref a/\y = .ref a
 | n+1,x,y=>(∃i,x = .int i/\y = .int i)\/(∃i,x = .str i/\y = .str i)\/(∃a,x = .ref a/\y = .ref a)\/∃a b xs ys,x = .ref a/\y = .ref b/\((SqT K H a xs/\SqT K H b ys)\/(SqL K H a xs/\SqL K H b ys))/\Paired (EqS K H n) xs ys
theorem jG {K:CM}{H:Hp}{n:Nat}{s:CN}{A:D1}{xs ys:List V}{us vs:List CJ}(p:Paired (EqS K H n) xs ys)(r1:Vals xs us)(r2:Vals ys vs)
  (ih:∀x y u v,EqS K H n x y->RelV x u->RelV y v->G8 A s u v true):∀j (h1:j<us.toArray.size) (h2:j<vs.toArray.size),G8 A s us.toArray[j] vs.toArray[j] true:=λj h1 h2=>by
 rw[CS] at h1 h2
 have l1:=r1.length
 have l2:=r2.length
 have e1:xs[j]? = some xs[j]:=CI (by omega)
 have e2:ys[j]? = some ys[j]:=CI (by omega)
 obtain ⟨u,g1,q1⟩:=r1.get e1
 obtain ⟨v,g2,q2⟩:=r2.get e2
 have f1:us.toArray[j]=u:=by simp[CP] at g1;obtain ⟨_,g⟩:=g1;simpa using g
 have f2:vs.toArray[j]=v:=by simp[CP] at g2;obtain ⟨_,g⟩:=g2;simpa using g
 rw[f1,f2]
 exact ih _ _ u v (nE p e1 e2) q1 q2
theorem i9 {A:D1}{s:CN}{x y:V}{u v:CJ}(h:(∃i,x = .int i/\y = .int i)\/(∃i,x = .str i/\y = .str i)\/∃a,x = .ref a/\y = .ref a)(ru:RelV x u)(rv:RelV y v):G8 A s u v true:=by
 rcases h with ⟨i,rfl,rfl⟩ | ⟨i,rfl,rfl⟩ | ⟨a,rfl,rfl⟩
 ·obtain ⟨t,rfl⟩:=(show ∃t,u=Ex i t from ru)
  obtain ⟨t',rfl⟩:=(show ∃t,v=Ex i t from rv)
  have:=Gb (A:=A) (s:=s) i t i t'
  rw[beq_self_eq_true] at this
  exact this
 ·obtain ⟨t,rfl⟩:=(show ∃t,u=Value.str i t from ru)
  obtain ⟨t',rfl⟩:=(show ∃t,v=Value.str i t from rv)
  have:=Kq (A:=A) (s:=s) i t i t'
  rw[show (i == i)=true by simp] at this
  exact this
 ·cases (show u=Dd a from ru)
  cases (show v=Dd a from rv)
  exact JG _
theorem xN {pins:List (Addr×Obj)}{σ:St}{H:Hp}{s:CN}(I:Inv X pins σ H s):∀(n:Nat) (A:D1) (x y:V) (u v:CJ),A.units+n<cLine->EqS X.K H n x y->RelV x u->RelV y v->G8 A s u v true
 | 0,A,x,y,u,v,_,h,ru,rv=>i9 h ru rv
 | n+1,A,x,y,u,v,hA,h,ru,rv=>by
  rcases h with h | h | h | ⟨a,b,xs,ys,rfl,rfl,hs,p⟩
  ·exact i9 (.inl h) ru rv
  ·exact i9 (.inr (.inl h)) ru rv
  ·exact i9 (.inr (.inr h)) ru rv
  ·cases (show u=Dd a from ru)
   cases (show v=Dd b from rv)
   by_cases hab:a=b
   ·subst hab;exact JG _
   refine SeqAt.EqAt.of_refs hab ?_
   have ih:∀x y u v,EqS X.K H n x y->RelV x u->RelV y v->G8 A.in1 s u v true:=λx y u v h1 h2 h3=>xN I n A.in1 x y u v (by show A.units+1+n<cLine;lia) h1 h2 h3
   have pl:=Gy p
   rcases hs with ⟨h1,h2⟩ | ⟨h1,h2⟩
   ·obtain ⟨its,r1,p1,_⟩:=I.tuple h1
    obtain ⟨its2,r2,p2,_⟩:=I.tuple h2
    have q:=KZ (e:=λ_=>true) (show s.heap.IsTuple a its.toArray from p1) (show s.heap.IsTuple b its2.toArray from p2) (by lia) (jG p r1 r2 ih)
    have ez:its.toArray.size=its2.toArray.size:=by rw[CS,CS, <- r1.length, <- r2.length,pl]
    rw[all_true,ez,beq_self_eq_true] at q
    exact q
   ·obtain ⟨its,r1,p1,_⟩:=I.list h1
    obtain ⟨its2,r2,p2,_⟩:=I.list h2
    have q:=SeqAt.RcAt.lists (e:=λ_=>true) p1.isList p2.isList (by rw[CS,CS, <- r1.length, <- r2.length,pl]) (by lia) (jG p r1 r2 ih)
    rw[all_true] at q
    exact q
theorem uB {k:Nat}(hr:dF k X.A):OpR X (EV .NotEq) (λx y H Q=>∃a b xs ys,x = .ref a/\y = .ref b/\SqT X.K H a xs/\SqT X.K H b ys/\Paired (EqS X.K H 20) xs ys/\Q (.bl false) H):=by
 intro pins s σ H x y v u Q I rx ry h
 obtain ⟨a,b,xs,ys,rfl,rfl,h1,h2,p,q⟩:=h
 cases (show v=Dd a from rx)
 cases (show u=Dd b from ry)
 obtain ⟨its,r1,p1,_⟩:=I.tuple h1
 obtain ⟨its2,r2,p2,_⟩:=I.tuple h2
 have l1:=r1.length
 have l2:=r2.length
 have pl:=Gy p
 have hu:=hr.un
 have hu1:X.A.units<cLine:=by lia
 have R:=SeqAt.RcNeAt.tuples (A:=X.A) (e:=λ_=>true) (show s.heap.IsTuple a its.toArray from p1) (show s.heap.IsTuple b its2.toArray from p2) hu1 (jG p r1 r2 λx y u v h1 h2 h3=>xN I 20 _ x y u v (by show X.A.units+1+_<cLine;lia) h1 h2 h3)
 rw[CS,CS, <- l1, <- l2,pl,IP,beq_self_eq_true,all_true] at R
 exact R _ _ _ _ ⟨.bl false,H,I,rfl,q⟩
end
end L2
namespace L2.RvT
open PySem PyProof.Rows
open Sem (wp)
theorem jH:Manifest.owners.lookup (String.ofList ['d', 'e', 's', 'r', 'e', 'v', 'e', 'r'].reverse)=some Manifest.sig_reversed:=by kernel_rfl
theorem slot_next:Slot "reversed" "__next__" "reversed.__next__" :=
 .of (owner := "reversed") (n := "__next__") (by rw[FK,EI];kernel_rfl) (by decide +kernel) (by decide +kernel) (by decide +kernel)
  (by first | exact .inl (by decide +kernel) | exact .inr (by decide +kernel)) (by rw[Ff];kernel_rfl)
theorem entry_next:entryFor table "reversed.__next__" = some Builtin.«reversed.__next__» := Jy (by kernel_rfl)
theorem args_next (a:CJ):argsOk "reversed.__next__" ⟨[a],[]⟩:=by
 unfold argsOk;rw[KI (id := "reversed.__next__") (n:=['_', '_', 't', 'x', 'e', 'n', '_', '_']) (o:=['d', 'e', 's', 'r', 'e', 'v', 'e', 'r']) (by kernel_rfl) jH];kernel_rfl
theorem oj:Slot "reversed" "__iter__" "reversed.__iter__" :=
 .of (owner := "reversed") (n := "__iter__") (by rw[FK,EI];kernel_rfl) (by decide +kernel) (by decide +kernel) (by decide +kernel)
  (by first | exact .inl (by decide +kernel) | exact .inr (by decide +kernel)) (by rw[Ff];kernel_rfl)
theorem vV (a:CJ):argsOk "reversed.__iter__" ⟨[a],[]⟩:=by
 unfold argsOk;rw[KI (id := "reversed.__iter__") (n:=['_', '_', 'r', 'e', 't', 'i', '_', '_']) (o:=['d', 'e', 's', 'r', 'e', 'v', 'e', 'r']) (by kernel_rfl) jH];kernel_rfl
theorem sZ:entryFor table "reversed.__iter__" = some Builtin.«dict_keyiterator.__iter__» :=
 entryFor_alias (id' := "dict_keyiterator.__iter__") (by kernel_rfl) (by first | rfl | decide +kernel | (unfold String.splitOn;simp +decide [String.splitOnAux])) (by decide +kernel) (by kernel_rfl)
theorem Br:typeLookup (.type "tuple") "__reversed__" = pure none:=by rw[FK,EI];kernel_rfl
theorem sT:typeLookup (.type "reversed") "__len__" = pure none:=by rw[FK,EI];kernel_rfl
theorem i8:typeLookup (.type "reversed") "__length_hint__" = pure (some (.builtin "reversed.__length_hint__")):=by rw[FK,EI];kernel_rfl
theorem sub_self:isSubtype (.type "reversed") (.type "reversed")=pure true:=by rw[Ff];kernel_rfl
theorem xO:isSubtype (.type "tuple") (.type "dict")=pure false:=by rw[Ff];kernel_rfl
theorem vW:Slot "reversed" "__init__" "object.__init__" :=
 .of (owner := "object") (n := "__init__") (by rw[FK,EI];kernel_rfl) (by decide +kernel) (by decide +kernel) (by decide +kernel)
  (by first | exact .inl (by decide +kernel) | exact .inr (by decide +kernel)) (by rw[Ff];kernel_rfl)
theorem called:TypeCalled "reversed" "reversed.__new__" "object.__init__" :=
 ⟨by decide +kernel,by decide +kernel,⟨_,_,J3⟩,madeBy_type J3 PySem.F.lookup_reversed_new (by decide +kernel),by decide +kernel,by rw[Ff];kernel_rfl,vW⟩
def rvO (t:Addr)(i:Int):Obj:={ cls :=.type "reversed",data :=.fields #[.ref t,GZ i] }
def hW (h:Heap)(a t:Addr)(i:Int):Prop:=∃o,h.get? a=some o/\o.cls = .type "reversed" /\ o.data = .fields #[.ref t,GZ i]
section
variable  {prog:De}{w:DN}{A:D1}{E:CJ->CN->Prop}{s:CN}
theorem hW.typeIs {a t:Addr}{i:Int}(x:hW s.heap a t i):s.TypeIs (.ref a) "reversed" := let ⟨o,ho,hc,_⟩:=x;⟨o,ho,hc⟩
theorem hW.at {h h':Heap}{a t:Addr}{i:Int}(x:hW h a t i)(e:∀o,h.get? a=some o->h'.get? a=some o):hW h' a t i:=let ⟨o,ho,r⟩:=x;⟨o,e _ ho,r⟩
theorem qT {h h':Heap}{a:Addr}{its:Array CJ}(x:IsTup h a its)(e:∀o,h.get? a=some o->h'.get? a=some o):IsTup h' a its:=let ⟨o,ho,r⟩:=x;⟨o,e _ ho,r⟩
theorem vX (t:Addr)(its:Array CJ)(hz:(its.size:Int)<2 ^ 63) :
  Meets (Builtin.«reversed.__new__» ⟨[.type "reversed",.ref t],[]⟩) (λ_ R s=>IsTup s.heap t its/\R (.ok (.ret (.ref s.heap.objs.size))) { s with heap:=s.heap.push (rvO t ((its.size:Int)-1)),toks:=s.toks+1+1 }) :=
 .of_wp λprog w A R s h=>by
  obtain ⟨ht,h⟩:=h
  unfold Builtin.«reversed.__new__»
  refine CD (E3 (newClass_reversed _) ?_)
  try dsimp only
  refine CD (E3 (a:=()) (by first | rfl | kernel_rfl) ?_)
  refine CD (E3 (a:=()) (by first | rfl | kernel_rfl) ?_)
  try dsimp only
  refine CD (E8 ht.typeIs Br ?_)
  try dsimp only
  refine CD ?_
  show Dh _ _ (isInstance (.ref t) (.type "dict") >>= _) _ _ s
  refine CD (FR (T := "tuple") (b:=false) ht.typeIs xO ?_)
  refine Ew (λhab=>absurd hab (by decide)) (λ_ =>?_)
  refine CD (E8 ht.typeIs Ed.lookup ?_)
  refine Ew (λ_=>CK ?_) (λhab=>absurd (by decide +kernel) hab)
  refine Ew (λhab=>absurd hab (by decide)) (λ_ =>?_)
  refine CD (LD ht hz ?_)
  refine CD (E3 (a:=some (its.size:Int)) rfl ?_)
  refine CD ?_
  show Dh _ _ (newObj (.type "reversed") (.fields #[.ref t,GZ ((its.size:Int)-1)])) _ _ _
  exact DM (CK ⟨_,rfl,h⟩)
theorem xP {t:Addr}{its:Array CJ}{Q:CJ->CN->Prop}(ht:IsTup s.heap t its)(hz:(its.size:Int)<2 ^ 63)
  (h:Q (.ref s.heap.objs.size) { s with heap:=s.heap.push (rvO t ((its.size:Int)-1)),toks:=s.toks+1+1 }):Dh (DA prog w) A (call (.type "reversed") [.ref t]) Q E s:=by
 refine K7 called (by decide) (PySem.F.typeCall_reversed_1 _) (PySem.F.newCall_reversed_1 _) (λobj=>IJ obj _) PySem.F.entry_reversed_new (vX t its hz) ⟨ht,?_⟩
 exact ⟨⟨_,CZ _ rfl,rfl⟩,h⟩
theorem next_item {I t:Addr}{i:Nat}{its:Array CJ}{x:CJ}{Q:Option CJ->CN->Prop}(hit:hW s.heap I t (i:Int))(ht:IsTup s.heap t its)(hx:its[i]? = some x)(hi:(i:Int)<2 ^ 63)
  (hQ:∀h' tk,hW h' I t ((i:Int)-1)->Heap.SameBut I s.heap h'->Q (some x) { s with heap:=h',toks:=tk }):Dh (DA prog w) A (pyNext (.ref I)) Q E s:=by
 obtain ⟨o,ho,hc,hd⟩:=id hit
 unfold pyNext
 refine CD (GF (EN (name:=Str.ofString "__next__") hit.typeIs slot_next (Em slot_next hit.typeIs entry_next ?_ (args_next _))))
 unfold Builtin.«reversed.__next__»
 refine CD (E3 (a:=(Dd I,[])) rfl ?_)
 try dsimp only
 refine CD (Fo ho hd (x :=.ref t) rfl ?_)
 refine CD (Fo ho hd (x:=GZ (i:Int)) rfl ?_)
 show Dh _ _ (if (i:Int)<0 then _ else _) _ _ s
 rw[if_neg (by lia)]
 show Dh _ _ (specialOf (.ref t) "__getitem__" >>= _) _ _ s
 refine CD (E8 ht.typeIs Ed.lookup ?_)
 refine Ew (λhab=>absurd hab (by decide)) (λ_ =>?_)
 refine CD (LH ?_)
 refine CD (GF ?_)
 refine PyProof.Rows.getItem_tuple (j:=i) ht (by lia) hi (Ki (by lia) (by have:=(E1.mp hx).1;lia)) hx ?_
 refine CD (Fo ho hd (x:=GZ (i:Int)) rfl ?_)
 show Dh _ _ (setField (.ref I) 1 (GZ ((i:Int)-1)) >>= λ_=>ret x) _ _ _
 refine CD (HW ho hd (by simp) ?_)
 refine CK ⟨x,rfl,CK (hQ _ _ ?_ (Hn ..))⟩
 exact ⟨_,DI _ ho (HY (Gd hd _)),(KQ ..).trans hc,by rw[Gd hd];simp⟩
theorem next_end {I t:Addr}{Q:Option CJ->CN->Prop}(hh:A.handled=none)(hit:hW s.heap I t (-1))
  (hQ:∀h',Heap.ExtBut I s.heap h'->Q none { s with heap:=h' }):Dh (DA prog w) A (pyNext (.ref I)) Q E s:=by
 obtain ⟨o,ho,hc,hd⟩:=id hit
 unfold pyNext
 refine CD (GF (EN (name:=Str.ofString "__next__") hit.typeIs slot_next (Em slot_next hit.typeIs entry_next ?_ (args_next _))))
 unfold Builtin.«reversed.__next__»
 refine CD (E3 (a:=(Dd I,[])) rfl ?_)
 try dsimp only
 refine CD (Fo ho hd (x :=.ref t) rfl ?_)
 refine CD (Fo ho hd (x:=GZ (-1)) rfl ?_)
 show Dh _ _ (if (-1:Int)<0 then _ else _) _ _ s
 rw[if_pos (by decide)]
 refine CD (FE ?_)
 refine CD ?_
 show Dh _ _ (setField (.ref I) 1 (GZ (-1)) >>= λ_=>setField (.ref I) 0 .none) _ _ s
 refine CD (HW ho hd (by simp) ?_)
 have h1:=DI (Obj.mapFields λfs=>fs.setIfInBounds 1 (GZ (-1))) ho (HY (Gd hd _))
 refine HW h1 (Gd hd _) (by simp) ?_
 refine CD ?_
 show Dh _ _ (newExc (.type "StopIteration") [] >>= _) _ _ _
 refine CD ?_
 simp only[newExc,newTuple]
 refine CD (DM ?_ (by size_fits))
 refine CD (m:=firstArgMember _ _) (E3 (a:=EW) (by first | rfl | (simp only[firstArgMember];rfl)) ?_)
 refine DM ?_ (by size_fits)
 simp only[raiseNew]
 refine CD (KC ?_)
 first | rw[show A.in1.handled=none from hh] | rw[hh]
 refine CD (CK (LF ?_))
 refine CD (FR (T := "StopIteration") (b:=true) ⟨_,CZ _ rfl,rfl⟩ J8 ?_)
 refine CK (hQ _ ?_)
 refine Lm (Lm (λb o hb eo =>?_) _) _
 exact (Dl _ _ (D8 hb)).trans ((Dl _ _ (D8 hb)).trans eo)
theorem uC {I t:Addr}{i:Int}{Q:CJ->CN->Prop}(hit:hW s.heap I t i)(h:Q (.ref I) s):Dh (DA prog w) A (pyIter (.ref I)) Q E s:=by
 refine HS hit.typeIs oj (Em oj hit.typeIs sZ ?_ (vV _))
 show Dh _ _ (ret (.ref I)) _ _ s
 exact CK ⟨_,rfl, "reversed",_,hit.typeIs,slot_next.lookup,h⟩
theorem om:Slot "reversed" "__length_hint__" "reversed.__length_hint__" :=
 .of (owner := "reversed") (n := "__length_hint__") i8 (by decide +kernel) (by decide +kernel) (by decide +kernel)
  (by first | exact .inl (by decide +kernel) | exact .inr (by decide +kernel)) sub_self
theorem tf:entryFor table "reversed.__length_hint__" = some Builtin.«reversed.__length_hint__» := Jy (by kernel_rfl)
theorem vY (a:CJ):argsOk "reversed.__length_hint__" ⟨[a],[]⟩:=by
 unfold argsOk;rw[KI (id := "reversed.__length_hint__") (n:=['_', '_', 't', 'n', 'i', 'h', '_', 'h', 't', 'g', 'n', 'e', 'l', '_', '_']) (o:=['d', 'e', 's', 'r', 'e', 'v', 'e', 'r']) (by kernel_rfl) jH];kernel_rfl
theorem vZ {I t:Addr}{its:Array CJ}{Q:CJ->CN->Prop}(hit:hW s.heap I t ((its.size:Int)-1))(ht:IsTup s.heap t its)(hz:(its.size:Int)<2 ^ 63)
  (h:∀u tk,Q (.int its.size u) { s with toks:=tk }):Dh (DA prog w) A (call (.builtin "reversed.__length_hint__") [.ref I]) Q E s:=by
 obtain ⟨o,ho,hc,hd⟩:=id hit
 refine Em om hit.typeIs tf ?_ (vY _)
 unfold Builtin.«reversed.__length_hint__»
 refine CD (E3 (a:=Dd I) rfl ?_)
 refine CD (Fo ho hd (x :=.ref t) rfl ?_)
 refine Ew (λhab=>absurd hab (show ¬ (false=true) from C8)) (λ_ =>?_)
 refine CD (LD ht hz ?_)
 refine CD (E3 (a:=some (its.size:Int)) rfl ?_)
 refine CD (Fo ho hd (x:=GZ ((its.size:Int)-1)) rfl ?_)
 show Dh _ _ (if (its.size:Int)<((its.size:Int)-1)+1 then _ else retInt (((its.size:Int)-1)+1)) _ _ _
 rw[if_neg (by lia),show ((its.size:Int)-1)+1=its.size by lia]
 exact CD (LH (CK ⟨_,rfl,h _ _⟩))
theorem zJ {I t:Addr}{its:Array CJ}{Q:Bool->CN->Prop}(hit:hW s.heap I t ((its.size:Int)-1))(ht:IsTup s.heap t its)(hz:its.size<=2 ^ 24)(h:∀b tk,Q b { s with toks:=tk }):Dh (DA prog w) A (Er (.ref I)) Q E s:=by
 unfold Er
 refine CD (E8 hit.typeIs sT ?_)
 wp_delta
 refine CD (E8 hit.typeIs i8 ?_)
 generalize hid:("reversed.__length_hint__" : String)=id0
 wp_delta
 rw[show splitId id0=some ("reversed", "__length_hint__") from by subst hid;decide +kernel]
 subst hid
 refine CD (FR (T := "reversed") (b:=true) hit.typeIs sub_self ?_)
 refine Ew (λhab=>absurd hab (by decide)) (λ_ =>?_)
 refine Ew (λhab=>absurd hab (by decide +kernel)) (λ_ =>?_)
 refine CD (FE ?_)
 refine CD (E3 (om.bind _) ?_)
 refine CD (GF (vZ hit ht (by lia) λu tk =>?_))
 show Dh _ A (asInt? (.int (its.size:Int) u) >>= _) Q E _
 have ea:asInt? (Ex (its.size:Int) u)=pure (some (its.size:Int)):=rfl
 rw[ea,pure_bind]
 generalize hn:(its.size:Int)=n
 dsimp only
 refine Ew (λhab=>absurd hab ?_) (λ_ =>?_)
 ·unfold Builtin.List.listFitsIndex;simp;lia
 refine Ew (λhab=>absurd hab (by lia)) (λ_ =>?_)
 refine Ew (λhab=>absurd hab ?_) (λ_ =>?_)
 ·rw[L2.kU (by rw[FQ];lia)];exact C8
 exact CK (h _ _)
end
theorem walk {prog:De}{w:DN}{A:D1}(hh:A.handled=none)(I t:Addr)(hne:t≠I)(its:Array CJ)(hz:(its.size:Int)<2 ^ 63) :
  Walks prog w A I [I,t] [I] its.size (λi v=>its[its.size-1-i]? = some v) (λi h=>i<=its.size/\hW h I t ((its.size:Int)-1-(i:Int))/\IsTup h t its) where
 sub:=λb hb=>by simp at hb;simp[hb]
 frame:=λ_ _ _ x hk=>⟨x.1,x.2.1.at λo e=>hk I (by simp) o e,qT x.2.2 λo e=>hk t (by simp) o e⟩
 item:=λi s Q E hi x hQ=>by
  have e:(its.size:Int)-1-(i:Int)=((its.size-1-i:Nat):Int):=by omega
  have hit:=x.2.1
  rw[e] at hit
  have hx:its[its.size-1-i]? = some (its[its.size-1-i]'(by omega)):=Ds (by omega)
  refine next_item hit x.2.2 hx (by omega) λh' tk hit' hs' =>?_
  have e2:((its.size-1-i:Nat):Int)-1=(its.size:Int)-1-((i+1:Nat):Int):=by omega
  rw[e2] at hit'
  exact hQ _ h' tk hx ⟨hi,hit',qT x.2.2 λo eo=>(hs'.2 t hne).trans eo⟩ λb o hb eo=>hs'.extBut b o (λh=>hb (by simp[h])) eo
 done:=λs Q E x hQ=>by
  have e:(its.size:Int)-1-(its.size:Int) = -1:=by omega
  have hit:=x.2.1
  rw[e] at hit
  exact next_end hh hit λh' he'=>hQ h' s.toks λb o hb eo=>he' b o (λh=>hb (by simp[h])) eo
 self:=λ_ _ _ _ x hQ=>uC x.2.1 hQ
section
variable  {prog:De}{w:DN}{A:D1}{E:CJ->CN->Prop}{s:CN}
theorem v3 {R:Result->CN->Prop}{I t:Addr}{items:Array CJ}(hh:A.handled=none)(hit:hW s.heap I t ((items.size:Int)-1))(hl:IsTup s.heap t items)(hne:t≠I)(hlen:items.size<=2 ^ 24)
  (S:Addr) (hSI:S≠I) (hSl:S≠t) (res:CJ) (c₀:Nat) (hS:s.heap.get? S=some { cls :=.type "list",data :=.seq #[] c₀ })
  (hR:∀h' tk acc' c',(∀b o,b≠S->b≠I->s.heap.get? b=some o->h'.get? b=some o)->h'.get? S=some { cls :=.type "list",dict:=none,data :=.seq acc' c',slots := #[] } →
   ItemsOf (λi v=>items[items.size-1-i]? = some v) acc' items.size->R (.ok (.ret res)) { s with heap:=h',toks:=tk }) :
  Dh (DA prog w) A.in1 (DG (.ref S) (.ref I) res)
   (λfin s'=>match fin with | .done f=>R (.ok f) s' | .again c'=>c'.quiet=true/\He (DA prog w) A c' R s') (λe s'=>R (.error e) s') s:=by
 have hSf:S∉[I,t]:=λhm=>by
  rcases C9.mp hm with e | hm
  ·exact hSI e
  ·exact hSl (CQ.mp hm)
 have W:=(walk (prog:=prog) (w:=w) (A:=A.in1) hh I t hne items (by omega)).toS
 unfold DG
 refine CD (Fs (T := "reversed") hit.typeIs ?_)
 have h1:EC (.ref S) (.ref I)=false:=by simp[EC,hSI]
 have h2:(EK "reversed" == EK "list")=false:=by decide +kernel
 have h3:(EK "reversed" == EK "tuple")=false:=by decide +kernel
 simp only[h1,h2,h3,Jp,Dg,if_false]
 refine CD (uC hit ?_)
 refine CD (D5 (zJ hit hl hlen λb tk =>?_))
 refine Ew (λ_ =>?_) (λ_=>CK ⟨Ek I0 _,?_⟩)
 ·refine CD (FE ?_)
  refine CD ?_
  show Dh _ A.in1 (updateSeq S (·.push .none) >>= λ_=>updateSeq S (·.pop)) _ _ _
  refine CD (EB hS rfl ?_)
  have hS₂:=DI (EL (·.push EW)) hS rfl
  refine EB (hz:=by seq_fits) hS₂ rfl ?_
  have hS₃:=DI (EL (·.pop)) hS₂ rfl
  have oth:∀b o,b≠S->s.heap.get? b=some o->((s.heap.update S (EL (·.push EW))).update S (EL (·.pop))).get? b=some o :=
   λb o hb e=>(Dl _ _ (D8 hb)).trans ((Dl _ _ (D8 hb)).trans e)
  refine CK ⟨Ek I0 _,Hd W (by rw[FQ];omega) S hSf res items.size 0 _ _ _ rfl (DQ _) ⟨DQ _,by simpa using hit.at λo e=>oth I o (D8 hSI) e,qT hl λo e=>oth t o (D8 hSl) e⟩ hS₃ (Kg _) λs' acc' c' hm hS' hacc =>?_⟩
  rw[Kw hm]
  refine hR s'.heap s'.toks acc' c' (λb o hb hbI e=>hm.heap b o (λhmem =>?_) (oth b o hb e)) hS' hacc
  rcases C9.mp hmem with e' | hmem
  ·exact hb e'
  ·exact hbI (CQ.mp hmem)
 refine Hd W (by rw[FQ];omega) S hSf res items.size 0 _ #[] c₀ rfl (DQ _) ⟨DQ _,by simpa using hit,hl⟩ hS (Kg _) λs' acc' c' hm hS' hacc =>?_
 rw[Kw hm]
 refine hR s'.heap s'.toks acc' c' (λb o hb hbI e=>hm.heap b o (λhmem =>?_) e) hS' hacc
 rcases C9.mp hmem with e' | hmem
 ·exact hb e'
 ·exact hbI (CQ.mp hmem)
theorem tj {R:List CJ->CN->Prop}{I t:Addr}{items:Array CJ}(hh:A.handled=none)(hit:hW s.heap I t ((items.size:Int)-1))(hl:IsTup s.heap t items)(hne:t≠I)(hlen:items.size<=2 ^ 24)
    (h:∀(h1:Heap) (tk:Nat) (vs:List CJ),vs=items.toList.reverse->(∀b o,b≠I->s.heap.get? b=some o->h1.get? b=some o)->R vs { s with heap:=h1,toks:=tk }) :
    Dh (DA prog w) A (collect (.ref I)) R E s:=by
  obtain ⟨oi,hoi,_⟩:=id hit
  obtain ⟨ol,hol,_⟩:=id hl
  unfold collect
  refine CD (Hj (D3 PySem.F.entry_proto_collect ?_))
  rw[DP PySem.F.plain_proto_collect _]
  show Dh _ A.in1 (newList [] >>= λl=>again (.builtin "list.__iadd__" ⟨[l,.ref I],[]⟩)) _ _ s
  refine CD (DM ?_)
  refine CK ⟨Ek Jq _,D3 PySem.F.entry_list_iadd ?_⟩
  rw[DP Jq _]
  show Dh _ A.in1 (DG (.ref s.heap.objs.size) (.ref I) (.ref s.heap.objs.size)) _ _ { s with heap:=s.heap.push { cls :=.type "list",data :=.seq ([]:List CJ).toArray } }
  have hS0:(s.heap.push { cls :=.type "list",data :=.seq ([]:List CJ).toArray }).get? s.heap.objs.size=some { cls :=.type "list",data :=.seq #[] 0 }:=CZ _ rfl
  refine v3 (A:=A) (R:=λres s'=>match res with
      | .ok (.ret v)=>Dh (DA prog w) A (match v with | .ref a=>(do match (← load a).data with | .seq xs _=>pure xs.toList | _=>unsupported "internal:collect") | _=>unsupported "internal:collect") R E s'
      | .ok _=>False
      | .error e=>E e s') (s:={ s with heap:=s.heap.push { cls :=.type "list",data :=.seq ([]:List CJ).toArray } }) hh (hit.at λo e=>CH _ e) (qT hl λo e=>CH _ e) hne hlen s.heap.objs.size (D8 (Dc (C1 hoi))) (D8 (Dc (C1 hol))) (.ref s.heap.objs.size) 0 hS0 λh' tk acc' c' kk hS' it =>?_
  show Dh _ A (load s.heap.objs.size >>= _) _ _ { s with heap:=h',toks:=tk }
  refine CD (JZ hS' ?_)
  refine CK (h h' tk acc'.toList ?_ λb o hb e=>kk b o (Dc (C1 e)) hb (CH _ e))
  refine Fb λj =>?_
  rw[C3]
  have h1:acc'.size=items.toList.length:=it.1
  by_cases hj:j<items.toList.length
  · obtain ⟨v,hv⟩:∃v,acc'[j]? = some v:=⟨acc'[j]'(by lia),Ds _⟩
    have:=it.2 j v hv
    dsimp only at this
    rw[<- C3] at this
    rw[hv,JQ hj, <- this]
    rfl
  · rw[Ft (by lia),Dz (by rw[EM];lia)]
theorem j8 (I t:Addr)(items:Array CJ)(hne:t≠I)(hn:items.size<=1000) :
  Meets (Builtin.«tuple.__new__» ⟨[.type "tuple",.ref I],[]⟩)
   (λA R s=>A.handled=none/\hW s.heap I t ((items.size:Int)-1)/\IsTup s.heap t items/\∀(h':Heap) (tk:Nat),(∀b o',b≠I->s.heap.get? b=some o'->h'.get? b=some o')->R (.ok (.ret (.ref h'.objs.size))) { s with heap:=h'.push { cls :=.type "tuple",data :=.seq items.toList.reverse.toArray },toks:=tk }) :=
 .of_wp λprog w A R s h=>by
  obtain ⟨hp,g,d,tk,os⟩:=s;obtain ⟨hh,hr,ht,h⟩:=h
  have hsub:=sub_tuple_self
  have hinit:=init_tuple_lookup
  have hmh:=madeHere_tuple
  have hT:Shared.TypeIs ⟨hp,g,d,tk,os⟩ (.ref I) "reversed" := hW.typeIs (s:=⟨hp,g,d,tk,os⟩) hr
  wp_walk using Fs hT,tj (by simpa using hh) hr ht hne (by lia)
  rintro h' tk' vs rfl hk
  show Dh _ _ (Builtin.Tuple.tupleExact items.toList.reverse.toArray >>= λv=>ret v) _ _ _
  unfold Builtin.Tuple.tupleExact
  refine CD (DM ?_ (by show items.toList.reverse.toArray.size<=C6;rw[CS,EM,CV];exact small hn))
  exact CK ⟨_,rfl,h h' tk' hk⟩
end
end L2.RvT
namespace L2
open PySem PySem.Spec PyProof.Rows
section
variable  {X:Cx}
theorem v5:Ec "tuple" = some (.type "tuple"):=by decide +kernel
def zK (K:CM)(te:TE):TE:=λσ H Q=>te σ H λx H1=>∃l xs,x = .ref l/\SqT K H1 l xs/\xs.length<=1000/\∀p,H1 p=none->Q (.ref p) (upd H1 p (.tup xs.reverse))
theorem v7 {e:Expr}{te:TE}{p1 p2 pos1 pos2:Pos}(hh:X.A.handled=none)(hg1:Gl X "tuple")(hm1:X.mg "tuple" = none)(hg2:Gl X "reversed")(hm2:X.mg "reversed" = none)(he:PE X e te)
  (hs1:D6 [Expr.Call (.Name "reversed" p2) [e] [] pos2] X.env=(false,eval (.Call (.Name "reversed" p2) [e] [] pos2) X.env) :: D6 [] X.env:=by rfl) (hp1:(HA pos1 (D6 [] X.env)).any (·.1)=false:=by rfl)
  (hs2:D6 [e] X.env=(false,eval e X.env) :: D6 [] X.env:=by rfl) (hp2:(HA pos2 (D6 [] X.env)).any (·.1)=false:=by rfl) :
  PE X (.Call (.Name "tuple" p1) [.Call (.Name "reversed" p2) [e] [] pos2] [] pos1) (zK X.K te):=by
 intro pins s σ H Q I h
 refine Fn (dD I hg1 hm1 v5 ?_ (by decide) (by decide))
 refine Eo ?_ hs1 hp1
 rw[hs1]
 show Dh _ _ (spliced ((false,eval (.Call (.Name "reversed" p2) [e] [] pos2) X.env) :: HA pos1 (D6 [] X.env))) _ _ s
 refine IL ?_
 refine Fn (dD I hg2 hm2 gr ?_ (by decide) (by decide))
 refine Eo (thn ((aa he ah hs2) pos2 pins s σ H (λvs H1=>match vs with | [x]=>∃l xs,x = .ref l/\SqT X.K H1 l xs/\xs.length<=1000/\∀p,H1 p=none->Q (.ref p) (upd H1 p (.tup xs.reverse)) | _=>False) I ?_) λus s1 ⟨vs,H1,I1,r1,q1⟩ =>?_) hs2 hp2
 ·exact h
 ·match vs,q1 with
  | [x],q1 =>
  obtain ⟨t,xs,rfl,hx,h1000,q⟩:=q1
  obtain ⟨u,rfl,ru⟩:=vals1 r1
  cases (show u=Dd t from ru)
  obtain ⟨its,r,ht,hz⟩:=I1.tuple hx
  have ll:=r.length
  have lz:its.toArray.size=xs.length:=by rw[CS];exact ll.symm
  refine RvT.xP ht (by rw[lz];omega) ?_
  refine Jb ?_
  obtain ⟨ot,hot,_⟩:=id ht
  refine K7 PySem.F.called_tuple (by decide) (PySem.F.typeCall_tuple_1 _) (PySem.F.newCall_tuple_1 _) (λobj=>IJ obj _) PySem.F.entry_tuple_new
   (RvT.j8 s1.heap.objs.size t its.toArray (Dc (C1 hot)) (by rw[lz];exact h1000)) ⟨by simpa using hh,⟨_,CZ _ rfl,rfl,rfl⟩,RvT.qT ht (λo e=>CH _ e),λh' tk k=>⟨⟨_,CZ _ rfl,rfl⟩,?_⟩⟩
  have I2:Inv X pins σ H1 { s1 with heap:=h',toks:=tk }:=I1.kept λb o e=>k b o (Dc (C1 e)) (CH _ e)
  exact ⟨.ref h'.objs.size,_,I2.laid (o :=.tup xs.reverse) (λb ob q=>CH _ q) (CO _) ⟨by rw[EM];exact small h1000,its.reverse,lT r,eM.new _ _⟩,rfl,q _ (I2.hok.fresh (CO _))⟩
theorem zL {k:Nat}(hr:dF k X.A):OpR X (EV .Eq) (λx y H Q=>∃(a b:Addr) (ns ms:List Int),x = .ref a/\y = .ref b/\SqL X.K H a (ns.map V.int)/\SqL X.K H b (ms.map V.int)/\Q (.bl (decide (ns=ms))) H):=by
 intro pins s σ H x y v u Q I rx ry h
 obtain ⟨a,b,ns,ms,rfl,rfl,h1,h2,q⟩:=h
 cases (show v=Dd a from rx)
 cases (show u=Dd b from ry)
 obtain ⟨its,r1,⟨⟨c1,d1,da1,sl1⟩,n1,e1,k1,_,k3⟩,_⟩:=I.list h1
 obtain ⟨its2,r2,⟨⟨c2,d2,da2,sl2⟩,n2,e2,g1,_,g3⟩,_⟩:=I.list h2
 simp only at k1 k3 g1 g3
 subst k1 k3 g1 g3
 have l1:=r1.length
 have l2:=r2.length
 rw[CG] at l1 l2
 have hu:=hr.un
 have hu1:X.A.units<cLine:=by lia
 by_cases hl:ns.length=ms.length
 ·refine F3 (op :=.Eq) ⟨_,e1,rfl⟩ ⟨_,e2,rfl⟩ F.slot_list_eq Ly (Ln _ _) (SeqAt.list_eqAt a b its.toArray its2.toArray n1 n2 d1 d2 sl1 sl2 (by rw[CS,CS];lia) (zF ns ms)) ⟨e1,e2,?_,?_⟩ hu1
  ·intro j h1 h2
   obtain ⟨t1,g1⟩:=intAt r1 h1
   obtain ⟨t2,g2⟩:=intAt r2 h2
   rw[g1,g2]
   exact Gb _ t1 _ t2
  ·have ez:its.toArray.size=ns.length:=by rw[CS];lia
   rw[ez,qR hl]
   exact ⟨(λz=>nomatch z),⟨.bl _,H,I,rfl,q⟩⟩
 ·have ne:ns≠ms:=λz=>hl (by rw[z])
  rw[decide_eq_false ne] at q
  refine F3 (op :=.Eq) ⟨_,e1,rfl⟩ ⟨_,e2,rfl⟩ F.slot_list_eq Ly (Ln _ _) (SeqAt.list_eq_lengthsAt a b its.toArray its2.toArray n1 n2 d1 d2 sl1 sl2 (by simp;lia)) ⟨e1,e2,?_⟩ hu1
  exact ⟨(λz=>nomatch z),⟨.bl false,H,I,rfl,q⟩⟩
theorem gQ:SlR X (λx lo hi H Q=>∃a xs,x = .ref a/\H a=some (.tup xs)/\∀p2 H2,aE H H2->H2 p2=some (.tup (fX xs lo hi))->Q (.ref p2) H2):=by
 intro pins s σ H x v vl vu lo hi sl Q I rx hs pl pu h
 obtain ⟨a,xs,rfl,ep,key⟩:=h
 refine zz pins s σ H _ v vl vu lo hi sl Q I rx hs pl pu ⟨a,xs,rfl,SqT.of ep,λz=>key a H (aE.refl _) ?_,λ_ p2 hp2=>key p2 _ (af hp2 _) ag⟩
 unfold fX
 rw[z.1,z.2,HV,JJ,Lo]
 exact ep
theorem qU:OpR X (binaryOp .Add) (λx y H Q=>∃a b xs ys,x = .ref a/\y = .ref b/\H a=some (.tup xs)/\H b=some (.tup ys)/\xs.length+ys.length<=C6/\∀p H',aE H H'->H' p=some (.tup (xs++ys))->Q (.ref p) H'):=by
 intro pins s σ H x y v u Q I rx ry h
 obtain ⟨a,b,xs,ys,rfl,rfl,ha,hb,hz,q⟩:=h
 exact xM pins s σ H _ _ v u Q I rx ry (uA.one ha hb hz q)
end
end L2
namespace L2.MnT
open PySem PyProof.Rows
section
variable  {prog:De}{w:DN}{A:D1}{E:CJ->CN->Prop}{I:Addr}{fp wr:List Addr}{n:Nat}{P:Nat->CJ->Prop}{St:Nat->Heap->Prop}
def Cmp (prog:De)(w:DN)(A:D1)(P:Nat->CJ->Prop)(St:Nat->Heap->Prop)(bt:Nat->Nat->Bool):Prop :=
 ∀k i j x y (s:CN) (Q E:CJ->CN->Prop),St k s.heap->P i x->P j y->Q (.bool (bt i j)) s->Dh (DA prog w) A (richCompare .Lt x y) Q E s
abbrev Bag (S:Addr)(xs:Array CJ)(c:Nat)(h:Heap):Prop:=h.get? S=some { cls :=.type "list",dict:=none,data :=.seq xs c,slots := #[] }
abbrev Kept (wr:List Addr)(S:Addr)(h h':Heap):Prop:=∀b o,b∉wr->b≠S->h.get? b=some o->h'.get? b=some o
theorem loop {R:Result->CN->Prop}(W:Walks prog w A.in1 I fp wr n P St){bt:Nat->Nat->Bool}(C:Cmp prog w A.in1 P St bt){S:Addr}(nS:S∉fp):∀(d j:Nat) (s:CN) (best:CJ) (c:Nat),n=j+1+d->St (j+1) s.heap->P (argBest bt j) best->Bag S #[best,best] c s.heap →
  (∀v h' tk,P (argBest bt (n-1)) v->Kept wr S s.heap h'->R (.ok (.ret v)) { s with heap:=h',toks:=tk })->He (DA prog w) A (.builtin "min.loop" ⟨[.ref I,.none,.ref S],[]⟩) R s:=by
 have nw:S∉wr:=λh=>nS (W.sub _ h)
 have nm:(toString "min" ++ toString ".loop" : String) = "min.loop" := by decide
 intro d
 induction d with
 | zero =>
  intro j s best c hn st pb bg hR
  have e:j+1=n:=by lia
  rw[e] at st
  refine D3 Fv ?_
  rw[DP DS _]
  show Dh _ _ (seqItems? (.ref S) >>= _) _ _ s
  refine CD (Fe bg rfl ?_)
  show Dh _ _ (tryCatch (pyNext (.ref I)) _ >>= _) _ _ s
  refine CD (Fg (W.done s _ _ st λh1 tk kp =>?_))
  show Dh _ _ (updateSeq S (λ_ => #[]) >>= _) _ _ _
  refine CD ?_
  refine EB (kp S _ nw bg) rfl (CD (GY (CK (hR best _ tk (by rw[<- e];exact pb) ?_))))
  exact λb o nb ns eb=>(Dl _ _ (D8 ns)).trans (kp b o nb eb)
 | succ d ih =>
  intro j s best c hn st pb bg hR
  refine D3 Fv ?_
  rw[DP DS _]
  show Dh _ _ (seqItems? (.ref S) >>= _) _ _ s
  refine CD (Fe bg rfl ?_)
  show Dh _ _ (tryCatch (pyNext (.ref I)) _ >>= _) _ _ s
  refine CD (Fg (W.item (j+1) s _ _ (by lia) st λv h1 tk pv st1 kp =>?_))
  have bg1:=kp S _ nw bg
  show Dh _ _ (tryCatch (HU [v,v] (richCompare .Lt v best >>= _)) _ >>= _) _ _ _
  refine CD (Fg (D5 (CD (C (j+1+1) (j+1) (argBest bt j) v best _ _ _ st1 pv pb ?_))))
  refine CD (D5 (ES ?_))
  refine CD (GY (CK ?_))
  by_cases hb:bt (j+1) (argBest bt j)=true
  ·have ea:argBest bt (j+1)=j+1:=by simp only[argBest,hb,if_true]
   rw[hb]
   simp only[if_true]
   refine CD ?_
   refine EB bg1 rfl (CD (GY ?_))
   rw[nm]
   refine CK ⟨Ek DS _,ih (j+1) _ v _ (by lia) (W.frame _ _ _ st1 λb fb o eb =>?_) (by rw[ea];exact pv) (DI _ bg1 rfl) λv2 h2 tk2 p2 k2=>hR v2 h2 tk2 p2 λb o nb ns eb=>k2 b o nb ns ?_⟩
   ·exact (Dl _ _ (λz:S=b=>nS (z ▸ fb))).trans eb
   ·exact (Dl _ _ (D8 ns)).trans (kp b o nb eb)
  ·have ea:argBest bt (j+1)=argBest bt j:=by simp only[argBest,hb];rfl
   rw[G4.mpr hb]
   simp only[Dg,if_false]
   refine CD (GY ?_)
   rw[nm]
   exact CK ⟨Ek DS _,ih (j+1) _ best c (by lia) st1 (by rw[ea];exact pb) bg1 λv2 h2 tk2 p2 k2=>hR v2 h2 tk2 p2 λb o nb ns eb=>k2 b o nb ns (kp b o nb eb)⟩
theorem first {R:Result->CN->Prop}(W:Walks prog w A.in1 I fp wr n P St){bt:Nat->Nat->Bool}(C:Cmp prog w A.in1 P St bt){S:Addr}(nS:S∉fp)(hn:0<n){s:CN}{c:Nat}(st:St 0 s.heap)(bg:Bag S #[] c s.heap)
  (hR:∀v h' tk,P (argBest bt (n-1)) v->Kept wr S s.heap h'->R (.ok (.ret v)) { s with heap:=h',toks:=tk }):He (DA prog w) A (.builtin "min.loop" ⟨[.ref I,.none,.ref S],[]⟩) R s:=by
 have nw:S∉wr:=λh=>nS (W.sub _ h)
 have nm:(toString "min" ++ toString ".loop" : String) = "min.loop" := by decide
 refine D3 Fv ?_
 rw[DP DS _]
 show Dh _ _ (seqItems? (.ref S) >>= _) _ _ s
 refine CD (Fe bg rfl ?_)
 show Dh _ _ (tryCatch (pyNext (.ref I)) _ >>= _) _ _ s
 refine CD (Fg (W.item 0 s _ _ hn st λv h1 tk pv st1 kp =>?_))
 have bg1:=kp S _ nw bg
 show Dh _ _ (updateSeq S (λ_ => #[v,v]) >>= _) _ _ _
 refine CD ?_
 refine EB bg1 rfl ?_
 rw[nm]
 refine CK ⟨Ek DS _,loop W C nS (n-1) 0 _ v _ (by lia) (W.frame _ _ _ st1 λb fb o eb =>?_) pv (DI _ bg1 rfl) λv2 h2 tk2 p2 k2=>hR v2 h2 tk2 p2 λb o nb ns eb=>k2 b o nb ns ?_⟩
 ·exact (Dl _ _ (λz:S=b=>nS (z ▸ fb))).trans eb
 ·exact (Dl _ _ (D8 ns)).trans (kp b o nb eb)
def Goes (prog:De)(w:DN)(A:D1)(Q:CJ->CN->Prop)(it:CJ)(s:CN):Prop:=∃I fp wr n P St bt,it = .ref I/\Walks prog w A.in1 I fp wr n P St/\St 0 s.heap/\(∀b∈fp,b<s.heap.objs.size)/\0<n/\Cmp prog w A.in1 P St bt ∧
 ∀v h' tk,P (argBest bt (n-1)) v->(∀b o,b∉wr->s.heap.get? b=some o->h'.get? b=some o)->Q v { s with heap:=h',toks:=tk }
theorem Cn {s:CN}{x:CJ}{Q:CJ->CN->Prop}(h:Dh (DA prog w) A.in1 (pyIter x) (Goes prog w A Q) E s):Dh (DA prog w) A (call (.builtin "min") [x]) Q E s:=by
 have nm:(toString "min" ++ toString ".loop" : String) = "min.loop" := by decide
 refine KJ Ju Jh Ji (PySem.F.args_min1 _) ?_
 show Dh _ _ (Builtin.Builtins.bindParams "min" ["key", "default"] 0 ⟨[],[]⟩ >>= _) _ _ s
 refine CD (E3 (a:=[none,none]) rfl ?_)
 refine CD (CK ?_)
 refine CD (FD h (λit s2 g =>?_) λ_ _ e=>e)
 obtain ⟨I,fp,wr,n,P,St,bt,rfl,W,st,hf,hn,C,hq⟩:=g
 refine CD (DM ?_)
 rw[nm]
 refine CK ⟨Ek DS _,first W C (S:=s2.heap.objs.size) (λhm=>D4 _ (hf _ hm)) hn (W.frame _ _ _ st λb _ o e=>CH _ e) (CZ _ rfl) λv h' tk pv kp =>?_⟩
 exact hq v h' tk pv λb o nb e=>kp b o nb (Dc (C1 e)) (CH _ e)
theorem call2 {s:CN}{a b:CJ}{Q:CJ->CN->Prop}(h:Dh (DA prog w) A.in1 (pyIter (.ref s.heap.objs.size)) (Goes prog w A Q) E { s with heap:=s.heap.push { cls :=.type "tuple",data :=.seq #[a,b] } }):Dh (DA prog w) A (call (.builtin "min") [a,b]) Q E s:=by
 have nm:(toString "min" ++ toString ".loop" : String) = "min.loop" := by decide
 refine KJ Ju Jh Ji (PySem.F.args_min2 _ _) ?_
 show Dh _ _ (Builtin.Builtins.bindParams "min" ["key", "default"] 0 ⟨[],[]⟩ >>= _) _ _ s
 refine CD (E3 (a:=[none,none]) rfl ?_)
 show Dh _ _ (newTuple [a,b] >>= _) _ _ s
 refine CD (DM ?_)
 refine CD (FD h (λit s2 g =>?_) λ_ _ e=>e)
 obtain ⟨I,fp,wr,n,P,St,bt,rfl,W,st,hf,hn,C,hq⟩:=g
 refine CD (DM ?_)
 rw[nm]
 refine CK ⟨Ek DS _,first W C (S:=s2.heap.objs.size) (λhm=>D4 _ (hf _ hm)) hn (W.frame _ _ _ st λb _ o e=>CH _ e) (CZ _ rfl) λv h' tk pv kp =>?_⟩
 exact hq v h' tk pv λb o nb e=>kp b o nb (Dc (C1 e)) (CH _ e)
def TI (h:Heap)(t:Addr×List Int):Prop:=∃its:Array CJ,IsTup h t.1 its/\FF its.toList t.2
theorem TI.at {h h':Heap}{t:Addr×List Int}(x:TI h t)(e:∀o,h.get? t.1=some o->h'.get? t.1=some o):TI h' t:=let ⟨its,⟨o,ho,r⟩,y⟩:=x;⟨its,⟨o,e o ho,r⟩,y⟩
theorem more (W:Walks prog w A I fp wr n P St)(ts:List (Addr×List Int))(nw:∀t∈ts,t.1∉wr):Walks prog w A I (fp++ts.map (·.1)) wr n P (λi h=>St i h/\∀t∈ts,TI h t) where
 sub:=λb hb=>CW.mpr (.inl (W.sub b hb))
 frame:=λi h h' x hk=>⟨W.frame i h h' x.1 λb hb o e=>hk b (CW.mpr (.inl hb)) o e,λt ht=>(x.2 t ht).at (hk t.1 (CW.mpr (.inr (Ep (f:=(·.1)) ht))))⟩
 item:=λi s Q E hi x hQ=>W.item i s Q E hi x.1 λv h' tk pv st' kp=>hQ v h' tk pv ⟨st',λt ht=>(x.2 t ht).at λo=>kp t.1 o (nw t ht)⟩ kp
 done:=λs Q E x hQ=>W.done s Q E x.1 hQ
 self:=λi s Q E x hQ=>W.self i s Q E x.1 hQ
theorem cmp (ts:List (Addr×List Int))(hu:A.units<cLine)(hP:∀i v,P i v->∃t,ts[i]? = some t/\v = .ref t.1):Cmp prog w A P (λi h=>St i h/\∀t∈ts,TI h t) (λi j=>HT.lexLt (ts.getD i (0,[])).2 (ts.getD j (0,[])).2):=by
 intro k i j x y s Q E st hx hy h
 obtain ⟨t,et,rfl⟩:=hP i x hx
 obtain ⟨u,eu,rfl⟩:=hP j y hy
 obtain ⟨i1,p1,a1⟩:=st.2 t (CT et)
 obtain ⟨i2,p2,a2⟩:=st.2 u (CT eu)
 dsimp only at h
 rw[C0,C0,et,eu] at h
 exact HT.sd p1 p2 a1 a2 hu h
theorem best (g:Nat->List Int):∀k,(argBest (λi j=>HT.lexLt (g i) (g j)) k<=k)/\∀j,j<=k->HT.lexLt (g j) (g (argBest (λi j=>HT.lexLt (g i) (g j)) k))=false
 | 0=>⟨CO _,λj hj=>by rw[Lz.mp hj];exact Srt.lex_irrefl _⟩
 | k+1=>by
  obtain ⟨l,ih⟩:=best g k
  by_cases hb:HT.lexLt (g (k+1)) (g (argBest (λi j=>HT.lexLt (g i) (g j)) k))=true
  ·have ea:argBest (λi j=>HT.lexLt (g i) (g j)) (k+1)=k+1:=by simp only[argBest,hb,if_true]
   rw[ea]
   refine ⟨CO _,λj hj =>?_⟩
   by_cases e:j=k+1
   ·rw[e];exact Srt.lex_irrefl _
   ·refine G4.mpr λz =>?_
    have:=ih j (by lia)
    rw[Srt.lex_trans _ _ _ z hb] at this
    cases this
  ·have ea:argBest (λi j=>HT.lexLt (g i) (g j)) (k+1)=argBest (λi j=>HT.lexLt (g i) (g j)) k:=by simp only[argBest,hb];rfl
   rw[ea]
   refine ⟨by lia,λj hj =>?_⟩
   by_cases e:j=k+1
   ·rw[e];exact G4.mpr hb
   ·exact ih j (by lia)
end
end L2.MnT
namespace L2
open PySem PySem.Spec PyProof.Rows
section
variable  {X:Cx}
theorem tm (hc:X.calm=true)(hu:X.A.units+8<cLine):bK X (.builtin "min") (λxs H Q=>∃(p:Addr) (ts:List (Addr×List Int)),xs=[.ref p]/\SqL X.K H p (ts.map λt =>.ref t.1)/\(∀t∈ts,SqT X.K H t.1 (t.2.map V.int))/\ts≠[]/\∀t∈ts,(∀u∈ts,HT.lexLt u.2 t.2=false)->Q (.ref t.1) H):=by
 intro pins s σ H xs us Q I r h
 obtain ⟨p,ts,rfl,hS,hT,hne,q⟩:=h
 obtain ⟨u,rfl,ru⟩:=vals1 r
 cases (show u=Dd p from ru)
 obtain ⟨its,r1,p1,_⟩:=I.list hS
 have hl:s.heap.IsList p its.toArray:=p1.isList
 have ll:=r1.length
 rw[CG] at ll
 have hp:0<ts.length:=FA.mpr hne
 have TIs:∀t∈ts,MnT.TI s.heap t:=λt ht=>by
  obtain ⟨i2,r2,p2,_⟩:=I.tuple (hT t ht)
  exact ⟨_,p2,intsAre_of r2⟩
 have hlt:∀t∈ts,t.1<s.heap.objs.size:=λt ht=>by
  obtain ⟨_,⟨o,ho,_⟩,_⟩:=TIs t ht
  exact C1 ho
 have hpl:p<s.heap.objs.size:=by obtain ⟨_,e,_⟩:=hl;exact C1 e
 have at_:∀(i:Nat) (v:CJ),its.toArray[i]? = some v->∃t:Addr×List Int,ts[i]? = some t/\v=Dd t.1:=λi v hv=>by
  rw[DR] at hv
  have hi:i<ts.length:=by rw[ll];exact (CP.mp hv).1
  have e1:(ts.map λt=>V.ref t.1)[i]? = some (.ref ts[i].1):=by rw[CU,CI hi];rfl
  obtain ⟨w',ew,rw'⟩:=r1.get e1
  rw[ew] at hv
  exact ⟨ts[i],CI hi,(Dk hv).symm.trans rw'⟩
 refine MnT.Cn (Gw hl ?_)
 refine ⟨s.heap.objs.size,_,_,its.toArray.size,_,_,_,rfl,MnT.more (KP (A:=X.A.in1) (I.ok.hd hc) s.heap.objs.size p (Dc hpl) its.toArray) ts (λt ht hm =>?_),⟨⟨⟨_,CZ _ rfl,rfl,rfl⟩,hl.push _⟩,λt ht=>(TIs t ht).at λo e=>CH _ e⟩,λb hb =>?_,by rw[CS];lia,MnT.cmp ts ?_ at_,λv h' tk pv kp =>?_⟩
 ·have:=hlt t ht
  rw[CQ.mp hm] at this
  exact D4 _ this
 ·show b<(s.heap.push _).objs.size
  rw[ED]
  rcases CW.mp hb with hb | hb
  ·rcases C9.mp hb with rfl | hb
   ·exact Et _
   ·rw[CQ.mp hb];exact DW hpl
  ·obtain ⟨t,ht,rfl⟩:=Du.mp hb
   exact DW (hlt t ht)
 ·show X.A.units+_<cLine
  lia
 ·obtain ⟨t,et,rfl⟩:=at_ _ v pv
  obtain ⟨b1,b2⟩:=MnT.best (λi=>(ts.getD i (0,[])).2) (its.toArray.size-1)
  have kept:∀b o,s.heap.get? b=some o->h'.get? b=some o:=λb o e=>kp b o (λhm=>by
   have:=C1 e
   rw[CQ.mp hm] at this
   exact D4 _ this) (CH _ e)
  refine ⟨.ref t.1,H,I.kept kept,rfl,q t (CT et) λu hu' =>?_⟩
  obtain ⟨j,hj,eu⟩:=GC hu'
  have:=b2 j (by rw[CS];lia)
  rw[C0,C0,et,CI hj,eu] at this
  exact this
theorem tq (hc:X.calm=true)(hu:X.A.units+8<cLine):bK X (.builtin "min") (λxs H Q=>∃(a b:Addr) (ns ms:List Int),xs=[.ref a,.ref b]/\SqT X.K H a (ns.map V.int)/\SqT X.K H b (ms.map V.int)/\(HT.lexLt ms ns=true->Q (.ref b) H)/\(HT.lexLt ms ns=false->Q (.ref a) H)):=by
 intro pins s σ H xs us Q I r h
 obtain ⟨a,b,ns,ms,rfl,ha,hb,q1,q2⟩:=h
 obtain ⟨u,v,rfl,ru,rv⟩:=vals2 r
 cases (show u=Dd a from ru)
 cases (show v=Dd b from rv)
 have TIs:∀t∈[(a,ns),(b,ms)],MnT.TI s.heap t:=λt ht=>by
  rcases C9.mp ht with rfl | ht
  ·obtain ⟨i2,r2,p2,_⟩:=I.tuple ha
   exact ⟨_,p2,intsAre_of r2⟩
  ·rw[CQ.mp ht]
   obtain ⟨i2,r2,p2,_⟩:=I.tuple hb
   exact ⟨_,p2,intsAre_of r2⟩
 have hlt:∀t∈[(a,ns),(b,ms)],t.1<s.heap.objs.size:=λt ht=>by
  obtain ⟨_,⟨o,ho,_⟩,_⟩:=TIs t ht
  exact C1 ho
 have hT:(s.heap.push { cls :=.type "tuple",data :=.seq #[.ref a,.ref b] }).IsTuple s.heap.objs.size #[.ref a,.ref b]:=⟨_,CZ _ rfl,rfl,0,rfl⟩
 have hz:(s.heap.push { cls :=.type "tuple",data :=.seq #[.ref a,.ref b] }).objs.size=s.heap.objs.size+1:=ED ..
 have at_:∀(i:Nat) (v:CJ),(#[.ref a,.ref b]:Array CJ)[i]? = some v->∃t:Addr×List Int,[(a,ns),(b,ms)][i]? = some t/\v=Dd t.1:=λi v hv=>by
  match i,hv with
  | 0,hv=>exact ⟨_,rfl,(Dk hv).symm⟩
  | 1,hv=>exact ⟨_,rfl,(Dk hv).symm⟩
  | i+2,hv=>simp at hv
 refine MnT.call2 (Fm hT ?_)
 refine ⟨_,_,_,_,_,_,_,rfl,MnT.more (Jo (A:=X.A.in1) (I.ok.hd hc) _ s.heap.objs.size (by rw[hz];exact Dc (Et _)) #[.ref a,.ref b]) [(a,ns),(b,ms)] (λt ht hm =>?_),⟨⟨⟨_,CZ _ rfl,rfl,rfl⟩,hT.push _⟩,λt ht=>(TIs t ht).at λo e=>CH _ (CH _ e)⟩,λc hc' =>?_,Nat.zero_lt_two,MnT.cmp [(a,ns),(b,ms)] ?_ at_,λv h' tk pv kp =>?_⟩
 ·have:=hlt t ht
  rw[CQ.mp hm,hz] at this
  exact D4 _ (Fz this)
 ·show c<((s.heap.push _).push _).objs.size
  rw[ED,hz]
  rcases CW.mp hc' with hc' | hc'
  ·rcases C9.mp hc' with rfl | hc'
   ·rw[hz];exact Et _
   ·rw[CQ.mp hc'];exact DW (Et _)
  ·obtain ⟨t,ht,rfl⟩:=Du.mp hc'
   exact DW (DW (hlt t ht))
 ·show X.A.units+_<cLine
  lia
 ·have kept:∀b o,s.heap.get? b=some o->h'.get? b=some o:=λb o e=>kp b o (λhm=>by
   have:=C1 e
   rw[CQ.mp hm,hz] at this
   exact D4 _ (Fz this)) (CH _ (CH _ e))
  by_cases z:HT.lexLt ms ns=true
  ·have e:argBest (λi j=>HT.lexLt ([(a,ns),(b,ms)].getD i (0,[])).2 ([(a,ns),(b,ms)].getD j (0,[])).2) 1=1:=by
    show (if HT.lexLt ms ns=true then 1 else 0)=1
    rw[if_pos z]
   rw[show (#[Dd a,Dd b]:Array CJ).size-1=1 from rfl,e] at pv
   have pv:=(Dk pv).symm
   exact ⟨.ref b,H,I.kept kept,pv,q1 z⟩
  ·have e:argBest (λi j=>HT.lexLt ([(a,ns),(b,ms)].getD i (0,[])).2 ([(a,ns),(b,ms)].getD j (0,[])).2) 1=0:=by
    show (if HT.lexLt ms ns=true then 1 else 0)=0
    rw[if_neg z]
   rw[show (#[Dd a,Dd b]:Array CJ).size-1=1 from rfl,e] at pv
   have pv:=(Dk pv).symm
   exact ⟨.ref a,H,I.kept kept,pv,q2 (G4.mpr z)⟩
end
open PySem PySem.Spec PyProof.Rows
section
variable  {X:Cx}
theorem tD (hc:X.calm=true):bK X (.builtin "min") (λxs H Q=>∃(a:Addr) (ns:List Int),xs=[.ref a]/\SqT X.K H a (ns.map V.int)/\ns≠[]/\∀M:Int,M∈ns->(∀b∈ns,M<=b)->Q (.int M) H):=by
 intro pins s σ H xs us Q I r h
 obtain ⟨a,ns,rfl,hS,hne,q⟩:=h
 obtain ⟨u,rfl,ru⟩:=vals1 r
 cases (show u=Dd a from ru)
 obtain ⟨its,r1,p1,_⟩:=I.tuple hS
 obtain ⟨ps,e2,e3⟩:=gk (intsAre_of r1)
 have ei:its.toArray=FO ps.toArray:=by rw[e2];simp[FO]
 have hT:s.heap.IsTuple a (FO ps.toArray):=by
  obtain ⟨o,ho,hc',n,hd⟩:=p1
  exact ⟨o,ho,hc',n,by rw[<- ei];exact hd⟩
 have hz:ps.toArray.size=ns.length:=by rw[CS, <- e3,CG]
 have hp:0<ns.length:=FA.mpr hne
 have ht:ps.toArray.toList.map (·.1)=ns:=e3
 have hal:a<s.heap.objs.size:=by obtain ⟨o,ho,_⟩:=p1;exact C1 ho
 refine call_min_walk (Fm hT ?_)
 refine ⟨_,[_,a],[_],_,_,_,_,rfl,Jo (A:=X.A.in1) (I.ok.hd hc) _ a (Dc hal) (FO ps.toArray),⟨⟨_,CZ _ rfl,rfl,rfl⟩,hT.push _⟩,λc hc' =>?_,by simp only[FO,D7];lia,LY (numAt ps.toArray) (λ_ _=>Kl),λv h' tk hv hk =>?_⟩
 ·show c<(s.heap.push _).objs.size
  rw[ED]
  rcases C9.mp hc' with rfl | hc'
  ·exact Et _
  ·rw[CQ.mp hc'];exact DW hal
 ·have k:∀b o,s.heap.get? b=some o->h'.get? b=some o:=λb o e=>hk b o (λhm=>by
   have:=C1 e
   rw[CQ.mp hm] at this
   exact D4 _ this) (CH _ e)
  have hsz:(FO ps.toArray).size=ns.length:=by simp only[FO,D7];exact hz
  rw[hsz] at hv
  obtain ⟨t,rfl⟩:=Kl hv
  obtain ⟨h1,h2⟩:=argBest_lt (numAt ps.toArray) (ns.length-1)
  refine ⟨.int _,H,I.kept k,⟨_,rfl⟩,q _ ?_ λb hb =>?_⟩
  ·rw[L0,ht];exact Bp (by lia)
  ·obtain ⟨j,hj,rfl⟩:=Bq hb
   have:=h2 j (by lia)
   rw[L0,L0,ht] at this
   rw[L0,ht]
   exact this
end
open PySem PySem.Spec PyProof.Rows SeqAt
theorem mW (l:Addr)(items:Array CJ)(n:Nat)(dd:Option Addr)(sl:Array (Option CJ))(x:CJ)(e:CJ->Bool)(j:Nat)(hj:j<items.size)(hit:e items[j]=true)(hno:∀m (hm:m<items.size),m<j->e items[m]=false) :
  Meets (Builtin.«tuple.index» ⟨[.ref l,x],[]⟩)
   (λA R s=>s.heap.get? l=some { cls :=.type "tuple",dict:=dd,data :=.seq items n,slots:=sl }/\(∀y,y∈items->EqAt A.in1 s y x (e y))/\R (.ok (.ret (.int j s.toks))) { s with toks:=s.toks+1 }) :=
 .of_wp λprog w A R s h=>by
  obtain ⟨hl,he,h⟩:=h
  unfold Builtin.«tuple.index»
  refine CD (E3 (a:=(Dd l,[x])) rfl ?_)
  refine CD (PyProof.Rows.tupleItemsOf_ (⟨_,hl,rfl,_,rfl⟩:IsTup s.heap l items) ?_)
  dsimp only
  refine CD (CK (CD (CK ?_)))
  rw[IP,JY]
  refine CD (Hl _ (λrest b s'=>s'=s/\b=(none,())/\∃i,rest=List.range' i (items.size-i)/\i<=j) _ ?_ ?_ _ _ ⟨rfl,rfl,0,?_,DQ _⟩)
  ·rintro k rest b s' ⟨rfl,rfl,i,er,hi⟩
   rw[show items.size-i=(items.size-(i+1))+1 by lia,Jt] at er
   injection er with e1 e2
   subst e1
   have hk:k<items.size:=by lia
   rw[Ds hk]
   refine CD (he _ (KU hk) prog w _ _ ?_)
   by_cases z:k=j
   ·subst z
    rw[hit]
    refine CD (CD (LH (CK (CK ?_))))
    exact CK ⟨_,rfl,h⟩
   ·rw[hno k hk (by lia)]
    exact CK ⟨rfl,rfl,k+1,e2,by lia⟩
  ·rintro b s' ⟨rfl,rfl,i,er,hi⟩
   rw[show items.size-i=(items.size-(i+1))+1 by lia,Jt] at er
   cases er
  ·simp[Std.Legacy.Range.size]
section
variable  {X:Cx}
theorem v8:MtR X "tuple.index" (λx vs H Q=>∃(p:Addr) (ns:List Int) (k:Int),x = .ref p/\vs=[.int k]/\H p=some (.tup (ns.map V.int))/\k∈ns/\Q (.int (ns.idxOf k:Nat)) H):=by
 intro pins s σ H x vs v us Q I rx rv h
 obtain ⟨p,ns,k,rfl,rfl,hp,hk,q⟩:=h
 cases rx
 obtain ⟨u,rfl,⟨t,rfl⟩⟩:=vals1 rv
 obtain ⟨z,its,r,ob,e1,⟨c1,d1⟩,n,s1⟩:=(show bB X.prog X.w H s.heap p (.tup _) from I.hok p _ hp)
 have hi:FF its ns:=intsAre_of r
 have hlen:=hi.length
 have hj:ns.idxOf k<ns.length:=Ht.mpr hk
 obtain ⟨cls,dd,data,sl⟩:=ob
 simp only at c1 s1
 subst c1 s1
 refine Hz Jj ⟨_,e1,rfl⟩ PySem.F.entry_tuple_index (PySem.F.args_tuple_index_2 _ _) (mW p its.toArray n dd sl (.int k t) (isInt k) (ns.idxOf k) (by simpa [hlen] using hj) ?_ ?_) ⟨e1,λy hy=>nV hi y hy,⟨.int _,H,I.tok _,⟨_,rfl⟩,q⟩⟩
 ·show isInt k its[ns.idxOf k]=true
  rw[isInt_at k hi _ (by omega) hj];simpa using Kx hj
 ·intro j hjs hlt
  show isInt k its[j]=false
  rw[isInt_at k hi j (by simpa using hjs) (by omega)]
  simpa using xK (by omega) hlt
end
end L2
namespace L2.MnT
open PySem PyProof.Rows
section
variable  {prog:De}{w:DN}{A:D1}{E:CJ->CN->Prop}{I:Addr}{fp wr:List Addr}{n:Nat}{P:Nat->CJ->Prop}{St:Nat->Heap->Prop}
abbrev fz (ts:List (Addr×List Int)):Nat->Nat->Bool:=λi j=>decide ((ts.getD i (0,[])).2.length<(ts.getD j (0,[])).2.length)
theorem xQ {s:CN}{t:Addr×List Int}{Q:CJ->CN->Prop}(x:TI s.heap t)(hz:t.2.length<2 ^ 63)(h:∀u tk,Q (.int t.2.length u) { s with toks:=tk }):Dh (DA prog w) A (call (.builtin "len") [.ref t.1]) Q E s:=by
 obtain ⟨its,ht,hi⟩:=x
 have e:its.size=t.2.length:=by rw[<- hi.length,CV]
 refine LD ht (by rw[e];lia) ?_
 rw[e]
 exact h _ _
theorem Co {R:Result->CN->Prop}{ts:List (Addr×List Int)}{kw:List (Str×CJ)}(W:Walks prog w A.in1 I fp wr n P St)(hI:∀k h,St k h->∀t∈ts,TI h t)(hP:∀i v,P i v->∃t,ts[i]? = some t/\v = .ref t.1)(hz:∀t∈ts,t.2.length<2 ^ 63){S:Addr}(nS:S∉fp):∀(d j:Nat) (s:CN) (t:Addr×List Int) (tk c:Nat),n=j+1+d->St (j+1) s.heap->ts[argBest (fz ts) j]? = some t->Bag S #[.ref t.1,.int t.2.length tk] c s.heap →
  (∀t h' tk,ts[argBest (fz ts) (n-1)]? = some t->Kept wr S s.heap h'->R (.ok (.ret (.ref t.1))) { s with heap:=h',toks:=tk })->He (DA prog w) A (.builtin "min.loop" ⟨[.ref I,.builtin "len",.ref S],kw⟩) R s:=by
 have nw:S∉wr:=λh=>nS (W.sub _ h)
 have nm:(toString "min" ++ toString ".loop" : String) = "min.loop" := by decide
 intro d
 induction d with
 | zero =>
  intro j s t tk c hn st et bg hR
  have e:j+1=n:=by lia
  rw[e] at st
  refine D3 Fv ?_
  rw[DP DS _]
  show Dh _ _ (seqItems? (.ref S) >>= _) _ _ s
  refine CD (Fe bg rfl ?_)
  show Dh _ _ (tryCatch (pyNext (.ref I)) _ >>= _) _ _ s
  refine CD (Fg (W.done s _ _ st λh1 tk kp =>?_))
  show Dh _ _ (updateSeq S (λ_ => #[]) >>= _) _ _ _
  refine CD ?_
  refine EB (kp S _ nw bg) rfl (CD (GY (CK (hR t _ tk (by rw[<- e];exact et) ?_))))
  exact λb o nb ns eb=>(Dl _ _ (D8 ns)).trans (kp b o nb eb)
 | succ d ih =>
  intro j s t tk c hn st et bg hR
  refine D3 Fv ?_
  rw[DP DS _]
  show Dh _ _ (seqItems? (.ref S) >>= _) _ _ s
  refine CD (Fe bg rfl ?_)
  show Dh _ _ (tryCatch (pyNext (.ref I)) _ >>= _) _ _ s
  refine CD (Fg (W.item (j+1) s _ _ (by lia) st λv h1 tk1 pv st1 kp =>?_))
  obtain ⟨u,eu,rfl⟩:=hP _ _ pv
  have bg1:=kp S _ nw bg
  show Dh _ _ (tryCatch (HU [Dd u.1] (call (.builtin "len") [.ref u.1])) _ >>= _) _ _ _
  refine CD (Fg (D5 (xQ (hI _ _ st1 u (CT eu)) (hz u (CT eu)) λtu tk2 =>?_)))
  show Dh _ _ (tryCatch (HU [Dd u.1,.int u.2.length tu] (richCompare .Lt (.int u.2.length tu) (.int t.2.length tk) >>= _)) _ >>= _) _ _ _
  refine CD (Fg (D5 (CD (richCompare_gives (op :=.Lt) (J0 _ _ tu) (J0 _ _ tk) PySem.F.slot_int_lt PySem.F.entry_int_lt (PySem.F.args_int_lt_2 _ _) (gives_int_lt _ _ tu tk) (λx=>nomatch x) ?_))))
  refine CD (D5 (ES ?_))
  refine CD (GY (CK ?_))
  have eb':fz ts (j+1) (argBest (fz ts) j)=decide (u.2.length<t.2.length):=by
   show decide _=_
   rw[C0,C0,eu,et];rfl
  by_cases hb:u.2.length<t.2.length
  ·have ea:argBest (fz ts) (j+1)=j+1:=by
    show (if fz ts (j+1) (argBest (fz ts) j)=true then _ else _)=_
    rw[eb',if_pos (decide_eq_true hb)]
   rw[show decide ((u.2.length:Int)<(t.2.length:Int))=true from decide_eq_true (by lia)]
   simp only[if_true]
   refine CD ?_
   refine EB bg1 rfl (CD (GY ?_))
   rw[nm]
   refine CK ⟨Ek DS _,ih (j+1) _ u tu _ (by lia) (W.frame _ _ _ st1 λb fb o eb =>?_) (by rw[ea];exact eu) (DI _ bg1 rfl) λv2 h2 tk2 p2 k2=>hR v2 h2 tk2 p2 λb o nb ns eb=>k2 b o nb ns ?_⟩
   ·exact (Dl _ _ (λz:S=b=>nS (z ▸ fb))).trans eb
   ·exact (Dl _ _ (D8 ns)).trans (kp b o nb eb)
  ·have ea:argBest (fz ts) (j+1)=argBest (fz ts) j:=by
    show (if fz ts (j+1) (argBest (fz ts) j)=true then _ else _)=_
    rw[eb',if_neg (by simpa using hb)]
   rw[show decide ((u.2.length:Int)<(t.2.length:Int))=false from decide_eq_false (by lia)]
   simp only[Dg,if_false]
   refine CD (GY ?_)
   rw[nm]
   exact CK ⟨Ek DS _,ih (j+1) _ t tk c (by lia) st1 (by rw[ea];exact et) bg1 λv2 h2 tk2 p2 k2=>hR v2 h2 tk2 p2 λb o nb ns eb=>k2 b o nb ns (kp b o nb eb)⟩
theorem Bs {R:Result->CN->Prop}{ts:List (Addr×List Int)}{kn:Str}{d:CJ}(W:Walks prog w A.in1 I fp wr n P St)(hI:∀k h,St k h->∀t∈ts,TI h t)(hP:∀i v,P i v->∃t,ts[i]? = some t/\v = .ref t.1)(hz:∀t∈ts,t.2.length<2 ^ 63){S:Addr}(nS:S∉fp){s:CN}{c:Nat}(st:St 0 s.heap)(bg:Bag S #[] c s.heap)
  (hR:∀v h' tk,((0<n/\∃t,ts[argBest (fz ts) (n-1)]? = some t/\v = .ref t.1)\/(n=0/\v=d))->Kept wr S s.heap h'->R (.ok (.ret v)) { s with heap:=h',toks:=tk }):He (DA prog w) A (.builtin "min.loop" ⟨[.ref I,.builtin "len",.ref S],[(kn,d)]⟩) R s:=by
 have nw:S∉wr:=λh=>nS (W.sub _ h)
 have nm:(toString "min" ++ toString ".loop" : String) = "min.loop" := by decide
 refine D3 Fv ?_
 rw[DP DS _]
 show Dh _ _ (seqItems? (.ref S) >>= _) _ _ s
 refine CD (Fe bg rfl ?_)
 show Dh _ _ (tryCatch (pyNext (.ref I)) _ >>= _) _ _ s
 by_cases hn:n=0
 ·subst hn
  refine CD (Fg (W.done s _ _ st λh1 tk kp =>?_))
  exact CD (FE (CK (hR d h1 tk (.inr ⟨rfl,rfl⟩) λb o nb _ eb=>kp b o nb eb)))
 refine CD (Fg (W.item 0 s _ _ (by lia) st λv h1 tk pv st1 kp =>?_))
 obtain ⟨u,eu,rfl⟩:=hP _ _ pv
 have bg1:=kp S _ nw bg
 show Dh _ _ (tryCatch (HU [Dd u.1] (call (.builtin "len") [.ref u.1])) _ >>= _) _ _ _
 refine CD (Fg (D5 (xQ (hI _ _ st1 u (CT eu)) (hz u (CT eu)) λtu tk2 =>?_)))
 show Dh _ _ (updateSeq S (λ_ => #[.ref u.1,.int u.2.length tu]) >>= _) _ _ _
 refine CD ?_
 refine EB bg1 rfl ?_
 rw[nm]
 refine CK ⟨Ek DS _,Co W hI hP hz nS (n-1) 0 _ u tu _ (by lia) (W.frame _ _ _ st1 λb fb o eb =>?_) eu (DI _ bg1 rfl) λt2 h2 tk2 p2 k2=>hR _ h2 tk2 (.inl ⟨by lia,t2,p2,rfl⟩) λb o nb ns eb=>k2 b o nb ns ?_⟩
 ·exact (Dl _ _ (λz:S=b=>nS (z ▸ fb))).trans eb
 ·exact (Dl _ _ (D8 ns)).trans (kp b o nb eb)
theorem v9 (a f d:CJ):argsOk "min" ⟨[a],[("key",f),("default",d)]⟩:=by unfold argsOk;kernel_rfl
theorem Cp {s:CN}{l:Addr}{its:Array CJ}{ts:List (Addr×List Int)}{d:CJ}{Q:CJ->CN->Prop}(hh:A.handled=none)(hl:s.heap.IsList l its)(hT:∀t∈ts,TI s.heap t)(hP:∀(i:Nat) (v:CJ),its[i]? = some v->∃t,ts[i]? = some t/\v = .ref t.1)(hz:∀t∈ts,t.2.length<2 ^ 63)
  (h:∀v h' tk,((0<its.size/\∃t,ts[argBest (fz ts) (its.size-1)]? = some t/\v = .ref t.1)\/(its.size=0/\v=d))->(∀b o,s.heap.get? b=some o->h'.get? b=some o)->Q v { s with heap:=h',toks:=tk }) :
  Dh (DA prog w) A (call (.builtin "min") [.ref l] [("key",.builtin "len"),("default",d)]) Q E s:=by
 have nm:(toString "min" ++ toString ".loop" : String) = "min.loop" := by decide
 have hlt:∀t∈ts,t.1<s.heap.objs.size:=λt ht=>by
  obtain ⟨_,⟨o,ho,_⟩,_⟩:=hT t ht
  exact C1 ho
 have hpl:l<s.heap.objs.size:=by obtain ⟨_,e,_⟩:=hl;exact C1 e
 refine K2 (Il Jh Ji ?_)
 have hg:Dh (DA prog w) A.in1 (Builtin.«min» ⟨[.ref l],[("key",.builtin "len"),("default",d)]⟩) (λfin s'=>match fin with
   | .done f=>(match (Except.ok f:Result) with | .ok (.ret v)=>Q v s' | .ok _=>False | .error e=>E e s')
   | .again c'=>c'.quiet=true/\He (DA prog w) A c' (λr s'=>match r with | .ok (.ret v)=>Q v s' | .ok _=>False | .error e=>E e s') s') E s:=by
  show Dh _ A.in1 (Builtin.Builtins.bindParams "min" ["key", "default"] 0 ⟨[],[("key",.builtin "len"),("default",d)]⟩ >>= _) _ _ s
  refine CD (E3 (a:=[some (.builtin "len"),some d]) rfl ?_)
  refine CD (CK ?_)
  refine CD (Gw hl ?_)
  refine CD (DM ?_)
  have W:=more (KP (prog:=prog) (w:=w) (A:=A.in1) hh s.heap.objs.size l (Dc hpl) its) ts (λt ht hm=>by
   have:=hlt t ht
   rw[CQ.mp hm] at this
   exact D4 _ this)
  rw[nm]
  refine CK ⟨Ek DS _,Bs W (λk h x=>x.2) hP hz ?_ ⟨⟨⟨_,CH _ (CZ _ rfl),rfl,rfl⟩,(hl.push _).push _⟩,λt ht=>(hT t ht).at λo e=>CH _ (CH _ e)⟩ (CZ _ rfl) λv h' tk hv kp =>?_⟩
  ·intro hm
   rw[ED] at hm
   rcases CW.mp hm with hm | hm
   ·rcases C9.mp hm with e | hm
    ·exact Nat.succ_ne_self _ e
    ·have:=CQ.mp hm
     rw[<- this] at hpl
     exact D4 _ (Fz hpl)
   ·obtain ⟨t,ht,e⟩:=Du.mp hm
    have:=hlt t ht
    rw[e] at this
    exact D4 _ (Fz this)
  ·refine h v h' tk hv λb o e=>kp b o (λhm =>?_) (λz =>?_) (CH _ (CH _ e))
   ·have:=C1 e
    rw[CQ.mp hm] at this
    exact D4 _ this
   ·have:=C1 e
    rw[z,ED] at this
    exact D4 _ (Fz this)
 simp only[checkBuiltinCall,Ju]
 cases hsig:Manifest.signature? "min" with
 | none=>exact CK hg
 | some sig =>
  have ha':Bind.checkArgs "min" sig ⟨[.ref l],[("key",.builtin "len"),("default",d)]⟩=pure ():=by simpa only[argsOk,hsig] using v9 (.ref l) (.builtin "len") d
  simp only[ha']
  exact CK hg
end
end L2.MnT
namespace L2
open PySem PySem.Spec PyProof.Rows
theorem MnT.xR (g:Nat->Nat):∀k,∀j,j<=k->g (argBest (λi j=>decide (g i<g j)) k)<=g j
 | 0,j,hj=>by rw[Lz.mp hj];exact CO _
 | k+1,j,hj=>by
  have ih:=MnT.xR g k
  by_cases hb:g (k+1)<g (argBest (λi j=>decide (g i<g j)) k)
  ·have ea:argBest (λi j=>decide (g i<g j)) (k+1)=k+1:=by simp only[argBest,decide_eq_true hb,if_true]
   rw[ea]
   by_cases e:j=k+1
   ·rw[e];exact CO _
   ·have:=ih j (by lia);lia
  ·have ea:argBest (λi j=>decide (g i<g j)) (k+1)=argBest (λi j=>decide (g i<g j)) k:=by simp only[argBest,decide_eq_false hb];rfl
   rw[ea]
   by_cases e:j=k+1
   ·rw[e];lia
   ·exact ih j (by lia)
section
variable  {X:Cx}
end
open PySem PySem.Spec PyProof.Rows
section
variable  {X:Cx}
theorem ja {K:CM}(h:X.K=K:=by rfl):bK X (.builtin "isinstance") (λxs H Q=>∃x T t b,xs=[x,.ty T]/\iO K H x t/\PySem.W.kitOne K t (.type T)=some b/\Q (.bl b) H):=by subst h;exact dy
end
open PySem PySem.Spec PyProof.Rows
section
variable  {X:Cx}
theorem lU (hh:X.A.handled=none):bK X (.type "list") (λxs H Q=>∃(a:Addr) (n:Nat),xs=[.ref a]/\H a=some (.rng 0 n)/\n<=1000/\∀l,H l=none->Q (.ref l) (upd H l (.lst ((Ei n).map λi=>V.int (i:Nat))))):=by
 intro pins s σ H xs us Q I r h
 obtain ⟨a,n,rfl,ha,hn,q⟩:=h
 obtain ⟨u,rfl,ru⟩:=vals1 r
 cases (show u=Dd a from ru)
 obtain ⟨t,u,v,e⟩:=(show bB X.prog X.w H s.heap a (.rng 0 n) from I.hok a _ ha)
 have rs:Builtin.Range.rangeSize 0 (n:Int) 1=(n:Int):=by
  rw[rangeSize_one]
  split <;> lia
 have n24:n<=2 ^ 24:=by lia
 refine call_list_range hh e (small_one (by lia) (by lia) (by lia) (by lia)) rs n24 λh' tk acc' c' k e' it =>?_
 have hv:∀(i:Nat) (x:CJ),acc'.toList[i]? = some x->∃t,x=Ex i t:=λi x hx=>by
  rw[C3] at hx
  obtain ⟨t',e⟩:=it.2 i x hx
  exact ⟨t',by rw[e];simp⟩
 have rv:=sR hv
 rw[CV,it.1] at rv
 exact ⟨.ref s.heap.objs.size,_,I.laid (o :=.lst ((Ei n).map λi=>V.int (i:Nat))) k (CO _) ⟨by rw[CG,EY];exact small hn,acc'.toList,c',rv,by simpa using e'⟩,rfl,q _ (I.hok.fresh (CO _))⟩
end
open PySem PySem.Spec PyProof.Rows
theorem MnT.Am (g:Nat->Nat):∀k,∀j,j<argBest (λi j=>decide (g i<g j)) k->g (argBest (λi j=>decide (g i<g j)) k)<g j
 | 0,j,hj=>absurd hj (Gs _)
 | k+1,j,hj=>by
  by_cases hb:g (k+1)<g (argBest (λi j=>decide (g i<g j)) k)
  ·have ea:argBest (λi j=>decide (g i<g j)) (k+1)=k+1:=by simp only[argBest,decide_eq_true hb,if_true]
   rw[ea] at hj ⊢
   have:=MnT.xR g k j (by lia)
   lia
  ·have ea:argBest (λi j=>decide (g i<g j)) (k+1)=argBest (λi j=>decide (g i<g j)) k:=by simp only[argBest,decide_eq_false hb];rfl
   rw[ea] at hj ⊢
   exact MnT.Am g k j hj
section
variable  {X:Cx}
def xS (K:CM)(te:TE):TE:=λσ H Q=>te σ H λx H1=>∃(p:Addr) (ts:List (Addr×List Int)),[x]=[.ref p]/\SqL K H1 p (ts.map λt =>.ref t.1)/\(∀t∈ts,SqT K H1 t.1 (t.2.map V.int))/\(ts=[]->Q .non H1)/\∀(i:Nat) (t:Addr×List Int),ts[i]? = some t->(∀u∈ts,t.2.length<=u.2.length)->(∀(j:Nat) (u:Addr×List Int),j<i->ts[j]? = some u->t.2.length<u.2.length)->Q (.ref t.1) H1
theorem tE {e:Expr}{te:TE}{j:Nat}{p p2 p3 pos kpos kpos2:Pos}(hc:X.calm=true)(hg:Gl X "min")(hm:X.mg "min" = none)(hg2:Gl X "len")(hm2:X.mg "len" = none)(hv:Ec "min" = some (.builtin "min"))(he:PE X e te)
    (hs:D6 (e :: []) X.env=(false,eval e X.env) :: D6 [] X.env:=by rfl)
    (ha:HA pos (D6 (e :: []) X.env)=(false,eval e X.env) :: HA pos (D6 [] X.env):=by rfl)
    (hplain:(HA pos (D6 (e :: []) X.env)).any (·.1)=false:=by rfl) :
    PE X (.Call (.Name "min" p) [e] [⟨some "key",.Name "len" p2,kpos⟩,⟨some "default",.Constant .none j p3,kpos2⟩] pos) (xS X.K te):=by
  intro pins s σ H Q I h
  refine Fn (dD I hg hm hv ?_)
  refine PyProof.Rows.callWith_kw (thn ((aa he ah hs) pos pins s σ H (λvs H1=>∃(p:Addr) (ts:List (Addr×List Int)),vs=[.ref p]/\SqL X.K H1 p (ts.map λt:Addr×List Int=>V.ref t.1)/\(∀t∈ts,SqT X.K H1 t.1 (t.2.map V.int))/\(ts=[]->Q .non H1)/\∀(i:Nat) (t:Addr×List Int),ts[i]? = some t->(∀u∈ts,t.2.length<=u.2.length)->(∀(j:Nat) (u:Addr×List Int),j<i->ts[j]? = some u->t.2.length<u.2.length)->Q (.ref t.1) H1) I h) λus s1 ⟨vs,H1,I1,r1,q1⟩ =>?_) ha hplain rfl rfl
  show Dh _ _ (evalAll ((do let v ← eval (.Name "len" p2) X.env;standAt pos;pure v) :: (do let v ← eval (.Constant .none j p3) X.env;standAt pos;pure v) :: [])) _ _ s1
  refine KL (CD (dD I1 hg2 hm2 Hi (CD (Ip (CK ?_)))))
  refine KL (CD (Constant_none (CD (Ip (CK (wpAny_evalAll_nil ?_))))))
  show Dh _ _ (call (.builtin "min") us [("key",.builtin "len"),("default",.none)]) _ _ s1
  obtain ⟨a,ts,rfl,hq,ht,q0,q⟩:=q1
  obtain ⟨u,rfl,ru⟩:=vals1 r1
  cases (show u=Dd a from ru)
  obtain ⟨its,rv,p1,_⟩:=I1.list hq
  have ll:=rv.length
  rw[CG] at ll
  refine MnT.Cp (ts:=ts) (I1.ok.hd hc) p1.isList (λt h' =>?_) (λi v hv =>?_) (λt h' =>?_) λv h' tk hv k =>?_
  · obtain ⟨i2,r2,p2,_⟩:=I1.tuple (ht t h')
    exact ⟨_,p2,intsAre_of r2⟩
  · rw[DR] at hv
    have hi:i<ts.length:=by rw[ll];exact (CP.mp hv).1
    have e1:(ts.map λt=>V.ref t.1)[i]? = some (.ref ts[i].1):=by rw[CU,CI hi];rfl
    obtain ⟨w',ew,rw'⟩:=rv.get e1
    rw[ew] at hv
    exact ⟨ts[i],CI hi,(Dk hv).symm.trans rw'⟩
  · obtain ⟨i2,r2,p2,z2⟩:=I1.tuple (ht t h')
    rw[CG,FQ] at z2
    lia
  · rw[CS, <- ll] at hv
    rcases hv with ⟨hn,t,et,rfl⟩ | ⟨hn,rfl⟩
    · refine ⟨.ref t.1,H1,I1.kept k,rfl,q _ t et (λu hu =>?_) λj u hj eu =>?_⟩
      · obtain ⟨i,hi,eu⟩:=GC hu
        have:=MnT.xR (λi=>(ts.getD i (0,[])).2.length) (ts.length-1) i (by lia)
        rw[C0,C0,et,CI hi,eu] at this
        exact this
      · have:=MnT.Am (λi=>(ts.getD i (0,[])).2.length) (ts.length-1) j hj
        rw[C0,C0,et,eu] at this
        exact this
    · exact ⟨.non,H1,I1.kept k,rfl,q0 (FW.mp hn)⟩
end
open PySem PySem.Spec PyProof.Rows
def cj (K:CM)(x:Str)(st:Stmt):Prop:=∃(f:Addr) (od an:Option Addr) (sl:Array (Option CJ)) (oc kV dc pm cd ct:CJ),EJ K Ea x=some (some (.ref f))/\K.lookup f=some ⟨oc,od,.func (PySem.W.fnOf x x (eI st) (cy st) (aF st) .none kV dc pm an cd ct),sl⟩/\PySem.W.codeIn K cd x=true/\PySem.W.keepIn K (.ref f)=true
theorem cj.mk {K:CM}{x:Str}{st:Stmt}{f:Addr}{od an:Option Addr}{sl:Array (Option CJ)}{oc kV dc pm cd ct:CJ}(a:EJ K Ea x=some (some (.ref f)))(l:K.lookup f=some ⟨oc,od,.func (PySem.W.fnOf x x (eI st) (cy st) (aF st) .none kV dc pm an cd ct),sl⟩)(c:PySem.W.codeIn K cd x=true)(k:PySem.W.keepIn K (.ref f)=true):cj K x st:=⟨_,_,_,_,_,_,_,_,_,_,a,l,c,k⟩
theorem cj.cal {K:CM}{x:Str}{st:Stmt}(hf:cj K x st)(P:De)(w:DN)(base:Heap){h:Heap}{mg:Str->Option CJ}(X:K.In h)(G:h.Ns Ea mg){lv:Nat}{ps:List Str}{sp:Sp}(ok:∀{f:Addr} {fd:Eh},Fun K x x st f fd->bS P w K mg base CX0 lv f fd ps sp)
  (hb:∀(kV doc pm:CJ) (an:Option Addr) (cdv ct:CJ) (us:List CJ),us.length=ps.length->bindArgs (PySem.W.fnOf x x (eI st) (cy st) (aF st) .none kV doc pm an cdv ct) ⟨us,[]⟩=pure (ps.zip us)):Cal P w K mg base lv x ps sp:=by
 obtain ⟨f,od,an,sl,oc,kV,dc,pm,cd,ct,a,l,c,k⟩:=hf
 have F:=wX l c k
 exact ⟨_,_,ok F,LZ X G a,k,F.binds hb⟩
end L2
set_option maxHeartbeats 800000
namespace K13
open PySem L2
def top (i:Nat):Stmt:=PySem.Challenge.pw_ringfell_k13_cleared_or_shown.main.body.getD i (.Pass ⟨0,0,0,0⟩)
abbrev xT:Stmt:=top 1
abbrev uD:Stmt:=top 2
abbrev lV:Stmt:=top 3
abbrev lX:Stmt:=top 4
abbrev uE:Stmt:=top 5
abbrev jb:Stmt:=top 6
abbrev ic:Stmt:=top 7
abbrev lY:Stmt:=top 8
abbrev jI:Stmt:=top 10
abbrev fA:Stmt:=top 11
abbrev ip:Stmt:=top 12
abbrev gs:Stmt:=top 13
abbrev gu:Stmt:=top 14
abbrev iq:Stmt:=top 15
abbrev dr:Stmt:=top 17
abbrev ir:Stmt:=top 18
abbrev iu:Stmt:=top 20
abbrev gw:Stmt:=top 21
abbrev xU:Stmt:=top 23
abbrev xV:Stmt:=top 24
abbrev An:Stmt:=top 25
abbrev xW:Stmt:=top 26
abbrev uF:Stmt:=top 27
abbrev l6:Stmt:=top 28
abbrev pk:Stmt:=top 29
abbrev l8:Stmt:=top 30
abbrev tF:Stmt:=top 31
abbrev ma:Stmt:=top 32
abbrev xX:Stmt:=top 33
abbrev eJ:Stmt:=top 34
abbrev tG:Stmt:=top 35
abbrev me:Stmt:=top 36
abbrev fQ:Stmt:=top 37
abbrev wa:Stmt:=top 38
structure Blt (mg:Str->Option CJ):Prop where
 b_all:mg "all" = none
 b_bool:mg "bool" = none
 b_divmod:mg "divmod" = none
 b_enumerate:mg "enumerate" = none
 b_int:mg "int" = none
 b_isinstance:mg "isinstance" = none
 b_len:mg "len" = none
 b_list:mg "list" = none
 b_max:mg "max" = none
 b_min:mg "min" = none
 b_range:mg "range" = none
 b_reversed:mg "reversed" = none
 b_set:mg "set" = none
 b_sorted:mg "sorted" = none
 b_sum:mg "sum" = none
 b_tuple:mg "tuple" = none
theorem tH:Ec "all" = some (.builtin "all"):=by decide +kernel
theorem uG:Ec "bool" = some (.type "bool"):=by decide +kernel
theorem aU:Ec "divmod" = some (.builtin "divmod"):=by decide +kernel
theorem mf:Ec "int" = some (.type "int"):=by decide +kernel
theorem cx:Ec "isinstance" = some (.builtin "isinstance"):=by decide +kernel
theorem eU:Ec "len" = some (.builtin "len"):=by decide +kernel
theorem dJ:Ec "list" = some (.type "list"):=by decide +kernel
theorem jJ:Ec "max" = some (.builtin "max"):=by decide +kernel
theorem eV:Ec "min" = some (.builtin "min"):=by decide +kernel
theorem qV:Ec "range" = some (.type "range"):=by decide +kernel
theorem gr:Ec "reversed" = some (.type "reversed"):=by decide +kernel
theorem xY:Ec "set" = some (.type "set"):=by decide +kernel
theorem cN:Ec "sorted" = some (.builtin "sorted"):=by decide +kernel
theorem Bt:Ec "sum" = some (.builtin "sum"):=by decide +kernel
theorem dA:Ec "tuple" = some (.type "tuple"):=by decide +kernel
theorem hu8 {A:D1}{k:Nat}(hr:dF k A):A.units+8<cLine:=HH (Hm (by decide:8<=64) _) hr.units
abbrev Ao:Stmt:=xU
abbrev Ap:Stmt:=xV
abbrev qW:Stmt:=An
abbrev xZ:Stmt:=xW
abbrev x6:Stmt:=uF
abbrev x8:Stmt:=lV
abbrev Cq:Stmt:=uE
abbrev Cr:Stmt:=xT
abbrev x9:Stmt:=lX
abbrev sAt:Stmt:=uD
abbrev yb:Stmt:=jb
abbrev Aq:Stmt:=ic
abbrev yc:Stmt:=lY
structure Wb (H:Hp)(r:Addr)(m:Int)(ts:List (Addr×List Int)):Prop where
 at':∃t,H r=some (.tup [.int m,.ref t])/\H t=some (.tup (ts.map λu =>.ref u.1))
 tup:∀u∈ts,H u.1=some (.tup (u.2.map V.int))
 pr:∀u∈ts,∃a b:Int,u.2=[a,b]/\0<=a/\a<=b/\b<m
 len:ts.length<=200
theorem Wb.tp {H H':Hp}{r:Addr}{m:Int}{ts:List (Addr×List Int)}(h:Wb H r m ts)(t:Tp H H'):Wb H' r m ts :=
 let ⟨p,e1,e2⟩:=h.at'
 ⟨⟨p,t _ _ e1,t _ _ e2⟩,λu hu=>t _ _ (h.tup u hu),h.pr,h.len⟩
theorem Wb.same {H H':Hp}{r:Addr}{m:Int}{ts:List (Addr×List Int)}(h:Wb H r m ts)(s:aE H H'):Wb H' r m ts:=h.tp s.tp
theorem item {ts:List (Addr×List Int)}{i:Nat}{x:V}(e:(ts.map λt:Addr×List Int=>V.ref t.1)[i]? = some x):∃u,ts[i]? = some u/\x = .ref u.1:=by
 rw[CU] at e
 cases z:ts[i]? with
 | none=>rw[z] at e;cases e
 | some tt=>rw[z] at e;exact ⟨tt,rfl,(Dk e).symm⟩
theorem Ar {ts:List (Addr×Int×Int)}{i:Nat}{x:V}(e:(ts.map λt:Addr×Int×Int=>V.ref t.1)[i]? = some x):∃u,ts[i]? = some u/\x = .ref u.1:=by
 rw[CU] at e
 cases z:ts[i]? with
 | none=>rw[z] at e;cases e
 | some tt=>rw[z] at e;exact ⟨tt,rfl,(Dk e).symm⟩
theorem take_snoc {α β:Type}{f:α -> β}{l:List α}{i:Nat}{x:α}(e:l[i]? = some x):(l.take (i+1)).map f=(l.take i).map f++[f x]:=by
 rw[Ee,e,C2];rfl
structure bY (H:Hp)(l:Addr)(many:Int)(ts:List (Addr×Int×Int)):Prop where
 at':H l=some (.lst (ts.map λt =>.ref t.1))
 tup:∀t∈ts,H t.1=some (.tup [.int t.2.1,.int t.2.2])
 bnd:∀t∈ts,0<=t.2.1/\t.2.1<many/\0<=t.2.2/\t.2.2<many
theorem bY.same {H H':Hp}{l:Addr}{many:Int}{ts:List (Addr×Int×Int)}(h:bY H l many ts)(s:aE H H'):bY H' l many ts:=⟨s _ _ h.at',λt m=>s _ _ (h.tup t m),h.bnd⟩
theorem bY.put {H H':Hp}{l:Addr}{many:Int}{ts us:List (Addr×Int×Int)}(h:bY H' l many ts)(tu:∀t∈us,H' t.1=some (.tup [.int t.2.1,.int t.2.2]))(b:∀t∈us,0<=t.2.1/\t.2.1<many/\0<=t.2.2/\t.2.2<many) :
  bY (upd H' l (.lst (us.map λt =>.ref t.1))) l many us:=by
 refine ⟨ag,λt ht =>?_,b⟩
 rw[aD (eG (tu t ht) h.at' (by intro z;cases z))]
 exact tu t ht
theorem aE.bG {H H':Hp}{l:Addr}(s:aE H H')(hl:H l=none)(o:HO):aE H (upd H' l o):=λb u e=>by
 rw[aD (aB e hl)];exact s _ _ e
def key (t:Addr×Int×Int):List Int:=nrm t.2.1 t.2.2
def qX (H:Hp)(ys:List V)(us:List (Addr×List Int)):Prop:=ys=us.map (λu =>.ref u.1)/\∀u∈us,H u.1=some (.tup (u.2.map V.int))
theorem qX.add {H:Hp}{ys:List V}{us:List (Addr×List Int)}(h:qX H ys us){t:Addr}(ht:H t=none)(ns:List Int):qX (upd H t (.tup (ns.map V.int))) (ys++[.ref t]) (us++[(t,ns)]):=by
 refine ⟨by rw[h.1,C2];rfl,λu hu =>?_⟩
 rcases CW.mp hu with z | z
 ·rw[aD (aB (h.2 u z) ht)]
  exact h.2 u z
 ·have e:u=(t,ns):=by simpa using z
  rw[e]
  exact ag
theorem qX.same {H H':Hp}{ys:List V}{us:List (Addr×List Int)}(h:qX H ys us)(s:aE H H'):qX H' ys us:=⟨h.1,λu hu=>s _ _ (h.2 u hu)⟩
theorem yd {a b m:Int}(h:0<=a/\a<m/\0<=b/\b<m):∃x y:Int,nrm a b=[x,y]/\0<=x/\x<=y/\y<m:=by
 refine ⟨mnI a b,mxI a b,rfl,?_,?_,?_⟩ <;> (try unfold mnI) <;> (try unfold mxI) <;> (repeat' split) <;> lia
theorem dmN {n j:Int}(h:0<=n)(hj:0<j):0<=n/j/\0<=n%j/\n%j<j:=⟨LA h (by lia),FZ _ (by lia),FL _ hj⟩
@[irreducible] def pq (K:CM):Sp:=λvs H Q _=>∃(a:Addr) (ns:List Int) (k:Int),vs=[.ref a,.int k]/\SqL K H a (ns.map V.int)/\0<=k/\∀c:Int,Q (.int c) H
theorem iw {K:CM}{vs:List V}{H:Hp}{Q:VK}{E:XK}:pq K vs H Q E↔∃(a:Addr) (ns:List Int) (k:Int),vs=[.ref a,.int k]/\SqL K H a (ns.map V.int)/\0<=k/\∀c:Int,Q (.int c) H:=by
 delta pq
 exact Fd
abbrev uH:Sp:=λvs H Q _=>∃c s:Int,vs=[.int c,.int s]/\0<=s/\s<=1000/\∀n:Int,0<=n->Q (.int n) H
@[irreducible] def pz:Sp:=uH
theorem fR {vs:List V}{H:Hp}{Q:VK}{E:XK}:pz vs H Q E↔uH vs H Q E:=by
 delta pz
 exact Fd
section
variable  {P:De}{w:DN}{K:CM}{mg:Str->Option CJ}{base:Heap}{f:Addr}{fd:Eh}
theorem Bu:aO ["script", "k"] ["script", "k"] (aF Ao):=⟨rfl,rfl,rfl,by decide +kernel,rfl,by decide +kernel,by decide +kernel⟩
theorem Bv (F:Fun K "_law_cell" "_law_cell" Ao f fd)(B:Blt mg):bS P w K mg base CX0 1 f fd ["script", "k"] (pq K):=by
 refine F.ok Bu (λvs H Q E h =>?_) (λcdv A outer s H vs Q E hr h =>?_)
 ·obtain ⟨c,k,k',rfl,_⟩:=iw.mp h
  rfl
 obtain ⟨a,ns,k,rfl,hS,k0,q⟩:=iw.mp h
 refine ⟨_,ai (bC (aK qi (pv 1) (az aY rfl B.b_len Hi (aa (pv 0) ah)) (aS _)) (au (aL (aH b8 (pv 0) (pv 1) (λ_ _=>rfl)))) aR)
  (au (aL ak)),?_⟩
 refine ⟨_,rfl,_,rfl,a,_,rfl,.inl hS,_,_,rfl,rfl,_,rfl,iS (λc =>?_) λ_=>q 0⟩
 have c':k<((ns.map V.int).length:Int):=of_decide_eq_true c
 rw[CG] at c'
 obtain ⟨n,rfl⟩:∃n:Nat,k=n:=⟨k.toNat,by lia⟩
 exact ⟨_,rfl,_,rfl,a,_,_,.int (ns[n]'(by lia)),rfl,rfl,hS,cD (by rw[CU,CI (by lia)];rfl),q _⟩
theorem iy:aO ["cell", "salt", "one", "number", "j"] ["cell", "salt"] (aF Ap):=⟨rfl,rfl,rfl,by decide +kernel,rfl,by decide +kernel,by decide +kernel⟩
theorem Bw (F:Fun K "_law_deal" "_law_deal" Ap f fd)(B:Blt mg):bS P w K mg base CX0 1 f fd ["cell", "salt"] pz:=by
 refine F.ok iy (λvs H Q E h =>?_) (λcdv A outer s H vs Q E hr h =>?_)
 ·obtain ⟨c,k,rfl,_⟩:=fR.mp h
  rfl
 obtain ⟨c,salt,rfl,s0,s1,q⟩:=fR.mp h
 refine ⟨_,ai (bC (aK wK (pv 0) (aT wI ak ak) (aS _)) (au (aL (aT cY (pv 0) (aT wI ak ak)))) aR)
  (ai (aM (i:=2) iy.nd rfl (Or.inl rfl) (aT f7 (pv 0) ak))
  (ai (aM (i:=3) iy.nd rfl (Or.inl rfl) ak)
  (ai (bN DE rfl (bA rfl B.b_range (aa ak ah)) (aq (i:=4) iy.nd rfl (Or.inl rfl))
   (ai (aM (i:=2) iy.nd rfl (Or.inl rfl) (aT f7 (aT fH (aT cB (aT cB (aT cB (pv 2) (aT fH (aT fH ak (pv 4)) (pv 4))) (aT fH ak (pv 1))) ak) ak) ak))
   (ai (aM (i:=2) iy.nd rfl (Or.inl rfl) (aT f7 (aT fH (pv 2) (pv 2)) ak))
   (au (aM (i:=3) iy.nd rfl (Or.inl rfl) (aT cB (aT fH (pv 3) ak) (aT yQ (aT f7 (aT fH (pv 2) ak) ak) ak)))))))
  (au (aL (pv 3)))))),?_⟩
 refine ⟨_,rfl,_,_,rfl,rfl,⟨by decide,by decide,by decide⟩,_,_,rfl,rfl,_,rfl,?_⟩
 refine iS (λc1 =>?_) (λc1 =>?_)
 ·have c':(10:Int) ^ (18:Int).toNat<=c:=of_decide_eq_true c1
  exact ⟨_,rfl,_,_,rfl,rfl,⟨by decide,by decide,by decide⟩,_,_,rfl,rfl,q _ (by lia)⟩
 ·refine ⟨_,rfl,_,_,rfl,rfl,(by show (0:Int)<_;decide),_,rfl,by decide,by decide,bL (λk σ H'=>(∃(o g:Int) (lv:Option V),0<=g/\σ=[some (.int c),some (.int salt),some (.int o),some (.int g),lv])/\H'=H) ⟨⟨_,0,none,by decide,rfl⟩,rfl⟩ ?_ ?_⟩
  ·rintro k σ H' hk ⟨⟨o,g,lv,hg,rfl⟩,rfl⟩
   have hk':k<24:=hk
   refine ⟨_,rfl,_,rfl,_,_,rfl,rfl,.inl ⟨by decide,by decide⟩,_,rfl,_,_,rfl,rfl,.inl ⟨by lia,by lia⟩,_,_,rfl,rfl,_,rfl,_,_,rfl,rfl,.inl ⟨by decide,by decide⟩,_,_,rfl,rfl,_,_,rfl,rfl,_,_,rfl,rfl,.inr ⟨by decide,by decide⟩,_,_,rfl,rfl,(by show (0:Int)<_;decide),?_⟩
   generalize ((o+15*(0+(k:Int))*(0+(k:Int))+31*salt+11)*48271)=z1
   have b1:=FZ z1 (b:=2147483647) (by decide)
   have b2:=FL z1 (b:=2147483647) (by decide)
   refine ⟨_,rfl,_,rfl,_,_,rfl,rfl,.inl ⟨by lia,by lia⟩,_,_,rfl,rfl,(by show (0:Int)<_;decide),?_⟩
   refine ⟨_,rfl,_,_,rfl,rfl,.inr ⟨by decide,by decide⟩,_,rfl,_,_,rfl,rfl,.inr ⟨by decide,by decide⟩,_,_,rfl,rfl,(by show (0:Int)<_;decide),_,_,rfl,rfl,⟨by decide,by decide⟩,_,_,rfl,rfl,⟨_,_,_,?_,rfl⟩,rfl⟩
   generalize (z1%2147483647*(z1%2147483647)%2147483629*69621)=z2
   have a1:0<=g*998244353:=Int.mul_nonneg hg (by decide)
   have a2:0<=z2%2147483587/7:=LA (FZ z2 (by decide)) (by decide)
   lia
  ·rintro σ H' ⟨⟨o,g,lv,hg,rfl⟩,rfl⟩
   exact ⟨_,rfl,q g hg⟩
end
open PySem L2
theorem fB {X:Cx}{body:List Stmt}{D0:Ends}{σ0:St}{H0:Hp}(sts:List Stmt)(M:St->Hp->Prop)(h:∃t2,PSs X sts t2/\∀σ H,M σ H->t2 D0 σ H)
  (g:∀t2,PSs X sts t2->(∀σ H,M σ H->t2 D0 σ H)->∃t,PSs X body t/\t D0 σ0 H0):∃t,PSs X body t/\t D0 σ0 H0:=by
 obtain ⟨t2,p2,m2⟩:=h
 exact g t2 p2 m2
def T3 (H:Hp)(ys:List V)(us:List (Addr×Int×Int)):Prop:=ys=us.map (λu =>.ref u.1)/\∀u∈us,H u.1=some (.tup [.int u.2.1,.int u.2.2])
theorem T3.add {H:Hp}{ys:List V}{us:List (Addr×Int×Int)}(h:T3 H ys us){t:Addr}(ht:H t=none)(a b:Int):T3 (upd H t (.tup [.int a,.int b])) (ys++[.ref t]) (us++[(t,a,b)]):=by
 refine ⟨by rw[h.1,C2];rfl,λu hu =>?_⟩
 rcases CW.mp hu with z | z
 ·rw[aD (aB (h.2 u z) ht)]
  exact h.2 u z
 ·have e:u=(t,a,b):=by simpa using z
  rw[e]
  exact ag
theorem T3.Bx {H:Hp}{ys:List V}{us:List (Addr×Int×Int)}{m:Int}(h:T3 H ys us){l:Addr}(hl:H l=none)(b:∀t∈us,0<=t.2.1/\t.2.1<m/\0<=t.2.2/\t.2.2<m):bY (upd H l (.lst ys)) l m us:=by
 refine ⟨by rw[ag,h.1],λu hu =>?_,b⟩
 rw[aD (aB (h.2 u hu) hl)]
 exact h.2 u hu
theorem fC {m a b:Int}{t:Addr}{us:List (Addr×Int×Int)}(h:∀t∈us,0<=t.2.1/\t.2.1<m/\0<=t.2.2/\t.2.2<m)(hab:0<=a/\a<m/\0<=b/\b<m):∀x∈us++[(t,a,b)],0<=x.2.1/\x.2.1<m/\0<=x.2.2/\x.2.2<m:=λx hx=>by
 rcases CW.mp hx with z | z
 ·exact h x z
 ·rw[CQ] at z;subst z;exact hab
theorem bY.push {H0 H:Hp}{l:Addr}{m:Int}{ts:List (Addr×Int×Int)}(h:bY H l m ts){t:Addr}(ht:H t=none){a b:Int}(hab:0<=a/\a<m/\0<=b/\b<m) :
  bY (upd (upd H t (.tup [.int a,.int b])) l (.lst ((ts.map λt =>.ref t.1)++[.ref t]))) l m (ts++[(t,a,b)]):=by
 have nt:∀{c:Addr} {xs:List V},H c=some (.tup xs)->c≠l:=λe=>eG e h.at' (by intro z;cases z)
 have ntl:t≠l:=D8 (aB h.at' ht)
 refine ⟨by rw[ag,C2];rfl,λu hu =>?_,fC h.bnd hab⟩
 rcases CW.mp hu with z | z
 ·rw[aD (nt (h.tup u z)),aD (aB (h.tup u z) ht)];exact h.tup u z
 ·rw[CQ] at z;subst z
  rw[aD ntl];exact ag
theorem pA {α:Type}(x:α):∀k:Nat,(DV k [x]).flatten=DV k x
 | 0=>rfl
 | k+1=>by rw[Fw,Fx,pA x k,Fw];rfl
abbrev uI:Sp:=λvs H Q _=>∃n most:Int,vs=[.int n,.int most]/\0<=n/\0<=most/\most<=30/\∀(p b:Addr) (n' m:Int) (ts:List (Addr×List Int)) (H':Hp),aE H H'->H' p=some (.tup [.ref b,.int n'])->Wb H' b m ts->0<=m->m<=most->0<=n'->Q (.ref p) H'
@[irreducible] def pB:Sp:=uI
theorem iz {vs:List V}{H:Hp}{Q:VK}{E:XK}:pB vs H Q E↔uI vs H Q E:=by
 delta pB
 exact Fd
def MT (H:Hp)(most:Int)(k:Nat)(σ:St)(H':Hp):Prop:=∃(n m wy c t:Int) (l:Addr) (ts:List (Addr×Int×Int)) (c7 c8 c9 c10 c11:Option V),
 σ=[some (.int n),some (.int most),some (.int m),some (.int wy),some (.int c),some (.int t),some (.ref l),c7,c8,c9,c10,c11]/\0<=n/\0<=m/\m<=most/\0<=c/\c<=60/\aE H H'/\H l=none/\bY H' l m ts/\ts.length<=k
section
variable  {P:De}{w:DN}{K:CM}{mg:Str->Option CJ}{base:Heap}{f:Addr}{fd:Eh}
theorem ndPM:(["place", "many"]:List Str).Nodup:=by decide +kernel
theorem As:(["one", "other", "many"]:List Str).Nodup:=by decide +kernel
theorem ndP:(["pair"]:List Str).Nodup:=by decide +kernel
theorem bJ:aO ["number", "most", "many", "way", "count", "turn", "ties", "place", "other", "k", "one", "again"] ["number", "most"] (aF qW):=⟨rfl,rfl,rfl,by decide +kernel,rfl,by decide +kernel,by decide +kernel⟩
theorem By (F:Fun K "_law_web" "_law_web" qW f fd)(B:Blt mg):bS P w K mg base CX0 1 f fd ["number", "most"] pB:=by
 refine F.ok bJ (λvs H Q E h =>?_) (λcdv A outer s H vs Q E hr h =>?_)
 ·obtain ⟨c,k,rfl,_⟩:=iz.mp h
  rfl
 obtain ⟨n,most,rfl,n0,h0,h1,q⟩:=iz.mp h
 refine fB ((cy qW).drop 9) (MT H most 200) ?hT λtT pT mT =>?gT
 case hT =>
  refine ⟨_,au (aL (bo (aa (bo (aa (pv 2) (aa (aJ aX rfl B.b_tuple FC (aa (az fN rfl B.b_sorted cN (aa
   (bT ["pair"] [none] rfl (bR (pv 6)) rfl (λ_ _ _ _ _=>aq (i:=0) ndP rfl (Or.inl rfl)) (λ_ _ _ _ _=>cG)
    (λ_ _ _ _ _=>bo (aa (az (og (K:=K) rfl) rfl B.b_min eV (aa (pv 0) ah)) (aa (az (oh (K:=K) rfl) rfl B.b_max jJ (aa (pv 0) ah)) ah)))) ah)) ah)) ah))) (aa (pv 0) ah)))),?_⟩
  rintro σ H8 ⟨n,m,wy,c,t,l,ts,c7,c8,c9,c10,c11,rfl,n0,m0,m1,_,_,s8,hl,tA,lt⟩
  refine ⟨_,rfl,_,rfl,l,rfl,⟨_,SqL.of tA.at'⟩,cf (xs:=ts.map λt =>.ref t.1) (λi ys H'=>aE H8 H'/\∃us,qX H' ys us/\us.map (·.2)=(ts.take i).map key) ⟨aE.refl _,[],⟨rfl,λu hu=>by cases hu⟩,rfl⟩ (by rw[CG];exact small (by lia)) (λi ys H'' _ z=>SqL.of (z.1 _ _ tA.at')) ?_ ?_⟩
  ·rintro i x ys H' hx hy ⟨s',us,tu,eu⟩ R1 R0 r1 r0
   obtain ⟨tt,ht,rfl⟩:=Ar hx
   have e2:=s' _ _ (tA.tup tt (CT ht))
   refine bF ⟨_,rfl,_,_,_,rfl,SqT.of e2,_,rfl,_,_,_,rfl,SqT.of e2,(by show 2<=C6;decide),λtn htn=>r1 _ _ ⟨s'.trans (af htn _),us++[(tn,key tt)],tu.add htn _,?_⟩⟩
   rw[C2,eu,Ee,ht,C2]
   rfl
  rintro ys H9 hy ⟨s9,us,tu,eu⟩ L hL
  have eu':us.map (·.2)=ts.map key:=by rw[eu,CG,C7 (CO _)]
  have s10:=s9.trans (af hL (.lst ys))
  have tu10:=tu.same (af hL (.lst ys))
  have ey:=tu.1
  have keys:∀u∈us,∃x y:Int,u.2=[x,y]/\0<=x/\x<=y/\y<m:=λu hu=>by
   have:u.2∈ts.map key:=by rw[<- eu'];exact Ep hu
   obtain ⟨t,ht,e⟩:=Du.mp this
   rw[<- e]
   exact yd (tA.bnd t ht)
  have nn:∀u∈us,u.2≠[]:=λu hu z=>by
   obtain ⟨a,b,e,_⟩:=keys u hu
   rw[z] at e
   cases e
  refine ⟨L,us,rfl,.inl (SqL.of (by rw[ag,ey])),λu hu=>⟨SqT.of (tu10.2 u hu),nn u hu⟩,λL2 out hL2 po ps =>?_⟩
  have s11:=s10.trans (af hL2 (.lst (out.map λt =>.ref t.1)))
  have tu11:=tu10.same (af hL2 (.lst (out.map λt =>.ref t.1)))
  refine ⟨L2,_,rfl,.inl ⟨SqL.of ag,λl3 hl3 =>?_⟩⟩
  have s12:=s11.trans (af hl3 (.tup (out.map λt =>.ref t.1)))
  have tu12:=tu11.same (af hl3 (.tup (out.map λt =>.ref t.1)))
  refine ⟨(by show 2<=C6;decide),λb hb=>⟨_,rfl,(by show 2<=C6;decide),λp hp =>?_⟩⟩
  have sb:=af hb (.tup [.int m,.ref l3])
  have sp:=af hp (.tup [.ref b,.int n])
  have lu:us.length=ts.length:=by have:=congrArg List.length eu';rwa [CG,CG] at this
  refine q p b n m out _ (s8.trans (s12.trans (sb.trans sp))) ag ⟨⟨l3,sp _ _ ag,sp _ _ (sb _ _ ag)⟩,λu hu=>sp _ _ (sb _ _ (tu12.2 u (po.mem_iff.mp hu))),λu hu=>keys u (po.mem_iff.mp hu),?_⟩ m0 m1 n0
  rw[po.length_eq];lia
 refine fB ((cy qW).drop 7) (MT H most 30) ?hU λtU pU mU =>?gU
 case hU =>
  refine ⟨_,ai (bN DE rfl (bA rfl B.b_range (aa (aT fH (pv 4) (aJ gL rfl B.b_int mf (aa (di Af (pv 2) ak (aS _)) ah))) ah)) (aq (i:=9) bJ.nd rfl (Or.inl rfl))
    (ai (bz (az aG rfl B.b_divmod aU (aa (pv 0) (aa (pv 2) ah))) (bj rfl (aA (aq (i:=0) bJ.nd rfl (Or.inl rfl)) (aA (aq (i:=10) bJ.nd rfl (Or.inl rfl)) aW))))
    (ai (bz (az aG rfl B.b_divmod aU (aa (pv 0) (aa (pv 2) ah))) (bj rfl (aA (aq (i:=0) bJ.nd rfl (Or.inl rfl)) (aA (aq (i:=8) bJ.nd rfl (Or.inl rfl)) aW))))
    (ai (bz (az aG rfl B.b_divmod aU (aa (pv 0) (aa ak ah))) (bj rfl (aA (aq (i:=0) bJ.nd rfl (Or.inl rfl)) (aA (aq (i:=11) bJ.nd rfl (Or.inl rfl)) aW))))
    (au (bI (cU Dq Hu Hv jA (pv 6) (aa (aT wV (bX (aa (bo (aa (pv 10) (aa (pv 8) ah))) ah)) (aT cB ak (aJ gL rfl B.b_int mf (aa (di cQ (pv 11) ak (aS _)) ah)))) ah))))))))
   (ai (bC (aK cQ (pv 5) ak (aS _)) (au (dZ (i:=6) ["one", "other", "many"] [none,none,some 2] rfl bJ.nd rfl rfl (bR (pv 6)) rfl (λ_ _ _ _ _=>qy (K:=K) (i:=0) (j:=1) As rfl rfl (Or.inl rfl) (Or.inl rfl)) (λ_ _ _ _ _=>cG)
     (λ_ _ _ _ _=>bo (aa (aT cY (aT cY (pv 2) ak) (pv 0)) (aa (aT cY (aT cY (pv 2) ak) (pv 1)) ah))))) aR) pT),?_⟩
  rintro σ H2 ⟨n,m,wy,c,t,l,ts,c7,c8,c9,c10,c11,rfl,n0,m0,m1,cc0,cc1,s2,hl,tA,lt⟩
  have hN:∃N:Int,c*(if decide (0<m)=true then 1 else 0)=N/\0<=N/\N<=c/\(0<N->0<m):=by
   by_cases h:0<m
   ·exact ⟨c,by rw[if_pos (decide_eq_true h)];lia,cc0,by lia,λ_=>h⟩
   ·exact ⟨0,by rw[if_neg (by simpa using h)];lia,by lia,by lia,λz=>by lia⟩
  obtain ⟨N,eN,N0,N1,Nm⟩:=hN
  refine ⟨_,rfl,_,rfl,_,_,rfl,rfl,.inr ⟨_,rfl,_,_,rfl,rfl,.inl ⟨by lia,by lia⟩,N,by rw[<- eN],by lia,by lia,?_⟩⟩
  let W0:Nat->St->Hp->Prop:=λi σ H'=>(∃(n:Int) (c8 c9 c10 c11:Option V),0<=n/\σ=[some (.int n),some (.int most),some (.int m),some (.int wy),some (.int c),some (.int t),some (.ref l),c7,c8,c9,c10,c11])/\aE H H'/\∃ts,bY H' l m ts/\ts.length<=30+2*i
  refine bL W0 ⟨⟨_,_,_,_,_,n0,rfl⟩,s2,ts,tA,by lia⟩ ?_ ?_
  ·rintro i σ H3 hi ⟨⟨n,c8,c9,c10,c11,n0,rfl⟩,s3,ts,tA,lt⟩
   have hi':(i:Int)<N:=by lia
   have mp:0<m:=Nm (by lia)
   obtain ⟨q0,x0,x1⟩:=dmN n0 mp
   refine ⟨_,rfl,_,rfl,n,m,rfl,⟨mp,by lia⟩,λp hp=>⟨p,_,rfl,SqT.of ag,rfl,_,_,rfl,_,_,rfl,rfl,?_⟩⟩
   have tA1:=tA.same (af hp (.tup [.int (n/m),.int (n%m)]))
   have s4:=s3.trans (af hp (.tup [.int (n/m),.int (n%m)]))
   generalize upd H3 p (.tup [.int (n/m),.int (n%m)])=H4 at tA1 s4
   generalize n/m=n1 at q0
   generalize n%m=x at x0 x1
   obtain ⟨q1,y0,y1⟩:=dmN q0 mp
   refine ⟨_,rfl,_,rfl,n1,m,rfl,⟨mp,by lia⟩,λp hp=>⟨p,_,rfl,SqT.of ag,rfl,_,_,rfl,_,_,rfl,rfl,?_⟩⟩
   have tA2:=tA1.same (af hp (.tup [.int (n1/m),.int (n1%m)]))
   have s5:=s4.trans (af hp (.tup [.int (n1/m),.int (n1%m)]))
   generalize upd H4 p (.tup [.int (n1/m),.int (n1%m)])=H5 at tA2 s5
   generalize n1/m=n2 at q1
   generalize n1%m=y at y0 y1
   obtain ⟨q2,z0,z1⟩:=dmN (j:=8) q1 (by decide)
   refine ⟨_,rfl,n2,8,rfl,⟨by decide,by decide⟩,λp hp=>⟨p,_,rfl,SqT.of ag,rfl,_,_,rfl,_,_,rfl,rfl,?_⟩⟩
   have tA3:=tA2.same (af hp (.tup [.int (n2/8),.int (n2%8)]))
   have s6:=s5.trans (af hp (.tup [.int (n2/8),.int (n2%8)]))
   generalize upd H5 p (.tup [.int (n2/8),.int (n2%8)])=H6 at tA3 s6
   generalize n2/8=n3 at q2
   generalize n2%8=z at z0 z1
   refine ⟨_,rfl,.inl ⟨rfl,_,SqL.of tA3.at'⟩,_,rfl,_,rfl,(by show 2<=C6;decide),λt1 ht1=>⟨(by show 1<=C6;decide),λb1 hb1 =>?_⟩⟩
   have hk:∃k:Nat,(1+(if decide (V.int z=V.int 0)=true then 1 else 0):Int)=(k:Int)/\1<=k/\k<=2:=by
    by_cases h:V.int z=V.int 0
    ·exact ⟨2,by rw[if_pos (decide_eq_true h)];rfl,by lia,by lia⟩
    ·exact ⟨1,by rw[if_neg (by simpa using h)];rfl,by lia,by lia⟩
   obtain ⟨k,ek,k1,k2⟩:=hk
   refine ⟨_,rfl,rfl,.inr ⟨_,rfl,_,_,rfl,rfl,b1,(k:Int),[.ref t1],rfl,by rw[<- ek],ag,by lia,by lia,?_,λb2 hb2 =>?_⟩⟩
   ·show 1*(k:Int).toNat<=C6
    exact small (by lia)
   have g1:=af ht1 (.tup [.int x,.int y])
   have g2:=af hb1 (.lst [.ref t1])
   have g3:=af hb2 (.lst (DV (k:Int).toNat [V.ref t1]).flatten)
   have tA6:=((tA3.same g1).same g2).same g3
   have et:upd (upd (upd H6 t1 (.tup [.int x,.int y])) b1 (.lst [.ref t1])) b2 (.lst (DV (k:Int).toNat [V.ref t1]).flatten) t1=some (.tup [.int x,.int y]):=g3 _ _ (g2 _ _ ag)
   have eb2:upd (upd (upd H6 t1 (.tup [.int x,.int y])) b1 (.lst [.ref t1])) b2 (.lst (DV (k:Int).toNat [V.ref t1]).flatten) b2=some (.lst (((DV k (t1,x,y))).map λu=>V.ref u.1)):=by
    rw[ag,Ej]
    rw[pA,List.map_replicate]
   have s9:=s6.trans (g1.trans (g2.trans g3))
   generalize upd (upd (upd H6 t1 (.tup [.int x,.int y])) b1 (.lst [.ref t1])) b2 (.lst (DV (k:Int).toNat [V.ref t1]).flatten)=H9 at tA6 et eb2 s9
   refine ⟨l,b2,_,_,rfl,rfl,tA6.at',eb2,?_,⟨_,_,_,_,_,q2,rfl⟩,aE.bG s9 hl _,ts++DV k (t1,x,y),?_,?_⟩
   ·rw[CG,CG,Ga];exact small (by lia)
   ·rw[<- C2]
    refine tA6.put (H:=H) (λu hu =>?_) λu hu =>?_
    ·rcases CW.mp hu with h | h
     ·exact tA6.tup u h
     ·rw[Jk h];exact et
    ·rcases CW.mp hu with h | h
     ·exact tA6.bnd u h
     ·rw[Jk h];exact ⟨x0,x1,y0,y1⟩
   ·rw[CL,Ga];lia
  ·rintro σ H3 ⟨⟨n,c8,c9,c10,c11,n0,rfl⟩,s3,ts,tA,lt⟩
   have lt':ts.length<=150:=by lia
   refine ⟨_,rfl,rfl,_,rfl,iS (λ_ =>?_) λ_=>mT _ _ ⟨n,m,wy,c,t,l,ts,_,_,_,_,_,rfl,n0,m0,m1,cc0,cc1,s3,hl,tA,by lia⟩⟩
   have em:(ts.map λt=>(t.1,V.int t.2.1,V.int t.2.2)).map (λt=>V.ref t.1)=ts.map λt=>V.ref t.1:=by rw[FJ];rfl
   refine ⟨_,rfl,l,rfl,⟨_,SqL.of tA.at'⟩,k9 (ts:=ts.map λt=>(t.1,V.int t.2.1,V.int t.2.2)) (λi ys H'=>aE H3 H'/\∃us,T3 H' ys us/\us.length=i/\∀t∈us,0<=t.2.1/\t.2.1<m/\0<=t.2.2/\t.2.2<m) (by decide) ⟨aE.refl _,[],⟨rfl,λu hu=>by cases hu⟩,rfl,λu hu=>by cases hu⟩ (by rw[CG];exact small (by lia)) ?_ ?_ ?_⟩
   ·rintro i ys H' _ ⟨s',_⟩
    rw[em]
    refine ⟨SqL.of (s' _ _ tA.at'),λt ht =>?_⟩
    obtain ⟨tt,htt,rfl⟩:=Du.mp ht
    exact SqT.of (s' _ _ (tA.tup tt htt))
   ·rintro i t ys H' ht hy ⟨s',us,tu,lu,bu⟩ R1 R0 r1 r0
    rw[CU] at ht
    cases hi:ts[i]? with
    | none=>rw[hi] at ht;cases ht
    | some tt =>
    rw[hi] at ht
    have ht':=Dk ht
    subst ht'
    have bb:=tA.bnd tt (CT hi)
    refine bF ⟨_,rfl,_,_,rfl,rfl,_,rfl,_,_,rfl,rfl,_,rfl,_,_,rfl,rfl,_,rfl,_,_,rfl,rfl,(by show 2<=C6;decide),λtn htn=>r1 _ _ ⟨s'.trans (af htn _),us++[(tn,m-1-tt.2.1,m-1-tt.2.2)],tu.add htn _ _,by rw[CL,lu];rfl,fC bu (by lia)⟩⟩
   ·rintro ys H9 hy ⟨s9,us,tu,lu,bu⟩ L hL
    rw[CG] at lu
    exact mT _ _ ⟨n,m,wy,c,t,L,us,_,_,_,_,_,rfl,n0,m0,m1,cc0,cc1,s3.trans (s9.trans (af hL _)),(s3.trans s9).free hL,tu.Bx hL bu,by lia⟩
 refine fB ((cy qW).drop 6) (MT H most 30) ?hV λtV pV mV =>?gV
 case hV =>
  refine ⟨_,ai (bC (aK cQ (pv 3) ak (aS _)) (ai (dZ (i:=6) ["place", "many"] [none,some 2] rfl bJ.nd rfl rfl (bA rfl B.b_range (aa (pv 2) ah)) rfl (λ_ _ _ _ _=>aq (i:=0) ndPM rfl (Or.inl rfl)) (λ_ _ _ _ _=>cG)
    (λ_ _ _ _ _=>bo (aa (pv 0) (aa (aT f7 (aT cB (pv 0) ak) (pv 1)) ah))))
   (au (aM (i:=4) bJ.nd rfl (Or.inl rfl) (aT f7 (pv 4) ak)))) aR) pU,?_⟩
  rintro σ H2 ⟨n,m,wy,c,t,l,ts,c7,c8,c9,c10,c11,rfl,n0,m0,m1,cc0,cc1,s2,hl,tA,lt⟩
  refine ⟨_,rfl,rfl,_,rfl,iS (λ_ =>?_) λ_=>mU _ _ ⟨n,m,wy,c,t,l,ts,_,_,_,_,_,rfl,n0,m0,m1,cc0,cc1,s2,hl,tA,lt⟩⟩
  let W1:Nat->List V->Hp->Prop:=λi ys H'=>aE H2 H'/\∃us,T3 H' ys us/\us.length=i/\∀t∈us,0<=t.2.1/\t.2.1<m/\0<=t.2.2/\t.2.2<m
  refine ⟨_,rfl,m,rfl,by lia,by lia,cK W1 ⟨aE.refl _,[],⟨rfl,λu hu=>by cases hu⟩,rfl,λu hu=>by cases hu⟩ (small (by lia)) ?_ ?_⟩
  ·rintro i ys H' hi hy ⟨s',us,tu,lu,bu⟩ R1 R0 r1 r0
   have mp:0<m:=by lia
   have b1:=FZ (0+(i:Int)+1) (b:=m) (by lia)
   have b2:=FL (0+(i:Int)+1) mp
   exact bF ⟨_,rfl,_,rfl,_,_,rfl,rfl,_,rfl,_,_,rfl,rfl,mp,(by show 2<=C6;decide),λtn htn=>r1 _ _ ⟨s'.trans (af htn _),us++[(tn,0+(i:Int),(0+(i:Int)+1)%m)],tu.add htn _ _,by rw[CL,lu];rfl,fC bu (by lia)⟩⟩
  ·rintro ys H9 hy ⟨s9,us,tu,lu,bu⟩ L hL
   have z0:=FZ c (b:=5) (by decide)
   have z1:=FL c (b:=5) (by decide)
   exact ⟨_,rfl,_,_,rfl,rfl,(by show (0:Int)<5;decide),mU _ _ ⟨n,m,wy,c%5,t,L,us,_,_,_,_,_,rfl,n0,m0,m1,z0,by lia,s2.trans (s9.trans (af hL _)),(s2.trans s9).free hL,tu.Bx hL bu,by lia⟩⟩
 refine ⟨_,ai (bz (az aG rfl B.b_divmod aU (aa (pv 0) (aa (aT cB (pv 1) ak) ah))) (bj rfl (aA (aq (i:=0) bJ.nd rfl (Or.inl rfl)) (aA (aq (i:=2) bJ.nd rfl (Or.inr rfl)) aW))))
  (ai (bz (az aG rfl B.b_divmod aU (aa (pv 0) (aa ak ah))) (bj rfl (aA (aq (i:=0) bJ.nd rfl (Or.inl rfl)) (aA (aq (i:=3) bJ.nd rfl (Or.inl rfl)) aW))))
  (ai (bz (az aG rfl B.b_divmod aU (aa (pv 0) (aa (aT cB (aT fH ak (pv 1)) ak) ah))) (bj rfl (aA (aq (i:=0) bJ.nd rfl (Or.inl rfl)) (aA (aq (i:=4) bJ.nd rfl (Or.inl rfl)) aW))))
  (ai (bz (az aG rfl B.b_divmod aU (aa (pv 0) (aa ak ah))) (bj rfl (aA (aq (i:=0) bJ.nd rfl (Or.inl rfl)) (aA (aq (i:=5) bJ.nd rfl (Or.inl rfl)) aW))))
  (ai (aM (i:=6) bJ.nd rfl (Or.inl rfl) (bX ah))
  (ai (bC (aK qi (pv 3) ak (aS _))
   (ai (bN DE rfl (gI rfl B.b_range (aa ak (aa (pv 2) ah))) (aq (i:=7) bJ.nd rfl (Or.inl rfl))
    (ai (bz (az aG rfl B.b_divmod aU (aa (pv 0) (aa (pv 7) ah))) (bj rfl (aA (aq (i:=0) bJ.nd rfl (Or.inl rfl)) (aA (aq (i:=8) bJ.nd rfl (Or.inl rfl)) aW))))
    (au (bI (cU Dq DK DL bD (pv 6) (aa (bo (aa (pv 8) (aa (pv 7) ah))) ah))))))
   (au (aM (i:=4) bJ.nd rfl (Or.inl rfl) (aT f7 (pv 4) ak)))) aR) pV))))),?_⟩
 obtain ⟨q0,x0,x1⟩:=dmN n0 (show 0<most+1 by lia)
 refine ⟨_,rfl,_,rfl,_,_,rfl,rfl,n,most+1,rfl,⟨by lia,by lia⟩,λp hp=>⟨p,_,rfl,SqT.of ag,rfl,_,_,rfl,_,_,rfl,rfl,?_⟩⟩
 have s1:=af hp (.tup [.int (n/(most+1)),.int (n%(most+1))])
 generalize upd H p (.tup [.int (n/(most+1)),.int (n%(most+1))])=H1 at s1
 generalize n/(most+1)=n1 at q0
 generalize n%(most+1)=m at x0 x1
 obtain ⟨q1,y0,y1⟩:=dmN (j:=6) q0 (by decide)
 refine ⟨_,rfl,n1,6,rfl,⟨by decide,by decide⟩,λp hp=>⟨p,_,rfl,SqT.of ag,rfl,_,_,rfl,_,_,rfl,rfl,?_⟩⟩
 have s2:=s1.trans (af hp (.tup [.int (n1/6),.int (n1%6)]))
 generalize upd H1 p (.tup [.int (n1/6),.int (n1%6)])=H2 at s2
 generalize n1/6=n2 at q1
 generalize n1%6=wy at y0 y1
 obtain ⟨q2,z0,z1⟩:=dmN q1 (show 0<2*most+1 by lia)
 refine ⟨_,rfl,_,rfl,_,_,rfl,rfl,.inl ⟨by decide,by decide⟩,_,_,rfl,rfl,n2,2*most+1,rfl,⟨by lia,by lia⟩,λp hp=>⟨p,_,rfl,SqT.of ag,rfl,_,_,rfl,_,_,rfl,rfl,?_⟩⟩
 have s3:=s2.trans (af hp (.tup [.int (n2/(2*most+1)),.int (n2%(2*most+1))]))
 generalize upd H2 p (.tup [.int (n2/(2*most+1)),.int (n2%(2*most+1))])=H3 at s3
 generalize n2/(2*most+1)=n3 at q2
 generalize n2%(2*most+1)=c at z0 z1
 obtain ⟨q3,u0,u1⟩:=dmN (j:=2) q2 (by decide)
 refine ⟨_,rfl,n3,2,rfl,⟨by decide,by decide⟩,λp hp=>⟨p,_,rfl,SqT.of ag,rfl,_,_,rfl,_,_,rfl,rfl,?_⟩⟩
 have s4:=s3.trans (af hp (.tup [.int (n3/2),.int (n3%2)]))
 generalize upd H3 p (.tup [.int (n3/2),.int (n3%2)])=H4 at s4
 generalize n3/2=n4 at q3
 generalize n3%2=t at u0 u1
 refine ⟨(by show 0<=C6;decide),λl hl4 =>?_⟩
 have hl:=s4.free hl4
 have s5:=s4.trans (af hl4 (.lst []))
 have tA:bY (upd H4 l (.lst [])) l m []:=⟨ag,λt z=>(by cases z),λt z=>(by cases z)⟩
 generalize upd H4 l (.lst [])=H5 at s5 tA
 refine ⟨_,rfl,_,_,rfl,rfl,_,rfl,iS (λ_ =>?_) λ_=>mV _ _ ⟨n4,m,wy,c,t,l,[],_,_,_,_,_,rfl,q3,x0,by lia,z0,by lia,s5,hl,tA,by simp⟩⟩
 let W2:Nat->St->Hp->Prop:=λj σ H4=>(∃(n:Int) (c7 c8:Option V),0<=n/\σ=[some (.int n),some (.int most),some (.int m),some (.int wy),some (.int c),some (.int t),some (.ref l),c7,c8,none,none,none])/\aE H H4/\∃us,bY H4 l m us/\us.length=j
 refine ⟨_,rfl,1,_,rfl,⟨by decide,by decide,by lia,by lia⟩,bL W2 ⟨⟨_,_,_,q3,rfl⟩,s5,[],tA,rfl⟩ ?_ ?_⟩
 ·rintro j σ H6 hj ⟨⟨n,c7,c8,n0,rfl⟩,s6,us,tA6,lu⟩
  have hj':1+(j:Int)<m:=by lia
  obtain ⟨q5,v0,v1⟩:=dmN n0 (show 0<1+(j:Int) by lia)
  refine ⟨_,rfl,_,rfl,n,1+(j:Int),rfl,⟨by lia,by lia⟩,λp hp=>⟨p,_,rfl,SqT.of ag,rfl,_,_,rfl,_,_,rfl,rfl,?_⟩⟩
  have s7:=s6.trans (af hp (.tup [.int (n/(1+(j:Int))),.int (n%(1+(j:Int)))]))
  have tA7:=tA6.same (af hp (.tup [.int (n/(1+(j:Int))),.int (n%(1+(j:Int)))]))
  generalize upd H6 p (.tup [.int (n/(1+(j:Int))),.int (n%(1+(j:Int)))])=H7 at s7 tA7
  generalize n/(1+(j:Int))=n5 at q5
  generalize n%(1+(j:Int))=o at v0 v1
  refine ⟨_,rfl,.inl ⟨rfl,_,SqL.of tA7.at'⟩,_,rfl,_,rfl,(by show 2<=C6;decide),λtt htt =>?_⟩
  exact ⟨l,_,_,rfl,rfl,(af htt _) _ _ tA7.at',(by rw[CG];exact bE (by lia)),⟨_,_,_,q5,rfl⟩,aE.bG (s7.trans (af htt _)) hl _,us++[(tt,o,1+(j:Int))],tA7.push (H0:=H) htt (by lia),by rw[CL,lu];rfl⟩
 ·rintro σ H6 ⟨⟨n,c7,c8,n0,rfl⟩,s6,us,tA6,lu⟩
  have w0:=FZ c (b:=4) (by decide)
  have w1:=FL c (b:=4) (by decide)
  exact ⟨_,rfl,_,_,rfl,rfl,(by show (0:Int)<4;decide),mV _ _ ⟨n,m,wy,c%4,t,l,us,_,_,_,_,_,rfl,n0,x0,by lia,w0,by lia,s6,hl,tA6,by lia⟩⟩
end
open PySem L2
def TO (H:Hp)(l:Addr)(m:Int)(ts:List (Addr×Int×Int)):Prop:=bY H l m ts/\∀t∈ts,t.2.1<=t.2.2
theorem TO.same {H H':Hp}{l:Addr}{m:Int}{ts:List (Addr×Int×Int)}(h:TO H l m ts)(s:aE H H'):TO H' l m ts:=⟨h.1.same s,h.2⟩
theorem TO.push {H:Hp}{l:Addr}{m:Int}{ts:List (Addr×Int×Int)}(h:TO H l m ts){t:Addr}(ht:H t=none){a b:Int}(hab:0<=a/\a<=b/\b<m) :
  TO (upd (upd H t (.tup [.int a,.int b])) l (.lst ((ts.map λt =>.ref t.1)++[.ref t]))) l m (ts++[(t,a,b)]):=by
 refine ⟨h.1.push (H0:=H) ht (by lia),λx hx =>?_⟩
 rcases CW.mp hx with z | z
 ·exact h.2 x z
 ·rw[CQ] at z;subst z;exact hab.2.1
theorem oq {α β:Type}(g:α -> β):∀(l:List α) (n:Nat),(l.map g).eraseIdx n=(l.eraseIdx n).map g
 | [],_=>rfl
 | _ :: _,0=>rfl
 | x :: l,n+1=>by
  show g x :: (l.map g).eraseIdx n=g x :: (l.eraseIdx n).map g
  rw[oq g l n]
theorem TO.erase {H:Hp}{l:Addr}{m:Int}{ts:List (Addr×Int×Int)}(h:TO H l m ts)(k:Nat):TO (upd H l (.lst ((ts.map λt=>V.ref t.1).eraseIdx k))) l m (ts.eraseIdx k):=by
 rw[oq]
 exact ⟨h.1.put (H:=H) (λt ht=>h.1.tup t (Hw ht)) λt ht=>h.1.bnd t (Hw ht),λt ht=>h.2 t (Hw ht)⟩
def rw3 (t:Addr×Int×Int):Addr×List Int:=(t.1,[t.2.1,t.2.2])
theorem uJ (ts:List (Addr×Int×Int)):(ts.map rw3).map (λu=>V.ref u.1)=ts.map λt=>V.ref t.1:=by rw[FJ];rfl
theorem TO.row {H:Hp}{l:Addr}{m:Int}{ts:List (Addr×Int×Int)}(h:TO H l m ts):∀u∈ts.map rw3,H u.1=some (.tup (u.2.map V.int))/\∃a b:Int,u.2=[a,b]/\0<=a/\a<=b/\b<m:=λu hu=>by
 obtain ⟨t,ht,rfl⟩:=Du.mp hu
 exact ⟨h.1.tup t ht,t.2.1,t.2.2,rfl,(h.1.bnd t ht).1,h.2 t ht,(h.1.bnd t ht).2.2.2⟩
abbrev uK:Sp:=λvs H Q _=>∃n:Int,vs=[.int n]/\0<=n/\∀(p b:Addr) (n' m:Int) (ts:List (Addr×List Int)) (H':Hp),aE H H'->H' p=some (.tup [.ref b,.int n'])->Wb H' b m ts->0<=m->m<=40->0<=n'->Q (.ref p) H'
@[irreducible] def gx:Sp:=uK
theorem ck {vs:List V}{H:Hp}{Q:VK}{E:XK}:gx vs H Q E↔uK vs H Q E:=by
 delta gx
 exact Fd
def MW (H:Hp)(σ:St)(H':Hp):Prop:=∃(n m:Int) (l:Addr) (ts:List (Addr×Int×Int)) (c2 c4 c5 c6 c7 c8 c9 c10 c11:Option V),
 σ=[some (.int n),some (.int m),c2,some (.ref l),c4,c5,c6,c7,c8,c9,c10,c11]/\0<=n/\0<=m/\m<=40/\aE H H'/\H l=none/\TO H' l m ts/\ts.length<=200
theorem Cs {d:Int}(h0:0<=d)(h1:d<3):∃e:Int,0<e/\e<=40/\atI [V.int 2,.int 5,.int 40] d=some (.int e):=by
 have hd:d=0\/d=1\/d=2:=by lia
 rcases hd with e | e | e <;> subst e
 ·exact ⟨2,by decide,by decide,rfl⟩
 ·exact ⟨5,by decide,by decide,rfl⟩
 ·exact ⟨40,by decide,by decide,rfl⟩
section
variable  {P:De}{w:DN}{K:CM}{mg:Str->Option CJ}{base:Heap}{f:Addr}{fd:Eh}
theorem bH:aO ["number", "many", "near", "ties", "place", "other", "gone", "k", "at", "count", "one", "turn"] ["number"] (aF xZ):=⟨rfl,rfl,rfl,by decide +kernel,rfl,by decide +kernel,by decide +kernel⟩
theorem Bz (F:Fun K "_law_wide" "_law_wide" xZ f fd)(B:Blt mg):bS P w K mg base CX0 1 f fd ["number"] gx:=by
 refine F.ok bH (λvs H Q E h =>?_) (λcdv A outer s H vs Q E hr h =>?_)
 ·obtain ⟨c,rfl,_⟩:=ck.mp h
  rfl
 obtain ⟨n,rfl,n0,q⟩:=ck.mp h
 refine fB ((cy xZ).drop 11) (MW H) ?hT λtT pT mT =>?gT
 case hT =>
  refine ⟨_,au (aL (bo (aa (bo (aa (pv 1) (aa (aJ aX rfl B.b_tuple FC (aa (az fN rfl B.b_sorted cN (aa (pv 3) ah)) ah)) ah))) (aa (pv 0) ah)))),?_⟩
  rintro σ H8 ⟨n,m,l,ts,c2,c4,c5,c6,c7,c8,c9,c10,c11,rfl,n0,m0,m1,s8,hl,tA,lt⟩
  have row:=tA.row
  refine ⟨_,rfl,_,rfl,l,ts.map rw3,rfl,.inl (SqL.of (by rw[uJ];exact tA.1.at')),λu hu=>⟨SqT.of (row u hu).1,λz =>?_⟩,λL2 out hL2 po ps=>⟨L2,_,rfl,.inl ⟨SqL.of ag,λl3 hl3=>⟨(by show 2<=C6;decide),λb hb=>⟨_,rfl,(by show 2<=C6;decide),λp hp =>?_⟩⟩⟩⟩⟩
  ·obtain ⟨_,x,y,e,_⟩:=row u hu
   rw[z] at e;cases e
  have s12:=(af hL2 (.lst (out.map λt =>.ref t.1))).trans (af hl3 (.tup (out.map λt =>.ref t.1)))
  have sb:=af hb (.tup [.int m,.ref l3])
  have sp:=af hp (.tup [.ref b,.int n])
  refine q p b n m out _ (s8.trans (s12.trans (sb.trans sp))) ag ⟨⟨l3,sp _ _ ag,sp _ _ (sb _ _ ag)⟩,λu hu=>sp _ _ (sb _ _ (s12 _ _ (row u (po.mem_iff.mp hu)).1)),λu hu=>(row u (po.mem_iff.mp hu)).2,?_⟩ m0 m1 n0
  rw[po.length_eq,CG];exact lt
 refine ⟨_,ai (bz (az aG rfl B.b_divmod aU (aa (pv 0) (aa ak ah))) (bj rfl (aA (aq (i:=0) bH.nd rfl (Or.inl rfl)) (aA (aq (i:=1) bH.nd rfl (Or.inr rfl)) aW))))
  (ai (aM (i:=1) bH.nd rfl (Or.inr rfl) (aT cB (pv 1) ak))
  (ai (bz (az aG rfl B.b_divmod aU (aa (pv 0) (aa ak ah))) (bj rfl (aA (aq (i:=0) bH.nd rfl (Or.inl rfl)) (aA (aq (i:=2) bH.nd rfl (Or.inl rfl)) aW))))
  (ai (aM (i:=3) bH.nd rfl (Or.inl rfl) (bX ah))
  (ai (bN DE rfl (gI rfl B.b_range (aa ak (aa (pv 1) ah))) (aq (i:=4) bH.nd rfl (Or.inl rfl))
   (ai (bz (az aG rfl B.b_divmod aU (aa (pv 0) (aa (aH b8 (bX (aa ak (aa ak (aa ak ah)))) (pv 2) (λ_ _=>rfl)) ah))) (bj rfl (aA (aq (i:=0) bH.nd rfl (Or.inl rfl)) (aA (aq (i:=5) bH.nd rfl (Or.inl rfl)) aW))))
   (au (bI (cU Dq DK DL bD (pv 3) (aa (bo (aa (az (gJ rfl) rfl B.b_max jJ (aa ak (aa (aT cY (aT cY (pv 4) ak) (pv 5)) ah))) (aa (pv 4) ah))) ah))))))
  (ai (bz (az aG rfl B.b_divmod aU (aa (pv 0) (aa ak ah))) (bj rfl (aA (aq (i:=0) bH.nd rfl (Or.inl rfl)) (aA (aq (i:=6) bH.nd rfl (Or.inl rfl)) aW))))
  (ai (bN DE rfl (bA rfl B.b_range (aa (pv 6) ah)) (aq (i:=7) bH.nd rfl (Or.inl rfl))
   (ai (bz (az aG rfl B.b_divmod aU (aa (pv 0) (aa (az aY rfl B.b_len Hi (aa (pv 3) ah)) ah))) (bj rfl (aA (aq (i:=0) bH.nd rfl (Or.inl rfl)) (aA (aq (i:=8) bH.nd rfl (Or.inl rfl)) aW))))
   (au (bI (cU Dq GV GW ql (pv 3) (aa (pv 8) ah))))))
  (ai (bz (az aG rfl B.b_divmod aU (aa (pv 0) (aa ak ah))) (bj rfl (aA (aq (i:=0) bH.nd rfl (Or.inl rfl)) (aA (aq (i:=9) bH.nd rfl (Or.inl rfl)) aW))))
  (ai (bN DE rfl (bA rfl B.b_range (aa (pv 9) ah)) (aq (i:=7) bH.nd rfl (Or.inl rfl))
   (ai (bz (az aG rfl B.b_divmod aU (aa (pv 0) (aa (pv 1) ah))) (bj rfl (aA (aq (i:=0) bH.nd rfl (Or.inl rfl)) (aA (aq (i:=10) bH.nd rfl (Or.inl rfl)) aW))))
   (ai (bz (az aG rfl B.b_divmod aU (aa (pv 0) (aa (pv 1) ah))) (bj rfl (aA (aq (i:=0) bH.nd rfl (Or.inl rfl)) (aA (aq (i:=5) bH.nd rfl (Or.inl rfl)) aW))))
   (au (bI (cU Dq DK DL bD (pv 3) (aa (bo (aa (az (gK rfl) rfl B.b_min eV (aa (pv 10) (aa (pv 5) ah))) (aa (az (gJ rfl) rfl B.b_max jJ (aa (pv 10) (aa (pv 5) ah))) ah))) ah)))))))
  (ai (bz (az aG rfl B.b_divmod aU (aa (pv 0) (aa ak ah))) (bj rfl (aA (aq (i:=0) bH.nd rfl (Or.inl rfl)) (aA (aq (i:=11) bH.nd rfl (Or.inl rfl)) aW))))
  (ai (bC (aK cQ (pv 11) ak (aS _)) (au (dZ (i:=3) ["one", "other", "many"] [none,none,some 1] rfl bH.nd rfl rfl (bR (pv 3)) rfl (λ_ _ _ _ _=>qy (K:=K) (i:=0) (j:=1) As rfl rfl (Or.inl rfl) (Or.inl rfl)) (λ_ _ _ _ _=>cG)
    (λ_ _ _ _ _=>bo (aa (aT cY (aT cY (pv 2) ak) (pv 1)) (aa (aT cY (aT cY (pv 2) ak) (pv 0)) ah))))) aR)
   pT)))))))))),?_⟩
 obtain ⟨q0,x0,x1⟩:=dmN (j:=11) n0 (by decide)
 refine ⟨_,rfl,n,11,rfl,⟨by decide,by decide⟩,λp hp=>⟨p,_,rfl,SqT.of ag,rfl,_,_,rfl,_,_,rfl,rfl,?_⟩⟩
 have s1:=af hp (.tup [.int (n/11),.int (n%11)])
 generalize upd H p (.tup [.int (n/11),.int (n%11)])=H1 at s1
 generalize n/11=n1 at q0
 generalize n%11=m' at x0 x1
 refine ⟨_,rfl,_,_,rfl,rfl,?_⟩
 dsimp only
 have m30:30<=m'+30:=by lia
 have m40:m'+30<=40:=by lia
 generalize m'+30=m at m30 m40
 obtain ⟨q1,y0,y1⟩:=dmN (j:=3) q0 (by decide)
 refine ⟨_,rfl,n1,3,rfl,⟨by decide,by decide⟩,λp hp=>⟨p,_,rfl,SqT.of ag,rfl,_,_,rfl,_,_,rfl,rfl,?_⟩⟩
 have s2:=s1.trans (af hp (.tup [.int (n1/3),.int (n1%3)]))
 generalize upd H1 p (.tup [.int (n1/3),.int (n1%3)])=H2 at s2
 generalize n1/3=n2 at q1
 generalize n1%3=nr at y0 y1
 obtain ⟨e,e0,e1,ee⟩:=Cs y0 y1
 refine ⟨(by show 0<=C6;decide),λl hl4 =>?_⟩
 have hl:=s2.free hl4
 have s5:=s2.trans (af hl4 (.lst []))
 have tA:TO (upd H2 l (.lst [])) l m []:=⟨⟨ag,λt z=>(by cases z),λt z=>(by cases z)⟩,λt z=>(by cases z)⟩
 generalize upd H2 l (.lst [])=H5 at s5 tA
 let W0:Nat->St->Hp->Prop:=λj σ H4=>(∃(n:Int) (c4 c5:Option V),0<=n/\σ=[some (.int n),some (.int m),some (.int nr),some (.ref l),c4,c5,none,none,none,none,none,none])/\aE H H4/\∃us,TO H4 l m us/\us.length=j
 refine ⟨_,rfl,1,_,rfl,⟨by decide,by decide,by lia,by lia⟩,bL W0 ⟨⟨_,_,_,q1,rfl⟩,s5,[],tA,rfl⟩ ?_ ?_⟩
 ·rintro j σ H6 hj ⟨⟨n,c4,c5,n0,rfl⟩,s6,us,tA6,lu⟩
  have hj':1+(j:Int)<m:=by lia
  obtain ⟨q5,v0,v1⟩:=dmN n0 e0
  refine ⟨_,rfl,(by show 3<=C6;decide),λb hb=>⟨_,rfl,b,_,nr,_,rfl,rfl,SqL.of ag,ee,n,e,rfl,⟨e0,by lia⟩,λp hp=>⟨p,_,rfl,SqT.of ag,rfl,_,_,rfl,_,_,rfl,rfl,?_⟩⟩⟩
  have g:=(af hb (.lst [.int 2,.int 5,.int 40])).trans (af hp (.tup [.int (n/e),.int (n%e)]))
  have s7:=s6.trans g
  have tA7:=tA6.same g
  generalize upd (upd H6 b (.lst [.int 2,.int 5,.int 40])) p (.tup [.int (n/e),.int (n%e)])=H7 at s7 tA7
  generalize n/e=n5 at q5
  generalize n%e=o at v0 v1
  refine ⟨_,rfl,.inl ⟨rfl,_,SqL.of tA7.1.at'⟩,_,rfl,_,_,rfl,rfl,_,rfl,_,_,rfl,rfl,_,_,rfl,_,rfl,(by show 2<=C6;decide),λtt htt =>?_⟩
  exact ⟨l,_,_,rfl,rfl,(af htt _) _ _ tA7.1.at',(by rw[CG];exact bE (by lia)),⟨_,_,_,q5,rfl⟩,aE.bG (s7.trans (af htt _)) hl _,us++[(tt,_,1+(j:Int))],tA7.push htt (by split <;> lia),by rw[CL,lu];rfl⟩
 rintro σ H6 ⟨⟨n,c4,c5,n0,rfl⟩,s6,us,tA6,lu⟩
 obtain ⟨q6,y0,y1⟩:=dmN (j:=4) n0 (by decide)
 refine ⟨_,rfl,n,4,rfl,⟨by decide,by decide⟩,λp hp=>⟨p,_,rfl,SqT.of ag,rfl,_,_,rfl,_,_,rfl,rfl,?_⟩⟩
 have s7:=s6.trans (af hp (.tup [.int (n/4),.int (n%4)]))
 have tA7:=tA6.same (af hp (.tup [.int (n/4),.int (n%4)]))
 generalize upd H6 p (.tup [.int (n/4),.int (n%4)])=H7 at s7 tA7
 generalize n/4=n6 at q6
 generalize n%4=g at y0 y1
 let W1:Nat->St->Hp->Prop:=λj σ H4=>(∃(n:Int) (c7 c8:Option V),0<=n/\σ=[some (.int n),some (.int m),some (.int nr),some (.ref l),c4,c5,some (.int g),c7,c8,none,none,none])/\aE H H4/\∃us,TO H4 l m us/\us.length+j=(m-1).toNat
 refine ⟨_,rfl,g,rfl,by lia,by lia,bL W1 ⟨⟨_,_,_,q6,rfl⟩,s7,us,tA7,by lia⟩ ?_ ?_⟩
 ·rintro j σ H8 hj ⟨⟨n,c7,c8,n0,rfl⟩,s8,us,tA8,lu⟩
  have lp:0<us.length:=by lia
  obtain ⟨q8,v0,v1⟩:=dmN n0 (show (0:Int)<((us.map λt=>V.ref t.1).length:Int) by rw[CG];lia)
  refine ⟨_,rfl,_,rfl,l,_,rfl,.inl (SqL.of tA8.1.at'),n,_,rfl,⟨by rw[CG];lia,by rw[CG];lia⟩,λp hp=>⟨p,_,rfl,SqT.of ag,rfl,_,_,rfl,_,_,rfl,rfl,?_⟩⟩
  have g9:=af hp (.tup [.int (n/((us.map λt=>V.ref t.1).length:Int)),.int (n%((us.map λt=>V.ref t.1).length:Int))])
  have s9:=s8.trans g9
  have tA9:=tA8.same g9
  generalize upd H8 p (.tup [.int (n/((us.map λt=>V.ref t.1).length:Int)),.int (n%((us.map λt=>V.ref t.1).length:Int))])=H9 at s9 tA9
  generalize n/((us.map λt=>V.ref t.1).length:Int)=n8 at q8
  generalize n%((us.map λt=>V.ref t.1).length:Int)=at' at v0 v1
  rw[CG] at v1
  obtain ⟨pn,rfl⟩:∃k:Nat,at'=k:=⟨at'.toNat,by lia⟩
  have ep:us[pn]? = some us[pn]:=CI (by lia)
  refine ⟨_,rfl,.inl ⟨rfl,_,SqL.of tA9.1.at'⟩,_,rfl,l,_,(pn:Int),pn,.ref us[pn].1,rfl,rfl,tA9.1.at',by lia,by lia,?_,by rw[CU,ep];rfl,⟨_,_,_,q8,rfl⟩,aE.bG s9 hl _,us.eraseIdx pn,tA9.erase pn,?_⟩
  ·have:=Ig (i:=(pn:Int)) (n:=(us.map λu=>V.ref u.1).length) (by lia) (by rw[CG];lia)
   simpa using this
  ·rw[Hc,if_pos (by lia)];lia
 rintro σ H8 ⟨⟨n,c7,c8,n0,rfl⟩,s8,us,tA8,lu⟩
 have lu':us.length<=39:=by lia
 obtain ⟨q9,y0,y1⟩:=dmN (j:=6) n0 (by decide)
 refine ⟨_,rfl,n,6,rfl,⟨by decide,by decide⟩,λp hp=>⟨p,_,rfl,SqT.of ag,rfl,_,_,rfl,_,_,rfl,rfl,?_⟩⟩
 have s9:=s8.trans (af hp (.tup [.int (n/6),.int (n%6)]))
 have tA9:=tA8.same (af hp (.tup [.int (n/6),.int (n%6)]))
 generalize upd H8 p (.tup [.int (n/6),.int (n%6)])=H9 at s9 tA9
 generalize n/6=n9 at q9
 generalize n%6=ct at y0 y1
 let W2:Nat->St->Hp->Prop:=λj σ H4=>(∃(n:Int) (c5 c7 c10:Option V),0<=n/\σ=[some (.int n),some (.int m),some (.int nr),some (.ref l),c4,c5,some (.int g),c7,c8,some (.int ct),c10,none])/\aE H H4/\∃us,TO H4 l m us/\us.length<=39+j
 refine ⟨_,rfl,ct,rfl,by lia,by lia,bL W2 ⟨⟨_,_,_,_,q9,rfl⟩,s9,us,tA9,by lia⟩ ?_ ?_⟩
 ·rintro j σ H10 hj ⟨⟨n,c5,c7,c10,n0,rfl⟩,s10,us,tA10,lu⟩
  have mp:0<m:=by lia
  obtain ⟨q0,x0,x1⟩:=dmN n0 mp
  refine ⟨_,rfl,_,rfl,n,m,rfl,⟨mp,by lia⟩,λp hp=>⟨p,_,rfl,SqT.of ag,rfl,_,_,rfl,_,_,rfl,rfl,?_⟩⟩
  have tA1:=tA10.same (af hp (.tup [.int (n/m),.int (n%m)]))
  have s4:=s10.trans (af hp (.tup [.int (n/m),.int (n%m)]))
  generalize upd H10 p (.tup [.int (n/m),.int (n%m)])=H4 at tA1 s4
  generalize n/m=n1 at q0
  generalize n%m=x at x0 x1
  obtain ⟨q1,y0,y1⟩:=dmN q0 mp
  refine ⟨_,rfl,_,rfl,n1,m,rfl,⟨mp,by lia⟩,λp hp=>⟨p,_,rfl,SqT.of ag,rfl,_,_,rfl,_,_,rfl,rfl,?_⟩⟩
  have tA2:=tA1.same (af hp (.tup [.int (n1/m),.int (n1%m)]))
  have s5:=s4.trans (af hp (.tup [.int (n1/m),.int (n1%m)]))
  generalize upd H4 p (.tup [.int (n1/m),.int (n1%m)])=H5 at tA2 s5
  generalize n1/m=n2 at q1
  generalize n1%m=y at y0 y1
  refine ⟨_,rfl,.inl ⟨rfl,_,SqL.of tA2.1.at'⟩,_,rfl,_,rfl,_,_,rfl,_,rfl,_,rfl,_,_,rfl,(by show 2<=C6;decide),λtt htt =>?_⟩
  refine ⟨l,_,_,rfl,rfl,(af htt _) _ _ tA2.1.at',(by rw[CG];exact bE (by lia)),⟨_,_,_,_,q1,rfl⟩,aE.bG (s5.trans (af htt _)) hl _,us++[(tt,_,_)],tA2.push htt ⟨?_,?_,?_⟩,by rw[CL];show us.length+1<=_;lia⟩
  ·split <;> lia
  ·split <;> split <;> lia
  ·split <;> lia
 rintro σ H10 ⟨⟨n,c5,c7,c10,n0,rfl⟩,s10,us,tA10,lu⟩
 obtain ⟨q9,y0,y1⟩:=dmN (j:=2) n0 (by decide)
 refine ⟨_,rfl,n,2,rfl,⟨by decide,by decide⟩,λp hp=>⟨p,_,rfl,SqT.of ag,rfl,_,_,rfl,_,_,rfl,rfl,?_⟩⟩
 have s11:=s10.trans (af hp (.tup [.int (n/2),.int (n%2)]))
 have tA11:=tA10.same (af hp (.tup [.int (n/2),.int (n%2)]))
 generalize upd H10 p (.tup [.int (n/2),.int (n%2)])=H11 at s11 tA11
 generalize n/2=n10 at q9
 generalize n%2=tu at y0 y1
 refine ⟨_,rfl,rfl,_,rfl,iS (λ_ =>?_) λ_=>mT _ _ ⟨n10,m,l,us,_,_,_,_,_,_,_,_,_,rfl,q9,by lia,m40,s11,hl,tA11,by lia⟩⟩
 have em:(us.map λt=>(t.1,V.int t.2.1,V.int t.2.2)).map (λt=>V.ref t.1)=us.map λt=>V.ref t.1:=by rw[FJ];rfl
 refine ⟨_,rfl,l,rfl,⟨_,SqL.of tA11.1.at'⟩,k9 (ts:=us.map λt=>(t.1,V.int t.2.1,V.int t.2.2)) (λi ys H'=>aE H11 H'/\∃vs,T3 H' ys vs/\vs.length=i/\(∀t∈vs,0<=t.2.1/\t.2.1<m/\0<=t.2.2/\t.2.2<m)/\∀t∈vs,t.2.1<=t.2.2) (by decide) ⟨aE.refl _,[],⟨rfl,λu hu=>by cases hu⟩,rfl,(λu hu=>by cases hu),λu hu=>by cases hu⟩ (by rw[CG];exact small (by lia)) ?_ ?_ ?_⟩
 ·rintro i ys H' _ ⟨s',_⟩
  rw[em]
  refine ⟨SqL.of (s' _ _ tA11.1.at'),λt ht =>?_⟩
  obtain ⟨tt,htt,rfl⟩:=Du.mp ht
  exact SqT.of (s' _ _ (tA11.1.tup tt htt))
 ·rintro i t ys H' ht hy ⟨s',vs,tv,lv,bv,ov⟩ R1 R0 r1 r0
  rw[CU] at ht
  cases hi:us[i]? with
  | none=>rw[hi] at ht;cases ht
  | some tt =>
  rw[hi] at ht
  have ht':=Dk ht
  subst ht'
  have bb:=tA11.1.bnd tt (CT hi)
  have oo:=tA11.2 tt (CT hi)
  refine bF ⟨_,rfl,_,_,rfl,rfl,_,rfl,_,_,rfl,rfl,_,rfl,_,_,rfl,rfl,_,rfl,_,_,rfl,rfl,(by show 2<=C6;decide),λtn htn=>r1 _ _ ⟨s'.trans (af htn _),vs++[(tn,m-1-tt.2.2,m-1-tt.2.1)],tv.add htn _ _,by rw[CL,lv];rfl,fC bv (by lia),λx hx =>?_⟩⟩
  rcases CW.mp hx with z | z
  ·exact ov x z
  ·rw[CQ] at z;subst z
   show m-1-tt.2.2<=m-1-tt.2.1
   lia
 ·rintro ys H12 hy ⟨s12,vs,tv,lv,bv,ov⟩ L hL
  rw[CG] at lv
  exact mT _ _ ⟨n10,m,L,vs,_,_,_,_,_,_,_,_,_,rfl,q9,by lia,m40,s11.trans (s12.trans (af hL _)),(s11.trans s12).free hL,⟨tv.Bx hL bv,ov⟩,by lia⟩
end
open PySem L2
theorem bY.ext {H:Hp}{l b:Addr}{m:Int}{ts vs:List (Addr×Int×Int)}{ys:List V}(h:bY H l m ts)(T:T3 H ys vs)(hb:H b=none)(bv:∀t∈vs,0<=t.2.1/\t.2.1<m/\0<=t.2.2/\t.2.2<m) :
  bY (upd (upd H b (.lst ys)) l (.lst ((ts.map λt =>.ref t.1)++ys))) l m (ts++vs):=by
 have s:=af hb (.lst ys)
 rw[T.1, <- C2]
 refine (h.same (af hb (.lst (vs.map λu=>V.ref u.1)))).put (H:=H) (λt ht =>?_) λt ht =>?_
 ·rcases CW.mp ht with z | z
  ·exact (af hb _) _ _ (h.tup t z)
  ·exact (af hb _) _ _ (T.2 t z)
 ·rcases CW.mp ht with z | z
  ·exact h.bnd t z
  ·exact bv t z
section
variable  {P:De}{w:DN}{K:CM}{mg:Str->Option CJ}{base:Heap}{f:Addr}{fd:Eh}
theorem ndBP:(["by", "place"]:List Str).Nodup:=by decide +kernel
theorem Ct:(["other", "one"]:List Str).Nodup:=by decide +kernel
theorem cz:aO ["number", "way", "many", "gone", "ties", "place", "one", "k", "at"] ["number"] (aF x6):=⟨rfl,rfl,rfl,by decide +kernel,rfl,by decide +kernel,by decide +kernel⟩
theorem zM (F:Fun K "_law_dense" "_law_dense" x6 f fd)(B:Blt mg):bS P w K mg base CX0 1 f fd ["number"] gx:=by
 refine F.ok cz (λvs H Q E h =>?_) (λcdv A outer s H vs Q E hr h =>?_)
 ·obtain ⟨c,rfl,_⟩:=ck.mp h
  rfl
 obtain ⟨n,rfl,n0,q⟩:=ck.mp h
 refine ⟨_,ai (bz (az aG rfl B.b_divmod aU (aa (pv 0) (aa ak ah))) (bj rfl (aA (aq (i:=0) cz.nd rfl (Or.inl rfl)) (aA (aq (i:=1) cz.nd rfl (Or.inl rfl)) aW))))
  (ai (bz (az aG rfl B.b_divmod aU (aa (pv 0) (aa ak ah))) (bj rfl (aA (aq (i:=0) cz.nd rfl (Or.inl rfl)) (aA (aq (i:=2) cz.nd rfl (Or.inl rfl)) aW))))
  (ai (bz (az aG rfl B.b_divmod aU (aa (pv 0) (aa ak ah))) (bj rfl (aA (aq (i:=0) cz.nd rfl (Or.inl rfl)) (aA (aq (i:=3) cz.nd rfl (Or.inl rfl)) aW))))
  (ai (bC (aK cQ (pv 1) ak (aS _))
   (ai (aM (i:=4) cz.nd rfl (Or.inl rfl) (bX ah))
   (ai (bN DE rfl (bA rfl B.b_range (aa ak ah)) (aq (i:=5) cz.nd rfl (Or.inr rfl))
    (au (bI (cU Dq Hu Hv jA (pv 4) (aa (bT ["by", "place"] [none,some 5] rfl (gI rfl B.b_range (aa ak (aa ak ah))) rfl (λ_ _ _ _ _=>aq (i:=0) ndBP rfl (Or.inl rfl)) (λ_ _ _ _ _=>cG)
     (λ_ _ _ _ _=>bo (aa (pv 1) (aa (aT f7 (aT cB (pv 1) (pv 0)) ak) ah)))) ah)))))
   (au (aL (bo (aa (bo (aa ak (aa (aJ aX rfl B.b_tuple FC (aa (az fN rfl B.b_sorted cN (aa
    (bT ["pair"] [none] rfl (bR (pv 4)) rfl (λ_ _ _ _ _=>aq (i:=0) ndP rfl (Or.inl rfl)) (λ_ _ _ _ _=>cG)
     (λ_ _ _ _ _=>bo (aa (az (og (K:=K) rfl) rfl B.b_min eV (aa (pv 0) ah)) (aa (az (oh (K:=K) rfl) rfl B.b_max jJ (aa (pv 0) ah)) ah)))) ah)) ah)) ah))) (aa (pv 0) ah))))))) aR)
  (ai (aM (i:=4) cz.nd rfl (Or.inl rfl) (bX ah))
  (ai (bN DE rfl (bA rfl B.b_range (aa (aT cB ak (pv 2)) ah)) (aq (i:=6) cz.nd rfl (Or.inr rfl))
   (au (bI (cU Dq Hu Hv jA (pv 4) (aa (bT ["other", "one"] [none,some 6] rfl (gI rfl B.b_range (aa (aT cB (pv 6) ak) (aa (aT cB ak (pv 2)) ah))) rfl (λ_ _ _ _ _=>aq (i:=0) Ct rfl (Or.inl rfl)) (λ_ _ _ _ _=>cG)
    (λ_ _ _ _ _=>bo (aa (pv 1) (aa (pv 0) ah)))) ah)))))
  (ai (bN DE rfl (bA rfl B.b_range (aa (pv 3) ah)) (aq (i:=7) cz.nd rfl (Or.inl rfl))
   (ai (bz (az aG rfl B.b_divmod aU (aa (pv 0) (aa (az aY rfl B.b_len Hi (aa (pv 4) ah)) ah))) (bj rfl (aA (aq (i:=0) cz.nd rfl (Or.inl rfl)) (aA (aq (i:=8) cz.nd rfl (Or.inl rfl)) aW))))
   (au (bI (cU Dq GV GW ql (pv 4) (aa (pv 8) ah))))))
  (au (aL (bo (aa (bo (aa (aT cB ak (pv 2)) (aa (aJ aX rfl B.b_tuple FC (aa (pv 4) ah)) ah))) (aa (pv 0) ah))))))))))),?_⟩
 obtain ⟨q0,x0,x1⟩:=dmN (j:=3) n0 (by decide)
 refine ⟨_,rfl,n,3,rfl,⟨by decide,by decide⟩,λp hp=>⟨p,_,rfl,SqT.of ag,rfl,_,_,rfl,_,_,rfl,rfl,?_⟩⟩
 have s1:=af hp (.tup [.int (n/3),.int (n%3)])
 generalize upd H p (.tup [.int (n/3),.int (n%3)])=H1 at s1
 generalize n/3=n1 at q0
 generalize n%3=wy at x0 x1
 obtain ⟨q1,y0,y1⟩:=dmN (j:=3) q0 (by decide)
 refine ⟨_,rfl,n1,3,rfl,⟨by decide,by decide⟩,λp hp=>⟨p,_,rfl,SqT.of ag,rfl,_,_,rfl,_,_,rfl,rfl,?_⟩⟩
 have s2:=s1.trans (af hp (.tup [.int (n1/3),.int (n1%3)]))
 generalize upd H1 p (.tup [.int (n1/3),.int (n1%3)])=H2 at s2
 generalize n1/3=n2 at q1
 generalize n1%3=mn at y0 y1
 obtain ⟨q2,z0,z1⟩:=dmN (j:=7) q1 (by decide)
 refine ⟨_,rfl,n2,7,rfl,⟨by decide,by decide⟩,λp hp=>⟨p,_,rfl,SqT.of ag,rfl,_,_,rfl,_,_,rfl,rfl,?_⟩⟩
 have s3:=s2.trans (af hp (.tup [.int (n2/7),.int (n2%7)]))
 generalize upd H2 p (.tup [.int (n2/7),.int (n2%7)])=H3 at s3
 generalize n2/7=n3 at q2
 generalize n2%7=g at z0 z1
 refine ⟨_,rfl,rfl,_,rfl,iS (λ_ =>?_) λ_ =>?_⟩
 ·refine ⟨(by show 0<=C6;decide),λl hl4 =>?_⟩
  have hl:=s3.free hl4
  have s5:=s3.trans (af hl4 (.lst []))
  have tA:bY (upd H3 l (.lst [])) l 40 []:=⟨ag,λt z=>(by cases z),λt z=>(by cases z)⟩
  generalize upd H3 l (.lst [])=H5 at s5 tA
  let W0:Nat->St->Hp->Prop:=λi σ H4=>(∃(c5:Option V),σ=[some (.int n3),some (.int wy),some (.int mn),some (.int g),some (.ref l),c5,none,none,none])/\aE H H4/\∃us,bY H4 l 40 us/\us.length=5*i
  refine ⟨40,rfl,by decide,by decide,bL W0 ⟨⟨_,rfl⟩,s5,[],tA,rfl⟩ ?_ ?_⟩
  ·rintro i σ H6 hi ⟨⟨c5,rfl⟩,s6,us,tA6,lu⟩
   have hi':i<40:=hi
   let W1:Nat->List V->Hp->Prop:=λk ys H'=>aE H6 H'/\∃vs,T3 H' ys vs/\vs.length=k/\∀t∈vs,0<=t.2.1/\t.2.1<40/\0<=t.2.2/\t.2.2<40
   refine ⟨_,rfl,.inl ⟨rfl,_,SqL.of tA6.at'⟩,1,6,rfl,⟨by decide,by decide,by decide,by decide⟩,cK W1 ⟨aE.refl _,[],⟨rfl,λu hu=>by cases hu⟩,rfl,λu hu=>by cases hu⟩ (small (by decide)) ?_ ?_⟩
   ·rintro k ys H' hk hy ⟨s',vs,tv,lv,bv⟩ R1 R0 r1 r0
    have b1:=FZ (0+(i:Int)+(1+(k:Int))) (b:=40) (by decide)
    have b2:=FL (0+(i:Int)+(1+(k:Int))) (b:=40) (by decide)
    exact bF ⟨_,rfl,_,rfl,_,rfl,_,_,rfl,rfl,_,_,rfl,rfl,(by show (0:Int)<40;decide),(by show 2<=C6;decide),λtn htn=>r1 _ _ ⟨s'.trans (af htn _),vs++[(tn,0+(i:Int),(0+(i:Int)+(1+(k:Int)))%40)],tv.add htn _ _,by rw[CL,lv];rfl,fC bv (by lia)⟩⟩
   ·rintro ys H7 hy ⟨s7,vs,tv,lv,bv⟩ b hb
    have lv':vs.length=5:=lv
    have tA7:=tA6.same s7
    refine ⟨l,b,_,_,rfl,rfl,(af hb _) _ _ tA7.at',ag,?_,⟨_,rfl⟩,aE.bG ((s6.trans s7).trans (af hb _)) hl _,us++vs,tA7.ext tv hb bv,by rw[CL];lia⟩
    rw[tv.1,CG,CG];exact small (by lia)
  ·rintro σ H8 ⟨⟨c5,rfl⟩,s8,ts,tA,lt⟩
   have lt':ts.length=200:=lt
   refine ⟨_,rfl,l,rfl,⟨_,SqL.of tA.at'⟩,cf (xs:=ts.map λt =>.ref t.1) (λi ys H'=>aE H8 H'/\∃us,qX H' ys us/\us.map (·.2)=(ts.take i).map key) ⟨aE.refl _,[],⟨rfl,λu hu=>by cases hu⟩,rfl⟩ (by rw[CG];exact small (by lia)) (λi ys H'' _ z=>SqL.of (z.1 _ _ tA.at')) ?_ ?_⟩
   ·rintro i x ys H' hx hy ⟨s',us,tu,eu⟩ R1 R0 r1 r0
    obtain ⟨tt,ht,rfl⟩:=Ar hx
    have e2:=s' _ _ (tA.tup tt (CT ht))
    refine bF ⟨_,rfl,_,_,_,rfl,SqT.of e2,_,rfl,_,_,_,rfl,SqT.of e2,(by show 2<=C6;decide),λtn htn=>r1 _ _ ⟨s'.trans (af htn _),us++[(tn,key tt)],tu.add htn _,?_⟩⟩
    rw[C2,eu,Ee,ht,C2]
    rfl
   rintro ys H9 hy ⟨s9,us,tu,eu⟩ L hL
   have eu':us.map (·.2)=ts.map key:=by rw[eu,CG,C7 (CO _)]
   have s10:=s9.trans (af hL (.lst ys))
   have tu10:=tu.same (af hL (.lst ys))
   have ey:=tu.1
   have keys:∀u∈us,∃x y:Int,u.2=[x,y]/\0<=x/\x<=y/\y<40:=λu hu=>by
    have:u.2∈ts.map key:=by rw[<- eu'];exact Ep hu
    obtain ⟨t,ht,e⟩:=Du.mp this
    rw[<- e]
    exact yd (tA.bnd t ht)
   have nn:∀u∈us,u.2≠[]:=λu hu z=>by
    obtain ⟨a,b,e,_⟩:=keys u hu
    rw[z] at e
    cases e
   refine ⟨L,us,rfl,.inl (SqL.of (by rw[ag,ey])),λu hu=>⟨SqT.of (tu10.2 u hu),nn u hu⟩,λL2 out hL2 po ps =>?_⟩
   have s11:=s10.trans (af hL2 (.lst (out.map λt =>.ref t.1)))
   have tu11:=tu10.same (af hL2 (.lst (out.map λt =>.ref t.1)))
   refine ⟨L2,_,rfl,.inl ⟨SqL.of ag,λl3 hl3 =>?_⟩⟩
   have s12:=s11.trans (af hl3 (.tup (out.map λt =>.ref t.1)))
   have tu12:=tu11.same (af hl3 (.tup (out.map λt =>.ref t.1)))
   refine ⟨(by show 2<=C6;decide),λb hb=>⟨_,rfl,(by show 2<=C6;decide),λp hp =>?_⟩⟩
   have sb:=af hb (.tup [.int 40,.ref l3])
   have sp:=af hp (.tup [.ref b,.int n3])
   have lu:us.length=ts.length:=by have:=congrArg List.length eu';rwa [CG,CG] at this
   refine q p b n3 40 out _ (s8.trans (s12.trans (sb.trans sp))) ag ⟨⟨l3,sp _ _ ag,sp _ _ (sb _ _ ag)⟩,λu hu=>sp _ _ (sb _ _ (tu12.2 u (po.mem_iff.mp hu))),λu hu=>keys u (po.mem_iff.mp hu),?_⟩ (by decide) (by decide) q2
   rw[po.length_eq];lia
 refine ⟨(by show 0<=C6;decide),λl hl4 =>?_⟩
 have hl:=s3.free hl4
 have s5:=s3.trans (af hl4 (.lst []))
 have tA:TO (upd H3 l (.lst [])) l (8+mn) []:=⟨⟨ag,λt z=>(by cases z),λt z=>(by cases z)⟩,λt z=>(by cases z)⟩
 generalize upd H3 l (.lst [])=H5 at s5 tA
 let W2:Nat->St->Hp->Prop:=λi σ H4=>(∃(c6:Option V),σ=[some (.int n3),some (.int wy),some (.int mn),some (.int g),some (.ref l),none,c6,none,none])/\aE H H4/\∃us,TO H4 l (8+mn) us/\us.length<=10*i/\(1<=i->7<=us.length)
 refine ⟨_,rfl,_,_,rfl,rfl,8+mn,rfl,by lia,by lia,bL W2 ⟨⟨_,rfl⟩,s5,[],tA,by simp,by lia⟩ ?_ ?_⟩
 ·rintro i σ H6 hi ⟨⟨c6,rfl⟩,s6,us,tA6,lu,l7⟩
  have hi':(i:Int)<8+mn:=by lia
  let W3:Nat->List V->Hp->Prop:=λk ys H'=>aE H6 H'/\∃vs,T3 H' ys vs/\vs.length=k/\(∀t∈vs,0<=t.2.1/\t.2.1<8+mn/\0<=t.2.2/\t.2.2<8+mn)/\∀t∈vs,t.2.1<=t.2.2
  refine ⟨_,rfl,.inl ⟨rfl,_,SqL.of tA6.1.at'⟩,_,rfl,_,_,rfl,rfl,_,rfl,_,_,rfl,rfl,0+(i:Int)+1,8+mn,rfl,⟨by lia,by lia,by lia,by lia⟩,cK W3 ⟨aE.refl _,[],⟨rfl,λu hu=>by cases hu⟩,rfl,(λu hu=>by cases hu),λu hu=>by cases hu⟩ (small (by lia)) ?_ ?_⟩
  ·rintro k ys H' hk hy ⟨s',vs,tv,lv,bv,ov⟩ R1 R0 r1 r0
   refine bF ⟨_,rfl,_,rfl,(by show 2<=C6;decide),λtn htn=>r1 _ _ ⟨s'.trans (af htn _),vs++[(tn,0+(i:Int),0+(i:Int)+1+(k:Int))],tv.add htn _ _,by rw[CL,lv];rfl,fC bv (by lia),λx hx =>?_⟩⟩
   rcases CW.mp hx with z | z
   ·exact ov x z
   ·rw[CQ] at z;subst z
    show 0+(i:Int)<=0+(i:Int)+1+(k:Int)
    lia
  ·rintro ys H7 hy ⟨s7,vs,tv,lv,bv,ov⟩ b hb
   have tA7:=tA6.same s7
   refine ⟨l,b,_,_,rfl,rfl,(af hb _) _ _ tA7.1.at',ag,?_,⟨_,rfl⟩,aE.bG ((s6.trans s7).trans (af hb _)) hl _,us++vs,⟨tA7.1.ext tv hb bv,λx hx =>?_⟩,by rw[CL];lia,λ_ =>?_⟩
   ·rw[tv.1,CG,CG];exact small (by lia)
   ·rcases CW.mp hx with z | z
    ·exact tA7.2 x z
    ·exact ov x z
   ·rw[CL]
    by_cases h:1<=i
    ·have:=l7 h;lia
    ·lia
 rintro σ H6 ⟨⟨c6,rfl⟩,s6,us,tA6,lu,l7⟩
 have l7':7<=us.length:=l7 (by lia)
 have lu':us.length<=100:=by lia
 let W4:Nat->St->Hp->Prop:=λj σ H4=>(∃(n:Int) (c7 c8:Option V),0<=n/\σ=[some (.int n),some (.int wy),some (.int mn),some (.int g),some (.ref l),none,c6,c7,c8])/\aE H H4/\∃us,TO H4 l (8+mn) us/\us.length<=100/\7<=us.length+j
 refine ⟨_,rfl,g,rfl,by lia,by lia,bL W4 ⟨⟨_,_,_,q2,rfl⟩,s6,us,tA6,lu',by lia⟩ ?_ ?_⟩
 ·rintro j σ H8 hj ⟨⟨n,c7,c8,n0,rfl⟩,s8,us,tA8,lu,l7⟩
  have lp:0<us.length:=by lia
  obtain ⟨q8,v0,v1⟩:=dmN n0 (show (0:Int)<((us.map λt=>V.ref t.1).length:Int) by rw[CG];lia)
  refine ⟨_,rfl,_,rfl,l,_,rfl,.inl (SqL.of tA8.1.at'),n,_,rfl,⟨by rw[CG];lia,by rw[CG];lia⟩,λp hp=>⟨p,_,rfl,SqT.of ag,rfl,_,_,rfl,_,_,rfl,rfl,?_⟩⟩
  have g9:=af hp (.tup [.int (n/((us.map λt=>V.ref t.1).length:Int)),.int (n%((us.map λt=>V.ref t.1).length:Int))])
  have s9:=s8.trans g9
  have tA9:=tA8.same g9
  generalize upd H8 p (.tup [.int (n/((us.map λt=>V.ref t.1).length:Int)),.int (n%((us.map λt=>V.ref t.1).length:Int))])=H9 at s9 tA9
  generalize n/((us.map λt=>V.ref t.1).length:Int)=n8 at q8
  generalize n%((us.map λt=>V.ref t.1).length:Int)=at' at v0 v1
  rw[CG] at v1
  obtain ⟨pn,rfl⟩:∃k:Nat,at'=k:=⟨at'.toNat,by lia⟩
  have ep:us[pn]? = some us[pn]:=CI (by lia)
  refine ⟨_,rfl,.inl ⟨rfl,_,SqL.of tA9.1.at'⟩,_,rfl,l,_,(pn:Int),pn,.ref us[pn].1,rfl,rfl,tA9.1.at',by lia,by lia,?_,by rw[CU,ep];rfl,⟨_,_,_,q8,rfl⟩,aE.bG s9 hl _,us.eraseIdx pn,tA9.erase pn,?_,?_⟩
  ·have:=Ig (i:=(pn:Int)) (n:=(us.map λu=>V.ref u.1).length) (by lia) (by rw[CG];lia)
   simpa using this
  ·rw[Hc,if_pos (by lia)];lia
  ·rw[Hc,if_pos (by lia)];lia
 rintro σ H8 ⟨⟨n,c7,c8,n0,rfl⟩,s8,us,tA8,lu,l7⟩
 have row:=tA8.row
 refine ⟨_,rfl,_,_,rfl,rfl,_,rfl,l,_,rfl,.inl ⟨SqL.of tA8.1.at',λl3 hl3=>⟨(by show 2<=C6;decide),λb hb=>⟨_,rfl,(by show 2<=C6;decide),λp hp =>?_⟩⟩⟩⟩
 have s12:=af hl3 (.tup (us.map λt =>.ref t.1))
 have sb:=af hb (.tup [.int (8+mn),.ref l3])
 have sp:=af hp (.tup [.ref b,.int n])
 refine q p b n (8+mn) (us.map rw3) _ (s8.trans (s12.trans (sb.trans sp))) ag ⟨⟨l3,sp _ _ ag,?_⟩,λu hu=>sp _ _ (sb _ _ (s12 _ _ (row u hu).1)),λu hu=>(row u hu).2,?_⟩ (by lia) (by lia) n0
 ·rw[uJ];exact sp _ _ (sb _ _ ag)
 ·rw[CG];lia
end
open PySem L2
def aP (ns:List (List Int))(k:Int):Int:=(ns.map λp=>(p.count k:Int)).sum
abbrev Au:Sp:=λvs H Q _=>∃(r:Addr) (m k:Int) (ts:List (Addr×List Int)),vs=[.ref r,.int k]/\Wb H r m ts/\∀H',aE H H'->Q (.int (aP (ts.map (·.2)) k)) H'
@[irreducible] def zN:Sp:=Au
theorem mh {vs:List V}{H:Hp}{Q:VK}{E:XK}:zN vs H Q E↔Au vs H Q E:=by
 delta zN
 exact Fd
def both (ps:List Int)(p:List Int):Bool:=decide (p.getD 0 0∈ps) && decide (p.getD 1 0∈ps)
theorem dU (ps:List Int):(ps.map V.int).all iQ=true:=by
 rw[List.all_map,F7]
 intro x _
 rfl
theorem d9 (k:Int):∀ps:List Int,inV (.int k) (ps.map V.int)=decide (k∈ps)
 | []=>by simp[inV]
 | p :: ps=>by
  have ih:=d9 k ps
  unfold inV at ih ⊢
  rw[Dy,HE,ih]
  have e:eqV (.int p) (.int k)=(p == k):=rfl
  rw[e]
  by_cases h:p=k
  ·subst h;simp
  ·rw[beq_eq_false_iff_ne.mpr h,LX]
   apply decide_eq_decide.mpr
   rw[C9]
   exact ⟨.inr,λx=>x.elim (λy=>absurd y.symm h) id⟩
section
variable  {P:De}{w:DN}{K:CM}{mg:Str->Option CJ}{base:Heap}{f:Addr}{fd:Eh}
theorem ndTP:(["tie", "place"]:List Str).Nodup:=by decide +kernel
theorem Av:(["tie", "places"]:List Str).Nodup:=by decide +kernel
theorem scAt:aO ["web", "place"] ["web", "place"] (aF sAt):=⟨rfl,rfl,rfl,by decide +kernel,rfl,by decide +kernel,by decide +kernel⟩
theorem okAt (F:Fun K "ties_at" "ties_at" sAt f fd)(ms:mg "sum" = none):bS P w K mg base CX0 1 f fd ["web", "place"] zN:=by
 refine F.ok scAt (λvs H Q E h =>?_) (λcdv A outer s H vs Q E hr h =>?_)
 ·obtain ⟨a,b,c,d,rfl,_⟩:=mh.mp h
  rfl
 obtain ⟨r,m,k,ts,rfl,W,q⟩:=mh.mp h
 obtain ⟨t,e1,e2⟩:=W.at'
 refine ⟨_,au (aL (az (xB hr.hd) rfl ms Bt (aa (bT ["tie", "place"] [none,some 1] rfl (ik (aH aI (pv 0) ak (λ_ _=>rfl))) rfl (λ_ _ _ _ _=>aq (i:=0) ndTP rfl (Or.inl rfl)) (λ_ _ _ _ _=>cG)
  (λ_ _ _ _ _=>oZ FN Hx vP (pv 0) (aa (pv 1) ah))) ah))),?_⟩
 refine ⟨_,rfl,r,_,1,_,rfl,rfl,SqT.of e1,rfl,t,rfl,⟨_,SqT.of e2⟩,dR (xs:=ts.map λu =>.ref u.1) (λi ys H'=>H'=H/\ys=((ts.take i).map λu=>(u.2.count k:Int)).map V.int) ⟨rfl,rfl⟩ (by rw[CG];exact small (by have:=W.len;lia)) (λi ys H' _ z=>by rw[z.1];exact SqT.of e2) ?_ ?_⟩
 ·rintro i x ys H3 hx hy ⟨rfl,rfl⟩ R1 R0 r1 r0
  obtain ⟨u,eu,rfl⟩:=item hx
  have hu:=W.tup u (CT eu)
  refine bF ⟨_,rfl,⟨_,_,rfl,hu⟩,_,rfl,u.1,u.2,k,rfl,rfl,hu,r1 _ _ ⟨rfl,?_⟩⟩
  rw[take_snoc (f:=λu:Addr×List Int=>(u.2.count k:Int)) eu,C2]
  rfl
 ·rintro ys H3 hy ⟨rfl,rfl⟩ l hl
  rw[CG,C7 (CO _)]
  refine ⟨l,_,rfl,ag,?_⟩
  have:=q _ (af hl (.lst ((ts.map λu=>(u.2.count k:Int)).map V.int)))
  unfold aP at this
  rw[FJ] at this
  exact this
end
def nb1 (p:List Int)(k:Int):List Int:=if p.getD 0 0=p.getD 1 0 then [] else if p.getD 0 0=k then [p.getD 1 0] else if p.getD 1 0=k then [p.getD 0 0] else []
theorem kj {a b k x:Int}:x∈nb1 [a,b] k↔a≠b/\((a=k/\x=b)\/(b=k/\x=a)):=by
 show x∈(if a=b then [] else if a=k then [b] else if b=k then [a] else [])↔_
 by_cases h1:a=b
 ·rw[if_pos h1];simp[h1]
 ·rw[if_neg h1]
  by_cases h2:a=k
  ·rw[if_pos h2,CQ]
   exact ⟨λe=>⟨h1,.inl ⟨h2,e⟩⟩,λ⟨_,h⟩=>h.elim (λz=>z.2) λz=>absurd (h2.trans z.1.symm) h1⟩
  ·rw[if_neg h2]
   by_cases h3:b=k
   ·rw[if_pos h3,CQ]
    exact ⟨λe=>⟨h1,.inr ⟨h3,e⟩⟩,λ⟨_,h⟩=>h.elim (λz=>absurd z.1 h2) λz=>z.2⟩
   ·rw[if_neg h3]
    exact ⟨λh=>(by cases h),λ⟨_,h⟩=>h.elim (λz=>absurd z.1 h2) λz=>absurd z.1 h3⟩
def nbs (ns:List (List Int))(k:Int):List Int:=ns.flatMap λp=>nb1 p k
theorem cF {ns:List (List Int)}{k x:Int}:x∈nbs ns k↔∃p∈ns,x∈nb1 p k:=Jv
theorem ou {k:Int}:∀{ns:List (List Int)},ns.Nodup->(∀p∈ns,∃a b:Int,p=[a,b]/\a<=b)->(nbs ns k).Nodup
 | [],_,_=>by simp[nbs]
 | p :: ns,nd,h=>by
  obtain ⟨np,nd'⟩:=E5.mp nd
  have ih:=ou (k:=k) nd' λq hq=>h q (Dj _ hq)
  show (nb1 p k++nbs ns k).Nodup
  rw[Fc]
  refine ⟨?_,ih,λx hx y hy e =>?_⟩
  ·unfold nb1;(repeat' split) <;> simp
  ·subst e
   obtain ⟨a,b,rfl,ab⟩:=h p Di
   obtain ⟨q,hq,hy⟩:=cF.mp hy
   obtain ⟨c,d,rfl,cd⟩:=h q (Dj _ hq)
   rw[kj] at hx hy
   apply np
   obtain ⟨n1,hx⟩:=hx
   obtain ⟨n2,hy⟩:=hy
   have:a=c/\b=d:=by
    rcases hx with ⟨h1,h2⟩ | ⟨h1,h2⟩ <;> rcases hy with ⟨h3,h4⟩ | ⟨h3,h4⟩ <;> lia
   rw[this.1,this.2]
   exact hq
theorem eA {o:List Int}(h:o.Pairwise (· <= ·))(nd:o.Nodup):o.Pairwise (· < ·):=by
 have:o.Pairwise (λa b=>a<=b/\a≠b):=Mb h nd
 exact this.imp λ{a b} z=>by lia
theorem gR:∀{l m:List Int},l.Pairwise (· < ·)->m.Pairwise (· < ·)->(∀x,x∈l↔x∈m)->l=m
 | [],[],_,_,_=>rfl
 | [],b :: m,_,_,h=>by have:=(h b).mpr Di;cases this
 | a :: l,[],_,_,h=>by have:=(h a).mp Di;cases this
 | a :: l,b :: m,h1,h2,h=>by
  obtain ⟨a1,l1⟩:=HI.mp h1
  obtain ⟨b1,m1⟩:=HI.mp h2
  have e:a=b:=by
   rcases C9.mp ((h a).mp Di) with z | z
   ·exact z
   rcases C9.mp ((h b).mpr Di) with y | y
   ·exact y.symm
   have:=a1 b y
   have:=b1 a z
   lia
  subst e
  rw[gR l1 m1 λx=>⟨λhx =>?_,λhx =>?_⟩]
  ·rcases C9.mp ((h x).mp (Dj _ hx)) with z | z
   ·have:=a1 x hx;lia
   ·exact z
  ·rcases C9.mp ((h x).mpr (Dj _ hx)) with z | z
   ·have:=b1 x hx;lia
   ·exact z
structure Rows (H2 H':Hp)(as:List Addr)(vs:List (List Int)):Prop where
 len:vs.length=as.length
 row:∀(j:Nat) a v,as[j]? = some a->vs[j]? = some v->H' a=some (.lst (v.map V.int))
 stay:∀b u,b∉as->H2 b=some u->H' b=some u
theorem Rows.push {H2 H':Hp}{as:List Addr}{vs:List (List Int)}(R:Rows H2 H' as vs)(nd:as.Nodup){j:Nat}{a:Addr}{v:List Int}(ea:as[j]? = some a)(ev:vs[j]? = some v)(x:Int) :
  Rows H2 (upd H' a (.lst ((v.map V.int)++[V.int x]))) as (vs.set j (v++[x])):=by
 have hj:j<vs.length:=(CP.mp ev).1
 refine ⟨by rw[Gn];exact R.len,λi b u eb eu =>?_,λb u hb e =>?_⟩
 ·by_cases h:i=j
  ·subst h
   rw[ea] at eb;cases eb
   rw[Ey hj] at eu;cases eu
   rw[ag,C2];rfl
  ·rw[E2 (D8 h)] at eu
   have ne:b≠a:=λz=>by
    subst z
    have hi:i<as.length:=(CP.mp eb).1
    exact h ((Gu hi nd).mp (eb.trans ea.symm))
   rw[aD ne]
   exact R.row i b u eb eu
 ·have ne:b≠a:=λz=>hb (z ▸ CT ea)
  rw[aD ne]
  exact R.stay b u hb e
def BA (vs:List (List Int))(m:Nat)(ns:List (List Int)):Prop:=vs.length=m/\∀(j:Nat) v,vs[j]? = some v->v=nbs ns (j:Int)
theorem uL (k:Int):∀ns:List (List Int),(nbs ns k).length<=ns.length
 | []=>by simp[nbs]
 | p :: ns=>by
  show (nb1 p k++nbs ns k).length<=_
  have:=uL k ns
  have h1:(nb1 p k).length<=1:=by unfold nb1;(repeat' split) <;> simp
  rw[CL,Dx]
  lia
theorem qY (ns:List (List Int))(p:List Int)(k:Int):nbs (ns++[p]) k=nbs ns k++nb1 p k:=by unfold nbs;simp
abbrev qZ:Sp:=λvs H Q _=>∃(r:Addr) (m:Int) (ts:List (Addr×List Int)),vs=[.ref r]/\Wb H r m ts/\0<=m/\m<=1000/\∀(l:Addr) (H':Hp) (os:List (Addr×List Int)),aE H H'->H' l=some (.lst (os.map λu =>.ref u.1))->os.length=m.toNat->(∀u∈os,H' u.1=some (.lst (u.2.map V.int))) →
 (∀(j:Nat) u,os[j]? = some u->u.2.Pairwise (· < ·)/\∀x,x∈u.2↔x∈nbs (ts.map (·.2)) (j:Int))->Q (.ref l) H'
@[irreducible] def gS:Sp:=qZ
theorem dB {vs:List V}{H:Hp}{Q:VK}{E:XK}:gS vs H Q E↔qZ vs H Q E:=by
 delta gS
 exact Fd
theorem mX {X:Cx}{K:CM}(h:X.K=K:=by rfl):bK X (.builtin "sorted") (λxs H Q=>∃(p:Addr) (ns:List Int),xs=[.ref p]/\(SqL K H p (ns.map V.int)\/SqT K H p (ns.map V.int))/\∀(l:Addr) (out:List Int),H l=none->out.Perm ns->out.Pairwise (· <= ·)->Q (.ref l) (upd H l (.lst (out.map V.int)))):=by
 subst h;exact i4
section
variable  {P:De}{w:DN}{K:CM}{mg:Str->Option CJ}{base:Heap}{f:Addr}{fd:Eh}
theorem ndPl:(["place"]:List Str).Nodup:=by decide +kernel
theorem ndRo:(["row"]:List Str).Nodup:=by decide +kernel
theorem pC:aO ["web", "near", "tie"] ["web"] (aF x8):=⟨rfl,rfl,rfl,by decide +kernel,rfl,by decide +kernel,by decide +kernel⟩
theorem zO (F:Fun K "near_lists" "near_lists" x8 f fd)(mr:mg "range" = none)(mst:mg "set" = none)(mso:mg "sorted" = none):bS P w K mg base CX0 1 f fd ["web"] gS:=by
 refine F.ok pC (λvs H Q E h =>?_) (λcdv A outer s H vs Q E hr h =>?_)
 ·obtain ⟨a,b,c,rfl,_⟩:=dB.mp h
  rfl
 obtain ⟨r,m,ts,rfl,W,m0,m1,q⟩:=dB.mp h
 obtain ⟨t,e1,e2⟩:=W.at'
 refine ⟨_,ai (dZ (i:=1) ["place"] [none] rfl pC.nd rfl rfl (bA rfl mr (aa (aH aI (pv 0) ak (λ_ _=>rfl)) ah)) rfl (λ_ _ _ _ _=>aq (i:=0) ndPl rfl (Or.inl rfl)) (λ_ _ _ _ _=>cG) (λ_ _ _ _ _=>bX ah))
  (ai (bN DE rfl (bR (az (gj (w:=w) rfl hr.hd) rfl mso cN (aa (aJ (lK (w:=w) rfl hr.hd hr.units) rfl mst PySem.Pv.boot_set (aa (aH aI (pv 0) ak (λ_ _=>rfl)) ah)) ah))) (aq (i:=2) pC.nd rfl (Or.inl rfl))
   (au (bC (aK kO (aH aI (pv 2) ak (λ_ _=>rfl)) (aH aI (pv 2) ak (λ_ _=>rfl)) (aS _))
    (ai (bI (cU Dq DK DL bD (aH b8 (pv 1) (aH aI (pv 2) ak (λ_ _=>rfl)) (λ_ _=>rfl)) (aa (aH aI (pv 2) ak (λ_ _=>rfl)) ah)))
    (au (bI (cU Dq DK DL bD (aH b8 (pv 1) (aH aI (pv 2) ak (λ_ _=>rfl)) (λ_ _=>rfl)) (aa (aH aI (pv 2) ak (λ_ _=>rfl)) ah))))) aR)))
  (au (aL (bT ["row"] [none] rfl (bR (pv 1)) rfl (λ_ _ _ _ _=>aq (i:=0) ndRo rfl (Or.inl rfl)) (λ_ _ _ _ _=>cG) (λ_ _ _ _ _=>az (mX (K:=K)) rfl mso cN (aa (pv 0) ah)))))),?_⟩
 let W0:Nat->List V->Hp->Prop:=λi ys H'=>aE H H'/\∃as:List Addr,ys=as.map V.ref/\as.length=i/\as.Nodup/\∀a∈as,H a=none/\H' a=some (.lst [])
 refine ⟨_,rfl,r,_,0,_,rfl,rfl,SqT.of e1,rfl,m,rfl,by lia,by lia,cK (lo:=0) (n:=m.toNat) W0 ⟨aE.refl _,[],rfl,rfl,Gj,λa ha=>by cases ha⟩ (small (by lia)) ?_ ?_⟩
 ·rintro i ys H3 hi hy ⟨s3,as,rfl,la,nd,ha⟩ R1 R0 r1 r0
  refine bF ⟨(by show 0<=C6;decide),λp hp=>r1 _ _ ⟨s3.trans (af hp _),as++[p],by rw[C2];rfl,by rw[CL,la];rfl,?_,λa m' =>?_⟩⟩
  ·rw[Fc]
   refine ⟨nd,E5.mpr ⟨by simp,Gj⟩,λx hx y hy e =>?_⟩
   rw[CQ] at hy
   subst hy;subst e
   rw[(ha x hx).2] at hp;cases hp
  ·rcases CW.mp m' with z | z
   ·exact ⟨(ha a z).1,(af hp _) _ _ (ha a z).2⟩
   ·rw[CQ] at z
    subst z
    refine ⟨?_,ag⟩
    cases e:H a with
    | none=>rfl
    | some o=>rw[s3 _ _ e] at hp;cases hp
 rintro ys H3 hy ⟨s3,as,rfl,la,nd,ha⟩ l hl
 have s1:=s3.trans (af hl (.lst (as.map V.ref)))
 have nl:l∉as:=λz=>by rw[(ha l z).2] at hl;cases hl
 have ha1:∀a∈as,upd H3 l (.lst (as.map V.ref)) a=some (.lst []):=λa z=>(af hl _) _ _ (ha a z).2
 have hl1:upd H3 l (.lst (as.map V.ref)) l=some (.lst (as.map V.ref)):=ag
 generalize upd H3 l (.lst (as.map V.ref))=H1 at s1 ha1 hl1
 have tsl:=W.len
 refine ⟨_,rfl,r,_,1,_,rfl,rfl,SqT.of (s1 _ _ e1),rfl,t,ts,rfl,.inr (SqT.of (s1 _ _ e2)),λu hu=>SqT.of (s1 _ _ (W.tup u hu)),by lia,λa us hna mu ndu cov hlu =>?_⟩
 have sa:=af hna (eR w a (us.map λt =>.ref t.1))
 refine ⟨a,us,rfl,ag,λu hu=>⟨SqT.of (sa _ _ (s1 _ _ (W.tup u (mu u hu)))),λz =>?_⟩,by lia,λl2 out hl2 pm ps =>?_⟩
 ·obtain ⟨x,y,e,_⟩:=W.pr u (mu u hu)
  rw[z] at e;cases e
 have s2':=sa.trans (af hl2 (.lst (out.map λt =>.ref t.1)))
 have s2:=s1.trans s2'
 have nl2:l2∉as:=λz=>by rw[sa _ _ (ha1 l2 z)] at hl2;cases hl2
 have h2l2:upd (upd H1 a (eR w a (us.map λt =>.ref t.1))) l2 (.lst (out.map λt =>.ref t.1)) l2=some (.lst (out.map λt =>.ref t.1)):=ag
 generalize upd (upd H1 a (eR w a (us.map λt =>.ref t.1))) l2 (.lst (out.map λt =>.ref t.1))=H2 at s2 s2' h2l2
 have old:∀{b:Addr} {o:HO},H b=some o->b∉as:=λ{b o} e z=>by rw[(ha b z).1] at e;cases e
 let W1:Nat->St->Hp->Prop:=λi σ H'=>(∃c,σ=[some (.ref r),some (.ref l),c])/\∃vs,Rows H2 H' as vs/\BA vs m.toNat ((out.take i).map (·.2))
 refine ⟨l2,rfl,⟨_,SqL.of h2l2⟩,dY (xs:=out.map λu =>.ref u.1) W1 ⟨⟨_,rfl⟩,DV m.toNat [],⟨by rw[Ga,la],λj b v eb ev =>?_,λb u _ e=>e⟩,Ga ..,λj v ev =>?_⟩ (λi σ H' _ z =>?_) ?_ ?_⟩
 ·rw[HB] at ev
  split at ev
  ·cases ev
   exact s2' _ _ (ha1 b (CT eb))
  ·cases ev
 ·rw[HB] at ev
  split at ev
  ·cases ev;rfl
  ·cases ev
 ·obtain ⟨_,vs,R,_⟩:=z
  exact SqL.of (R.stay l2 _ nl2 h2l2)
 ·rintro i x σ H' hx ⟨⟨c,rfl⟩,vs,R,lv,RO⟩
  obtain ⟨u,eu,rfl⟩:=item hx
  have mts:=mu u (pm.mem_iff.mp (CT eu))
  obtain ⟨x,y,e3,x0,xy,ym⟩:=W.pr u mts
  have hu0:=W.tup u mts
  have hu':H' u.1=some (.tup [.int x,.int y]):=by
   rw[e3] at hu0
   exact R.stay _ _ (old hu0) (s2 _ _ hu0)
  have tk:(out.take (i+1)).map (·.2)=(out.take i).map (·.2)++[[x,y]]:=by rw[take_snoc (f:=λu:Addr×List Int=>u.2) eu,e3]
  obtain ⟨xn,rfl⟩:∃n:Nat,x=n:=⟨x.toNat,by lia⟩
  obtain ⟨yn,rfl⟩:∃n:Nat,y=n:=⟨y.toNat,by lia⟩
  have hlst:=R.stay l _ nl (s2' _ _ hl1)
  have axn:as[xn]? = some as[xn]:=CI (by lia)
  have ayn:as[yn]? = some as[yn]:=CI (by lia)
  have vxn:vs[xn]? = some vs[xn]:=CI (by lia)
  have vyn:vs[yn]? = some vs[yn]:=CI (by lia)
  have at1:atI (as.map V.ref) (xn:Int)=some (.ref as[xn]):=cD (by rw[CU,axn];rfl)
  have at2:atI (as.map V.ref) (yn:Int)=some (.ref as[yn]):=cD (by rw[CU,ayn];rfl)
  have ll:∀(j:Nat) v,vs[j]? = some v->v.length<=200:=λj v ev=>by
   rw[RO j v ev]
   refine DT (uL _ _) ?_
   rw[CG,Eb]
   have:=pm.length_eq
   lia
  refine ⟨_,rfl,u.1,_,0,_,rfl,rfl,SqT.of hu',rfl,_,rfl,u.1,_,1,_,rfl,rfl,SqT.of hu',rfl,rfl,_,rfl,?_⟩
  by_cases hxy:xn=yn
  ·subst hxy
   refine kX rfl ⟨⟨_,rfl⟩,vs,R,lv,λj v ev =>?_⟩
   have nil:nb1 [(xn:Int),(xn:Int)] j=[]:=by unfold nb1;simp
   rw[tk,qY,nil,DU]
   exact RO j v ev
  ·have hd:decide (V.int (xn:Int)=V.int (yn:Int))=false:=decide_eq_false λz=>hxy (by injection z with z;lia)
   rw[hd]
   have rowx:=R.row xn _ _ axn vxn
   have R1:=R.push nd axn vxn (yn:Int)
   have vyn':(vs.set xn (vs[xn]++[(yn:Int)]))[yn]? = some vs[yn]:=by rw[E2 hxy];exact vyn
   have rowy:=R1.row yn _ _ ayn vyn'
   have R2:=R1.push nd ayn vyn' (xn:Int)
   have hu2:=R1.stay _ _ (old hu0) (s2 _ _ hu0)
   rw[e3] at hu2
   have hlst2:=R1.stay l _ nl (s2' _ _ hl1)
   refine bF ⟨_,rfl,_,rfl,u.1,_,0,_,rfl,rfl,SqT.of hu',rfl,l,_,(xn:Int),_,rfl,rfl,SqL.of hlst,at1,.inl ⟨rfl,_,SqL.of rowx⟩,_,rfl,u.1,_,1,_,rfl,rfl,SqT.of hu',rfl,as[xn],_,_,rfl,rfl,rowx,(by rw[CG];exact bE (by have:=ll _ _ vxn;lia)),?_⟩
   refine ⟨_,rfl,_,rfl,u.1,_,1,_,rfl,rfl,SqT.of hu2,rfl,l,_,(yn:Int),_,rfl,rfl,SqL.of hlst2,at2,.inl ⟨rfl,_,SqL.of rowy⟩,_,rfl,u.1,_,0,_,rfl,rfl,SqT.of hu2,rfl,as[yn],_,_,rfl,rfl,rowy,(by rw[CG];exact bE (by have:=ll _ _ vyn;lia)),?_⟩
   refine ⟨⟨_,rfl⟩,_,R2,by rw[Gn,Gn];exact lv,λj v ev =>?_⟩
   rw[tk,qY]
   by_cases jy:yn=j
   ·subst jy
    rw[Ey (by rw[Gn];lia)] at ev
    cases ev
    have e4:nb1 [(xn:Int),(yn:Int)] yn=[(xn:Int)]:=by
     show (if (xn:Int)=yn then [] else if (xn:Int)=yn then [(yn:Int)] else if (yn:Int)=yn then [(xn:Int)] else [])=_
     rw[if_neg (by lia),if_neg (by lia),if_pos rfl]
    rw[e4, <- RO yn _ vyn]
   ·rw[E2 jy] at ev
    by_cases jx:xn=j
    ·subst jx
     rw[Ey (by lia)] at ev
     cases ev
     have e4:nb1 [(xn:Int),(yn:Int)] xn=[(yn:Int)]:=by
      show (if (xn:Int)=yn then [] else if (xn:Int)=xn then [(yn:Int)] else if (yn:Int)=xn then [(xn:Int)] else [])=_
      rw[if_neg (by lia),if_pos rfl]
     rw[e4, <- RO xn _ vxn]
    ·rw[E2 jx] at ev
     have e4:nb1 [(xn:Int),(yn:Int)] j=[]:=by
      show (if (xn:Int)=yn then [] else if (xn:Int)=j then [(yn:Int)] else if (yn:Int)=j then [(xn:Int)] else [])=_
      rw[if_neg (by lia),if_neg (by lia),if_neg (by lia)]
     rw[e4,DU]
     exact RO j v ev
 ·rintro σ H' ⟨⟨c,rfl⟩,vs,R,lv,RO⟩
  have hlst:=R.stay l _ nl (s2' _ _ hl1)
  rw[CG,C7 (CO _)] at RO
  have sH':aE H H':=λb o e=>R.stay b o (old e) (s2 _ _ e)
  have kns:(out.map (·.2)).Nodup:=((pm.map (·.2)).nodup_iff).mpr ndu
  have mns:∀x,x∈out.map (·.2)↔x∈ts.map (·.2):=λx=>by
   rw[(pm.map (·.2)).mem_iff]
   constructor
   ·intro hx
    obtain ⟨u,hu,rfl⟩:=Du.mp hx
    exact Du.mpr ⟨u,mu u hu,rfl⟩
   ·intro hx
    obtain ⟨u,hu,rfl⟩:=Du.mp hx
    exact cov u hu
  have pns:∀p∈out.map (·.2),∃a b:Int,p=[a,b]/\a<=b:=λp hp=>by
   obtain ⟨u,hu,rfl⟩:=Du.mp ((mns p).mp hp)
   obtain ⟨a,b,e,_,ab,_⟩:=W.pr u hu
   exact ⟨a,b,e,ab⟩
  have nbm:∀k x,x∈nbs (out.map (·.2)) k↔x∈nbs (ts.map (·.2)) k:=λk x=>by
   rw[cF,cF]
   exact ⟨λ⟨p,hp,z⟩=>⟨p,(mns p).mp hp,z⟩,λ⟨p,hp,z⟩=>⟨p,(mns p).mpr hp,z⟩⟩
  let W2:Nat->List V->Hp->Prop:=λi ys H5=>aE H' H5/\∃os:List (Addr×List Int),ys=(os.map λu=>V.ref u.1)/\os.length=i/\(∀u∈os,H5 u.1=some (.lst (u.2.map V.int)))/\∀(j:Nat) u v,os[j]? = some u->vs[j]? = some v->u.2.Perm v/\u.2.Pairwise (· <= ·)
  refine ⟨_,rfl,l,rfl,⟨_,SqL.of hlst⟩,cf (xs:=as.map V.ref) W2 ⟨aE.refl _,[],rfl,rfl,λu hu=>(by cases hu),λj u v eu=>by simp at eu⟩ (by rw[CG];exact small (by lia)) (λi ys H5 _ z=>SqL.of (z.1 _ _ hlst)) ?_ ?_⟩
  ·rintro i x ys H5 hx hy ⟨s5,os,rfl,lo,ho,po⟩ R1 R0 r1 r0
   rw[CU] at hx
   cases ea:as[i]? with
   | none=>rw[ea] at hx;cases hx
   | some a5 =>
    rw[ea] at hx
    cases hx
    have hi:i<as.length:=(CP.mp ea).1
    have ev:vs[i]? = some vs[i]:=CI (by lia)
    have rowa:=s5 _ _ (R.row i _ _ ea ev)
    refine bF ⟨_,rfl,a5,vs[i],rfl,.inl (SqL.of rowa),λl5 o5 hl5 pm5 ps5=>r1 _ _ ⟨s5.trans (af hl5 _),os++[(l5,o5)],by rw[C2];rfl,by rw[CL,lo];rfl,λu hu =>?_,λj u v eu ev' =>?_⟩⟩
    ·rcases CW.mp hu with z | z
     ·exact (af hl5 _) _ _ (ho u z)
     ·rw[CQ] at z;subst z;exact ag
    ·by_cases hj:j<os.length
     ·rw[Dv hj] at eu
      exact po j u v eu ev'
     ·have hj2:j=i:=by
       have:=(CP.mp eu).1
       rw[CL,D2] at this
       lia
      subst hj2
      rw[DB (by lia),show j-os.length=0 by lia] at eu
      cases eu
      rw[ev] at ev';cases ev'
      exact ⟨pm5,ps5⟩
  ·rintro ys H5 hy ⟨s5,os,rfl,lo,ho,po⟩ l5 hl5
   rw[CG] at lo
   have s6:=af hl5 (.lst (os.map λu=>V.ref u.1))
   refine q l5 _ os (sH'.trans (s5.trans s6)) ag (by lia) (λu hu=>s6 _ _ (ho u hu)) λj u eu =>?_
   have hj:j<os.length:=(CP.mp eu).1
   have ev:vs[j]? = some vs[j]:=CI (by lia)
   obtain ⟨p1,p2⟩:=po j u _ eu ev
   have e5:=RO j _ ev
   rw[e5] at p1
   refine ⟨eA p2 (p1.nodup_iff.mpr (ou kns pns)),λx =>?_⟩
   rw[p1.mem_iff]
   exact nbm _ _
end
open PySem L2
def Adj (ns:List (List Int))(u v:Int):Prop:=v∈nbs ns u
inductive Con (ns:List (List Int)):Int->Int->Prop
 | refl (u:Int):Con ns u u
 | step {u v w:Int}:Con ns u v->Adj ns v w->Con ns u w
def Ok (m:Nat)(ns:List (List Int)):Prop:=∀p∈ns,∃a b:Int,p=[a,b]/\0<=a/\a<=b/\b<m
theorem cW {m:Nat}{ns:List (List Int)}(O:Ok m ns){u v:Int}:Adj ns u v↔∃a b:Int,[a,b]∈ns/\a≠b/\((a=u/\v=b)\/(b=u/\v=a)):=by
 unfold Adj
 rw[cF]
 constructor
 ·rintro ⟨p,hp,h⟩
  obtain ⟨a,b,rfl,_⟩:=O p hp
  exact ⟨a,b,hp,kj.mp h⟩
 ·rintro ⟨a,b,hp,h⟩
  exact ⟨[a,b],hp,kj.mpr h⟩
theorem jf {m:Nat}{ns:List (List Int)}(O:Ok m ns){u v:Int}(h:Adj ns u v):Adj ns v u:=by
 rw[cW O] at *
 obtain ⟨a,b,hp,ne,h⟩:=h
 refine ⟨a,b,hp,ne,?_⟩
 rcases h with ⟨h1,h2⟩ | ⟨h1,h2⟩
 ·exact .inr ⟨h2.symm,h1.symm⟩
 ·exact .inl ⟨h2.symm,h1.symm⟩
theorem ko {m:Nat}{ns:List (List Int)}(O:Ok m ns){u v:Int}(h:Adj ns u v):(0<=u/\u<m)/\0<=v/\v<m:=by
 rw[cW O] at h
 obtain ⟨a,b,hp,ne,h⟩:=h
 obtain ⟨a',b',e,h1,h2,h3⟩:=O _ hp
 injection e with e1 e2
 injection e2 with e2 _
 subst e1;subst e2
 rcases h with ⟨h4,h5⟩ | ⟨h4,h5⟩ <;> subst h4 <;> subst h5 <;> omega
theorem Con.trans {ns:List (List Int)}{u v w:Int}(h:Con ns u v)(h2:Con ns v w):Con ns u w:=by
 induction h2 with
 | refl=>exact h
 | step _ a ih=>exact .step ih a
theorem Con.one {ns:List (List Int)}{u v:Int}(h:Adj ns u v):Con ns u v :=.step (.refl u) h
theorem Con.symm {m:Nat}{ns:List (List Int)}(O:Ok m ns){u v:Int}(h:Con ns u v):Con ns v u:=by
 induction h with
 | refl=>exact .refl _
 | step _ a ih=>exact (Con.one (jf O a)).trans ih
theorem Con.rng {m:Nat}{ns:List (List Int)}(O:Ok m ns){u v:Int}(h:Con ns u v)(hu:0<=u/\u<m):0<=v/\v<m:=by
 induction h with
 | refl=>exact hu
 | step _ a _=>exact (ko O a).2
theorem Con.closed {ns:List (List Int)}{u v:Int}(h:Con ns u v){R:Int->Prop}(hu:R u)(hc:∀x y,R x->Adj ns x y->R y):R v:=by
 induction h with
 | refl=>exact hu
 | step _ a ih=>exact hc _ _ ih a
def rgI (m:Nat):List Int:=(Ei m).map λi:Nat=>(i:Int)
theorem cq {m:Nat}{v:Int}:v∈rgI m↔0<=v/\v<m:=by
 unfold rgI
 rw[Du]
 constructor
 ·rintro ⟨i,hi,rfl⟩
  rw[Eg] at hi
  lia
 ·intro h
  exact ⟨v.toNat,Eg.mpr (by lia),by lia⟩
open Classical in
noncomputable def fW (ns:List (List Int))(m:Nat)(u:Int):List Int:=(rgI m).filter λv=>decide (Con ns u v)
open Classical in
theorem ox {m:Nat}{ns:List (List Int)}(O:Ok m ns){u v:Int}(hu:0<=u/\u<m):v∈fW ns m u↔Con ns u v:=by
 unfold fW
 rw[DX]
 constructor
 ·intro h;exact of_decide_eq_true h.2
 ·intro h
  have:=h.rng O hu
  exact ⟨cq.mpr this,decide_eq_true h⟩
theorem mj (m:Nat):(rgI m).Pairwise (· < ·):=by
 unfold rgI
 rw[Ef]
 exact HM.imp λh=>by lia
theorem ml (ns:List (List Int))(m:Nat)(u:Int):(fW ns m u).Pairwise (· < ·):=(mj m).filter _
def Fst (ns:List (List Int))(u:Int):Prop:=∀w:Int,0<=w->w<u->¬ Con ns w u
open Classical in
noncomputable def a9 (ns:List (List Int))(m i:Nat):List (List Int):=((rgI i).filter λu=>decide (Fst ns u)).map (fW ns m)
theorem jg (ns:List (List Int))(m i:Nat)[Decidable (Fst ns (i:Int))]:a9 ns m (i+1)=a9 ns m i++if Fst ns (i:Int) then [fW ns m i] else []:=by
 unfold a9
 have e:rgI (i+1)=rgI i++[(i:Int)]:=by unfold rgI;rw[LB,C2];rfl
 rw[e,GO,C2]
 congr 1
 by_cases h:Fst ns (i:Int)
 ·rw[if_pos h];simp[h]
 ·rw[if_neg h];simp[h]
def gt (L:List Int)(a:Int):Int:=L.getD a.toNat 0
def lower (L:List Int)(p:List Int):List Int :=
 let x:=mnI (gt L (p.getD 0 0)) (gt L (p.getD 1 0))
 (L.set (p.getD 0 0).toNat x).set (p.getD 1 0).toNat x
theorem BB {L:List Int}{a b x:Int}(ha:0<=a/\a<L.length)(hb:0<=b):gt (L.set a.toNat x) b=if b=a then x else gt L b:=by
 unfold gt
 by_cases h:b=a
 ·subst h
  rw[if_pos rfl,C0,Ey (by lia)];rfl
 ·rw[if_neg h,C0,E2 (by lia), <- C0]
theorem zP {m:Nat}{ns:List (List Int)}(O:Ok m ns){a b:Int}(hp:[a,b]∈ns):Con ns a b:=by
 by_cases h:a=b
 ·subst h;exact .refl a
 ·exact .one ((cW O).mpr ⟨a,b,hp,h,.inl ⟨rfl,rfl⟩⟩)
def rounds (ns:List (List Int)):Nat->List Int->List Int
 | 0,L=>L
 | r+1,L=>ns.foldl lower (rounds ns r L)
def has (m:Nat)(L:List Int)(c:Int):Nat:=(rgI m).countP λv=>decide (gt L v=c)
theorem ye {m:Nat}{ns:List (List Int)}(O:Ok m ns):∀(n:Nat) (v:Int),0<=v->v<m->v.toNat<=n->∃c,Fst ns c/\0<=c/\c<m/\Con ns c v:=by
 intro n
 induction n with
 | zero =>
  intro v v0 vm hn
  exact ⟨v,λw w0 lt=>by lia,v0,vm,.refl v⟩
 | succ n ih =>
  intro v v0 vm hn
  by_cases hf:Fst ns v
  ·exact ⟨v,hf,v0,vm,.refl v⟩
  ·have:∃w,0<=w/\w<v/\Con ns w v:=Gk λz=>hf λw w0 lt hw=>z ⟨w,w0,lt,hw⟩
   obtain ⟨w,w0,lt,hw⟩:=this
   obtain ⟨c,c1,c2,c3,c4⟩:=ih w w0 (by lia) (by lia)
   exact ⟨c,c1,c2,c3,c4.trans hw⟩
theorem rd {m:Nat}{ns:List (List Int)}(O:Ok m ns){c d:Int}(hc:Fst ns c)(hd:Fst ns d)(c0:0<=c)(d0:0<=d)(h:Con ns c d):c=d:=by
 have h1:¬ c<d:=λlt=>hd c c0 lt h
 have h2:¬ d<c:=λlt=>hc d d0 lt (h.symm O)
 lia
def drawn (m:Nat)(L:List Int):List (List Int):=((rgI m).filter λf=>decide (gt L f=f)).map λf=>(rgI m).filter λv=>decide (gt L v=f)
def fD (R:List Int):List (Key×V):=R.map λk=>(Sum.inl k,V.bl true)
theorem mq (v:Int):∀R:List Int,de (fD R) (Sum.inl v)=if v∈R then some (.bl true) else none
 | []=>by simp[fD,de]
 | k :: R=>by
  have ih:=mq v R
  unfold fD at *
  rw[Dy]
  by_cases h:k=v
  ·subst h
   rw[gn rfl,if_pos Di]
  ·rw[gp (λe=>h (by injection e)),ih]
   by_cases hv:v∈R
   ·rw[if_pos hv,if_pos (Dj _ hv)]
   ·rw[if_neg hv,if_neg (λz=>(C9.mp z).elim (λy=>h y.symm) hv)]
theorem oy (v:Int)(R:List Int):(de (fD R) (Sum.inl v)).isSome=decide (v∈R):=by
 rw[mq]
 by_cases h:v∈R
 ·rw[if_pos h,decide_eq_true h];rfl
 ·rw[if_neg h,decide_eq_false h];rfl
theorem rf {v:Int}{R:List Int}(h:v∉R):putK (fD R) (Sum.inl v) (.bl true)=fD (R++[v]):=by
 rw[qL _ (by rw[mq,if_neg h])]
 unfold fD
 rw[C2]
 rfl
theorem jh (R:List Int):(fD R).length=R.length:=by unfold fD;rw[CG]
theorem wb (R:List Int):(fD R).map (·.1)=R.map Sum.inl:=by unfold fD;rw[FJ];rfl
theorem bZ {R:List Int}{m:Nat}(nd:R.Nodup)(h:∀v∈R,0<=v/\v<m):R.length<=m:=by
 have:=EG nd (l₂:=rgI m) λv hv=>cq.mpr (h v hv)
 unfold rgI at this
 rw[CG,EY] at this
 exact this
theorem df {R:List Int}{v:Int}(nd:R.Nodup)(h:v∉R):(R++[v]).Nodup:=by
 rw[Fc]
 exact ⟨nd,E5.mpr ⟨by simp,Gj⟩,λx hx y hy e=>h (by rw[CQ] at hy;subst hy;subst e;exact hx)⟩
structure gy (H:Hp)(n:Addr)(m:Nat)(ns:List (List Int))(os:List (Addr×List Int)):Prop where
 at':H n=some (.lst (os.map λu =>.ref u.1))
 len:os.length=m
 row:∀u∈os,H u.1=some (.lst (u.2.map V.int))
 is:∀(j:Nat) u,os[j]? = some u->∀x,x∈u.2↔x∈nbs ns (j:Int)
theorem gy.same {H H':Hp}{n:Addr}{m:Nat}{ns:List (List Int)}{os:List (Addr×List Int)}(h:gy H n m ns os)(s:aE H H'):gy H' n m ns os:=⟨s _ _ h.at',h.len,λu hu=>s _ _ (h.row u hu),h.is⟩
abbrev rh:Sp:=λvs H Q _=>∃(n:Addr) (m:Nat) (ns:List (List Int)) (os:List (Addr×List Int)) (s:Int),vs=[.ref n,.int s]/\gy H n m ns os/\Ok m ns/\m<=400/\0<=s/\s<m/\∀(l:Addr) (H':Hp),aE H H'->H' l=some (.lst ((fW ns m s).map V.int))->Q (.ref l) H'
@[irreducible] def kq:Sp:=rh
theorem gz {vs:List V}{H:Hp}{Q:VK}{E:XK}:kq vs H Q E↔rh vs H Q E:=by
 delta kq
 exact Fd
def j9 (H:Hp)(d:Addr):Nat:=match H d with | some (.dK kvs)=>kvs.length | _=>0
def mY (H:Hp)(y:Addr):Nat:=match H y with | some (.lst xs)=>xs.length | _=>0
structure RY (ns:List (List Int))(m:Nat)(s:Int)(R Y:List Int):Prop where
 nd:R.Nodup
 st:s∈R
 con:∀v∈R,Con ns s v
 sub:∀v∈Y,v∈R
section
variable  {P:De}{w:DN}{K:CM}{mg:Str->Option CJ}{base:Heap}{f:Addr}{fd:Eh}
theorem ji:aO ["near", "start", "reached", "ready", "place", "other"] ["near", "start"] (aF yb):=⟨rfl,rfl,rfl,by decide +kernel,rfl,by decide +kernel,by decide +kernel⟩
theorem zQ (F:Fun K "reached_from" "reached_from" yb f fd)(mso:mg "sorted" = none):bS P w K mg base CX0 1 f fd ["near", "start"] kq:=by
 refine F.ok ji (λvs H Q E h =>?_) (λcdv A outer s0 H vs Q E hr h =>?_)
 ·obtain ⟨a,b,c,d,e,rfl,_⟩:=gz.mp h
  rfl
 obtain ⟨n,m,ns,os,s,rfl,N,O,m9,s0',sm,q⟩:=gz.mp h
 have hu:=qo hr
 refine ⟨_,ai (aM (i:=2) ji.nd rfl (Or.inl rfl) (uy (qQ (pv 1) hZ ux) rfl rfl (by simp) (by decide)))
  (ai (aM (i:=3) ji.nd rfl (Or.inl rfl) (bX (aa (pv 1) ah)))
  (ai (iM DE (kQ (pv 3) (λ_=>rfl))
   (ai (aM (i:=4) ji.nd rfl (Or.inl rfl) (wR Dq GV GW wU (pv 3)))
   (au (bN DE rfl (bR (aH b8 (pv 0) (pv 4) (λ_ _=>rfl))) (aq (i:=5) ji.nd rfl (Or.inl rfl))
    (au (bC (fZ (dS hu (pv 5) (pv 2)))
     (ai (i7 hu (pv 2) (pv 5) hZ rfl) (au (bI (cU Dq DK DL bD (pv 3) (aa (pv 5) ah))))) aR))))))
  (au (aL (az (ph hr.hd) rfl mso cN (aa (pv 2) ah)))))),?_⟩
 refine λd hd=>⟨_,rfl,ag,[(Sum.inl s,.bl true)],rfl,(by show 1<=15;decide),_,rfl,(by show 1<=C6;decide),λy hy =>?_⟩
 have e1d:upd (upd H d (.dK [])) d (.dK (dE [] [(Sum.inl s,V.bl true)])) d=some (.dK (fD [s])):=ag
 have s1:aE H (upd (upd H d (.dK [])) d (.dK (dE [] [(Sum.inl s,V.bl true)]))):=λb o e=>by
  rw[aD (aB e hd),aD (aB e hd)];exact e
 have hy0:H y=none:=by
  cases e:H y with
  | none=>rfl
  | some o=>rw[s1 _ _ e] at hy;cases hy
 have ndy:d≠y:=aB e1d hy
 have e2d:=(af hy (.lst [.int s])) _ _ e1d
 have e2y:upd (upd (upd H d (.dK [])) d (.dK (dE [] [(Sum.inl s,V.bl true)]))) y (.lst [.int s]) y=some (.lst (([s]:List Int).map V.int)):=ag
 have s2:=s1.trans (af hy (.lst [.int s]))
 generalize upd (upd (upd H d (.dK [])) d (.dK (dE [] [(Sum.inl s,V.bl true)]))) y (.lst [.int s])=H2 at e2d e2y s2
 have rngR:∀{R Y:List Int},RY ns m s R Y->∀v∈R,0<=v/\v<m:=λI v hv=>(I.con v hv).rng O ⟨s0',sm⟩
 dsimp only[eZ,yN]
 refine iN (λσ H'=>∃(c4 c5:Option V) (R Y:List Int),σ=[some (.ref n),some (.int s),some (.ref d),some (.ref y),c4,c5]/\aE H H'/\H' d=some (.dK (fD R))/\H' y=some (.lst (Y.map V.int))/\RY ns m s R Y/\2*(m-R.length)+Y.length<=2*m/\(∀u∈R,u∉Y->∀v,Adj ns u v->v∈R))
  (λ_ H'=>2*(m-j9 H' d)+mY H' y) ⟨none,none,[s],[s],rfl,s2,e2d,e2y,⟨E5.mpr ⟨by simp,Gj⟩,Di,λv hv =>?_,λv hv=>hv⟩,by show 2*(m-1)+1<=2*m;lia,λu hu nu=>absurd hu nu⟩ ?_ (by rintro σ H Q Q' h ⟨v,e,k,t,q⟩;exact ⟨v,e,k,t,h _ _ q⟩)
 ·rw[CQ] at hv;subst hv;exact .refl _
 rintro σ H' ⟨c4,c5,R,Y,rfl,s',ed,ey,I,ly,cl⟩
 refine ⟨_,rfl, !(Y.map V.int).isEmpty,.inl ⟨_,SqL.of ey,rfl⟩,?_⟩
 have mu0:2*(m-j9 H' d)+mY H' y=2*(m-R.length)+Y.length:=by
  unfold j9 mY
  rw[ed,ey]
  dsimp only
  rw[jh,CG]
 rcases Ge Y with hY | ⟨Y',p,hY⟩
 ·subst hY
  refine bM ⟨_,rfl,d,fD R,R,rfl,ed,wb R,λl out hl pm ps =>?_⟩
  have eo:out=fW ns m s:=gR (eA ps (pm.nodup_iff.mpr I.nd)) (ml ns m s) λx=>by
   rw[pm.mem_iff,ox O ⟨s0',sm⟩]
   exact ⟨I.con x,λh=>h.closed I.st λx y hx a=>cl x hx (by simp) y a⟩
  subst eo
  exact q l _ (s'.trans (af hl _)) ag
 ·rw[Gf] at hY
  subst hY
  have hne:(!(List.map V.int (Y'++[p])).isEmpty)=true:=by simp
  rw[hne]
  have pR:p∈R:=I.sub p (by simp)
  have pr:=rngR I p pR
  obtain ⟨pn,rfl⟩:∃k:Nat,p=k:=⟨p.toNat,by lia⟩
  refine bF ⟨_,rfl,.inl ⟨rfl,_,SqL.of ey⟩,y,_,.int pn,rfl,rfl,ey,?_,?_⟩
  ·rw[C2,CL];simp
  have dl:(List.map V.int (Y'++[(pn:Int)])).dropLast=Y'.map V.int:=by rw[C2];exact J4
  rw[dl]
  have s3:aE H (upd H' y (.lst (Y'.map V.int))):=λb o e=>by rw[aD (aB e hy0)];exact s' _ _ e
  have ed3:upd H' y (.lst (Y'.map V.int)) d=some (.dK (fD R)):=by rw[aD ndy];exact ed
  have ey3:upd H' y (.lst (Y'.map V.int)) y=some (.lst (Y'.map V.int)):=ag
  generalize upd H' y (.lst (Y'.map V.int))=H3 at s3 ed3 ey3
  have N3:=N.same s3
  have pl:pn<os.length:=by rw[N.len];lia
  obtain ⟨uu,eu⟩:∃u,os[pn]? = some u:=⟨_,CI pl⟩
  have rowu:=N3.row _ (CT eu)
  have isu:=N.is pn _ eu
  rw[CL,D2] at ly mu0
  refine ⟨_,rfl,_,rfl,n,_,(pn:Int),_,rfl,rfl,SqL.of N3.at',cD (by rw[CU,eu];rfl),uu.1,rfl,⟨_,SqL.of rowu⟩,dY (xs:=uu.2.map V.int)
   (λi σ H4=>∃(c5:Option V) (R4 Y4:List Int),σ=[some (.ref n),some (.int s),some (.ref d),some (.ref y),some (.int pn),c5]/\aE H H4/\H4 d=some (.dK (fD R4))/\H4 y=some (.lst (Y4.map V.int))/\RY ns m s R4 Y4/\(pn:Int)∈R4/\(∀u∈R4,u∉Y4->u≠pn->∀v,Adj ns u v->v∈R4)/\(∀v∈uu.2.take i,v∈R4)/\R4.length<=m/\2*(m-R4.length)+Y4.length+1<=2*(m-R.length)+(Y'.length+1))
   ⟨_,R,Y',rfl,s3,ed3,ey3,⟨I.nd,I.st,I.con,λv hv=>I.sub v (Dn _ hv)⟩,pR,λu hu nu ne=>cl u hu (λz=>(CW.mp z).elim nu λz=>ne (by simpa using z)),λv hv=>by simp at hv,bZ I.nd (rngR I),by lia⟩ (λi σ H4 _ z =>?_) ?_ ?_⟩
  ·obtain ⟨_,_,_,_,s4,_⟩:=z
   exact SqL.of ((N.same s4).row _ (CT eu))
  ·rintro i x σ H4 hx ⟨c5,R4,Y4,rfl,s4,ed4,ey4,I4,p4,cl4,tk4,l4,mu4⟩
   rw[CU] at hx
   cases ho:uu.2[i]? with
   | none=>rw[ho] at hx;cases hx
   | some o =>
   rw[ho] at hx
   cases hx
   have tks:uu.2.take (i+1)=uu.2.take i++[o]:=by rw[Ee,ho];rfl
   have oA:Adj ns pn o:=(isu o).mp (CT ho)
   refine ⟨_,rfl,_,rfl,d,_,rfl,fv.k (k:=Sum.inl o) ed4,_,rfl,?_⟩
   rw[oy]
   by_cases hR:o∈R4
   ·rw[decide_eq_true hR]
    refine bM ⟨_,R4,Y4,rfl,s4,ed4,ey4,I4,p4,cl4,λv hv =>?_,l4,mu4⟩
    rw[tks] at hv
    rcases CW.mp hv with z | z
    ·exact tk4 v z
    ·rw[CQ] at z;subst z;exact hR
   ·rw[decide_eq_false hR]
    have I5:RY ns m s (R4++[o]) (Y4++[o]):=by
     refine ⟨df I4.nd hR,Dn _ I4.st,λv hv =>?_,λv hv =>?_⟩
     ·rcases CW.mp hv with z | z
      ·exact I4.con v z
      ·rw[CQ] at z;subst z;exact .step (I4.con _ p4) oA
     ·rcases CW.mp hv with z | z
      ·exact Dn _ (I4.sub v z)
      ·exact Dt _ z
    have l5:=bZ I5.nd (rngR I5)
    rw[CL,D2] at l5
    refine bF ⟨_,rfl,_,rfl,d,_,rfl,lQ.k (k:=Sum.inl o) ed4 (by rw[jh];exact bE (by lia)),?_⟩
    rw[rf hR]
    have ey5:upd H4 d (.dK (fD (R4++[o]))) y=some (.lst (Y4.map V.int)):=by rw[aD (D8 ndy)];exact ey4
    refine ⟨_,rfl,.inl ⟨rfl,_,SqL.of ey5⟩,_,rfl,y,_,_,rfl,rfl,ey5,(by rw[CG];exact bE (by lia)),_,R4++[o],Y4++[o],rfl,λb ob e =>?_,?_,?_,I5,Dn _ p4,λu hu nu ne v a =>?_,λv hv =>?_,by rw[CL,D2];exact l5,?_⟩
    ·rw[aD (aB e hy0),aD (aB e hd)];exact s4 _ _ e
    ·rw[aD ndy];exact ag
    ·rw[ag,C2];rfl
    ·rcases CW.mp hu with z | z
     ·exact Dn _ (cl4 u z (λy=>nu (Dn _ y)) ne v a)
     ·exact absurd (Dt _ z) nu
    ·rw[tks] at hv
     rcases CW.mp hv with z | z
     ·exact Dn _ (tk4 v z)
     ·exact Dt _ z
    ·rw[CL,CL,D2];lia
  ·rintro σ H4 ⟨c5,R4,Y4,rfl,s4,ed4,ey4,I4,p4,cl4,tk4,l4,mu4⟩
   rw[CG,C7 (CO _)] at tk4
   have lr:=bZ I.nd (rngR I)
   refine ⟨⟨_,_,R4,Y4,rfl,s4,ed4,ey4,I4,?_,λu hu nu v a =>?_⟩,?_⟩
   ·lia
   ·by_cases e:u=pn
    ·subst e
     exact tk4 v ((isu v).mpr a)
    ·exact cl4 u hu nu e v a
   ·show 2*(m-j9 H4 d)+mY H4 y<2*(m-j9 H' d)+mY H' y
    rw[mu0]
    unfold j9 mY
    rw[ed4,ey4]
    dsimp only
    rw[jh,CG]
    lia
end
open PySem L2
end K13
namespace L2
open PySem PySem.Spec PyProof.Rows
section
variable  {X:Cx}
end
end L2
namespace K13
open PySem L2
theorem Wb.ok {H:Hp}{r:Addr}{m:Nat}{ts:List (Addr×List Int)}(W:Wb H r (m:Int) ts):Ok m (ts.map (·.2)):=λp hp=>by
 obtain ⟨u,hu,rfl⟩:=Du.mp hp
 exact W.pr u hu
abbrev uM:Sp:=λvs H Q _=>∃(r:Addr) (m:Nat) (ts:List (Addr×List Int)),vs=[.ref r]/\Wb H r m ts/\m<=400/\∀(l:Addr) (H':Hp) (os:List (Addr×List Int)),aE H H'->H l=none->H' l=some (.lst (os.map λu =>.ref u.1))->(∀u∈os,H' u.1=some (.tup (u.2.map V.int)))->os.map (·.2)=a9 (ts.map (·.2)) m m->Q (.ref l) H'
@[irreducible] def pD:Sp:=uM
theorem iA {vs:List V}{H:Hp}{Q:VK}{E:XK}:pD vs H Q E↔uM vs H Q E:=by
 delta pD
 exact Fd
abbrev rj:Sp:=λvs H Q _=>∃(r:Addr) (m:Nat) (ts:List (Addr×List Int)),vs=[.ref r]/\Wb H r m ts/\m<=400/\∀H',aE H H'->Q (.int ((ts.length:Int)-m+((a9 (ts.map (·.2)) m m).length:Nat))) H'
@[irreducible] def kr:Sp:=rj
theorem gA {vs:List V}{H:Hp}{Q:VK}{E:XK}:kr vs H Q E↔rj vs H Q E:=by
 delta kr
 exact Fd
theorem j3 (ns:List (List Int))(m i:Nat):(a9 ns m i).length<=i:=by
 unfold a9
 rw[CG]
 refine DT (HZ _ _) ?_
 unfold rgI
 rw[CG,EY]
 exact CO _
section
variable  {P:De}{w:DN}{K:CM}{mg:Str->Option CJ}{base:Heap}{f:Addr}{fd:Eh}
theorem iB:aO ["web", "near", "seen", "parts", "place", "part", "other"] ["web"] (aF Aq):=⟨rfl,rfl,rfl,by decide +kernel,rfl,by decide +kernel,by decide +kernel⟩
theorem BC (F:Fun K "hanging_parts" "hanging_parts" Aq f fd)(B:Blt mg)(cL:Cal P w K mg base 1 "near_lists" ["web"] gS)(cR:Cal P w K mg base 1 "reached_from" ["near", "start"] kq):bS P w K mg base CX0 2 f fd ["web"] pD:=by
 refine F.ok iB (λvs H Q E h =>?_) (λcdv A outer s0 H vs Q E hr h =>?_)
 ·obtain ⟨a,b,c,rfl,_⟩:=iA.mp h
  rfl
 obtain ⟨r,m,ts,rfl,W,m4,q⟩:=iA.mp h
 have O:=W.ok
 have hu:=qo hr
 obtain ⟨t,e1,e2⟩:=W.at'
 refine ⟨_,ai (aM (i:=1) iB.nd rfl (Or.inl rfl) (aV cL hr (by decide) rfl (aa (pv 0) ah)))
  (ai (aM (i:=2) iB.nd rfl (Or.inl rfl) lR)
  (ai (aM (i:=3) iB.nd rfl (Or.inl rfl) (bX ah))
  (ai (bN DE rfl (bA rfl B.b_range (aa (aH aI (pv 0) ak (λ_ _=>rfl)) ah)) (aq (i:=4) iB.nd rfl (Or.inl rfl))
   (au (bC (fZ (dS hu (pv 4) (pv 2)))
    (ai (aM (i:=5) iB.nd rfl (Or.inl rfl) (aV cR hr (by decide) rfl (aa (pv 1) (aa (pv 4) ah))))
    (ai (bN DE rfl (bR (pv 5)) (aq (i:=6) iB.nd rfl (Or.inl rfl)) (au (i7 hu (pv 2) (pv 6) hZ rfl)))
    (au (bI (cU Dq DK DL bD (pv 3) (aa (aJ aX rfl B.b_tuple FC (aa (pv 5) ah)) ah)))))) aR)))
  (au (aL (pv 3)))))),?_⟩
 refine ⟨_,rfl,dB.mpr ⟨r,m,ts,rfl,W,by lia,by lia,λn H1 os s1 en lo ho po =>?_⟩⟩
 have N:gy H1 n m (ts.map (·.2)) os:=⟨en,by rw[lo];simp,ho,λj u eu=>(po j u eu).2⟩
 refine λd hd=>⟨(by show 0<=C6;decide),λpl hpl =>?_⟩
 have hd0:upd H1 d (.dK []) d=some (.dK (fD [])):=ag
 have ndp:d≠pl:=aB hd0 hpl
 have hpl1:H1 pl=none:=by
  cases e:H1 pl with
  | none=>rfl
  | some o=>rw[(af hd (.dK [])) _ _ e] at hpl;cases hpl
 have hpl0:H pl=none:=by
  cases e:H pl with
  | none=>rfl
  | some o=>rw[s1 _ _ e] at hpl1;cases hpl1
 have e3d:=(af hpl (.lst [])) _ _ hd0
 have e3p:upd (upd H1 d (.dK [])) pl (.lst []) pl=some (.lst []):=ag
 have s3:=(af hd (.dK [])).trans (af hpl (.lst []))
 generalize upd (upd H1 d (.dK [])) pl (.lst [])=H3 at e3d e3p s3
 let W0:Nat->St->Hp->Prop:=λi σ H'=>∃(c4 c5 c6:Option V) (S:List Int) (ps:List (Addr×List Int)),σ=[some (.ref r),some (.ref n),some (.ref d),some (.ref pl),c4,c5,c6]/\aE H1 H'/\H' d=some (.dK (fD S))/\H' pl=some (.lst (ps.map λu =>.ref u.1))/\(∀u∈ps,H' u.1=some (.tup (u.2.map V.int)))/\ps.map (·.2)=a9 (ts.map (·.2)) m i/\S.Nodup/\(∀v,v∈S↔∃u:Nat,u<i/\Con (ts.map (·.2)) (u:Int) v)
 refine ⟨_,rfl,r,_,0,_,rfl,rfl,SqT.of (s3 _ _ (s1 _ _ e1)),rfl,m,rfl,by lia,by lia,bL W0
  ⟨_,_,_,[],[],rfl,s3,e3d,e3p,λu hu=>(by cases hu),rfl,Gj,λv=>⟨λz=>(by cases z),λ⟨u,z,_⟩=>by lia⟩⟩ ?_ ?_⟩
 ·rintro i σ H' hi ⟨c4,c5,c6,S,ps,rfl,s',ed,ep,hp,epp,nS,mS⟩
  have hi':i<m:=by simpa using hi
  refine ⟨_,rfl,_,rfl,d,_,rfl,fv.k (k:=Sum.inl (0+(i:Int))) ed,_,rfl,?_⟩
  rw[oy,GX]
  by_cases hS:(i:Int)∈S
  ·rw[decide_eq_true hS]
   obtain ⟨u,ui,hu⟩:=(mS _).mp hS
   refine bM ⟨_,_,_,S,ps,rfl,s',ed,ep,hp,?_,nS,λv =>?_⟩
   ·have:=Classical.propDecidable (Fst (ts.map (·.2)) (i:Int))
    rw[jg,if_neg (λz=>z (u:Int) (by lia) (by lia) hu),DU]
    exact epp
   ·rw[mS v]
    constructor
    ·rintro ⟨x,xi,hx⟩;exact ⟨x,by lia,hx⟩
    ·rintro ⟨x,xi,hx⟩
     by_cases e:x=i
     ·subst e;exact ⟨u,ui,hu.trans hx⟩
     ·exact ⟨x,by lia,hx⟩
  ·rw[decide_eq_false hS]
   have fi:Fst (ts.map (·.2)) (i:Int):=λx x0 xi hx=>by
    obtain ⟨xn,rfl⟩:∃k:Nat,x=k:=⟨x.toNat,by lia⟩
    exact hS ((mS _).mpr ⟨xn,by lia,hx⟩)
   refine bF ⟨_,rfl,_,rfl,gz.mpr ⟨n,m,ts.map (·.2),os,(i:Int),rfl,N.same s',O,m4,by lia,by lia,λpt H4 s4 ept =>?_⟩⟩
   have ed4:=s4 _ _ ed
   have ep4:=s4 _ _ ep
   have mc:∀v,v∈fW (ts.map (·.2)) m (i:Int)↔Con (ts.map (·.2)) (i:Int) v:=λv=>ox O (by lia)
   have rc:=ml (ts.map (·.2)) m (i:Int)
   generalize hcc:fW (ts.map (·.2)) m (i:Int)=cc at ept mc rc
   have ndpt:d≠pt:=eG ed4 ept (by intro z;cases z)
   have ndcc:cc.Nodup:=rc.imp λ{a b} h=>by lia
   have dj:∀v∈cc,v∉S:=λv hv hs=>by
    obtain ⟨u,ui,hu⟩:=(mS v).mp hs
    exact fi (u:Int) (by lia) (by lia) (hu.trans (((mc v).mp hv).symm O))
   have rS:∀v∈S,0<=v/\v<m:=λv hv=>by
    obtain ⟨u,ui,hu⟩:=(mS v).mp hv
    exact hu.rng O (by lia)
   have rC:∀v∈cc,0<=v/\v<m:=λv hv=>((mc v).mp hv).rng O (by lia)
   have ndj:∀j,(S++cc.take j).Nodup:=λj=>by
    rw[Fc]
    exact ⟨nS,ndcc.sublist (Ez _ _),λx hx y hy e=>dj y (Fp hy) (e ▸ hx)⟩
   have lj:∀j,(S++cc.take j).length<=m:=λj=>bZ (ndj j) λv hv=>(CW.mp hv).elim (rS v) λz=>rC v (Fp z)
   let W1:Nat->St->Hp->Prop:=λj σ H5=>(∃c6,σ=[some (.ref r),some (.ref n),some (.ref d),some (.ref pl),some (.int (i:Int)),some (.ref pt),c6])/\SB d H4 H5/\H5 d=some (.dK (fD (S++cc.take j)))
   refine ⟨_,rfl,pt,rfl,⟨_,SqL.of ept⟩,dY (xs:=cc.map V.int) W1 ⟨⟨_,rfl⟩,SB.refl _ _,by rw[Hg,DU];exact ed4⟩ (λj σ H5 _ z=>SqL.of (z.2.1 _ _ (D8 ndpt) ept)) ?_ ?_⟩
   ·rintro j x σ H5 hx ⟨⟨c6,rfl⟩,sb5,ed5⟩
    rw[CU] at hx
    cases ho:cc[j]? with
    | none=>rw[ho] at hx;cases hx
    | some o =>
    rw[ho] at hx
    cases hx
    have tks:cc.take (j+1)=cc.take j++[o]:=by rw[Ee,ho];rfl
    have no:o∉S++cc.take j:=λz=>by
     have nd1:=ndj (j+1)
     rw[tks, <- DD,Fc] at nd1
     exact nd1.2.2 o z o (by simp) rfl
    refine ⟨_,rfl,_,rfl,d,_,rfl,lQ.k (k:=Sum.inl o) ed5 (by rw[jh];exact bE (by have:=lj j;lia)),⟨_,rfl⟩,sb5.trans (SB.put _),?_⟩
    rw[rf no,ag,tks,DD]
   ·rintro σ H5 ⟨⟨c6,rfl⟩,sb5,ed5⟩
    rw[CG,C7 (CO _)] at ed5
    have ep5:=sb5 _ _ (D8 ndp) ep4
    have ept5:=sb5 _ _ (D8 ndpt) ept
    have s5:aE H1 H5:=λb o e=>sb5 _ _ (aB e hd) (s4 _ _ (s' _ _ e))
    have hp5:∀u∈ps,H5 u.1=some (.tup (u.2.map V.int)):=λu hu=>sb5 _ _ (eG (s4 _ _ (hp u hu)) ed4 (by intro z;cases z)) (s4 _ _ (hp u hu))
    refine ⟨_,rfl,.inl ⟨rfl,_,SqL.of ep5⟩,_,rfl,pt,_,rfl,.inl ⟨SqL.of ept5,λtt htt =>?_⟩⟩
    have s6:=af htt (.tup (cc.map V.int))
    have lps:ps.length<=i:=by
     have:=congrArg List.length epp
     rw[CG] at this
     rw[this]
     exact j3 _ _ _
    have ett:upd H5 tt (.tup (cc.map V.int)) tt=some (.tup (cc.map V.int)):=ag
    have ntp:∀{b:Addr} {xs:List V},upd H5 tt (.tup (cc.map V.int)) b=some (.tup xs)->b≠pl:=λe=>eG e (s6 _ _ ep5) (by intro z;cases z)
    refine ⟨pl,_,_,rfl,rfl,s6 _ _ ep5,(by rw[CG];exact bE (by lia)),_,_,_,S++cc,ps++[(tt,cc)],rfl,λb o e =>?_,?_,?_,λu hu =>?_,?_,by have:=ndj cc.length;rwa [C7 (CO _)] at this,λv =>?_⟩
    ·rw[aD (aB e hpl1)];exact s6 _ _ (s5 _ _ e)
    ·rw[aD ndp];exact s6 _ _ ed5
    ·rw[ag,C2];rfl
    ·rcases CW.mp hu with z | z
     ·have:=s6 _ _ (hp5 u z)
      rw[aD (ntp this)];exact this
     ·rw[CQ] at z;subst z
      rw[aD (ntp ett)];exact ett
    ·have:=Classical.propDecidable (Fst (ts.map (·.2)) (i:Int))
     rw[jg,if_pos fi,C2,epp,hcc]
     rfl
    ·rw[CW,mS v,mc v]
     constructor
     ·rintro (⟨x,xi,hx⟩ | hx)
      ·exact ⟨x,by lia,hx⟩
      ·exact ⟨i,by lia,hx⟩
     ·rintro ⟨x,xi,hx⟩
      by_cases e:x=i
      ·subst e;exact .inr hx
      ·exact .inl ⟨x,by lia,hx⟩
 ·rintro σ H' ⟨c4,c5,c6,S,ps,rfl,s',ed,ep,hp,epp,nS,mS⟩
  exact ⟨_,rfl,q pl H' ps (s1.trans s') hpl0 ep hp (by simpa using epp)⟩
theorem zR:aO ["web"] ["web"] (aF yc):=⟨rfl,rfl,rfl,by decide +kernel,rfl,by decide +kernel,by decide +kernel⟩
theorem zS (F:Fun K "spare_ties" "spare_ties" yc f fd)(B:Blt mg)(cH:Cal P w K mg base 2 "hanging_parts" ["web"] pD):bS P w K mg base CX0 3 f fd ["web"] kr:=by
 refine F.ok zR (λvs H Q E h =>?_) (λcdv A outer s0 H vs Q E hr h =>?_)
 ·obtain ⟨a,b,c,rfl,_⟩:=gA.mp h
  rfl
 obtain ⟨r,m,ts,rfl,W,m4,q⟩:=gA.mp h
 obtain ⟨t,e1,e2⟩:=W.at'
 refine ⟨_,au (aL (aT cB (aT cY (az aY rfl B.b_len Hi (aa (aH aI (pv 0) ak (λ_ _=>rfl)) ah)) (aH aI (pv 0) ak (λ_ _=>rfl))) (az aY rfl B.b_len Hi (aa (aV cH hr (by decide) rfl (aa (pv 0) ah)) ah)))),?_⟩
 refine ⟨_,rfl,r,_,1,_,rfl,rfl,SqT.of e1,rfl,t,_,rfl,.inr (SqT.of e2),_,rfl,r,_,0,_,rfl,rfl,SqT.of e1,rfl,_,_,rfl,rfl,_,rfl,iA.mpr ⟨r,m,ts,rfl,W,m4,λl H' os s' _ el _ ep=>⟨l,_,rfl,.inl (SqL.of el),_,_,rfl,rfl,?_⟩⟩⟩
 have:=q H' s'
 rw[<- ep,CG] at this
 rw[CG,CG]
 exact this
end
open PySem L2
theorem pE {ns ms:List (List Int)}(h:∀p∈ns,p∈ms){u v:Int}(c:Con ns u v):Con ms u v:=by
 induction c with
 | refl=>exact .refl _
 | step _ a ih =>
  obtain ⟨p,hp,hx⟩:=cF.mp a
  exact .step ih (cF.mpr ⟨p,h p hp,hx⟩)
theorem wc {ns ms:List (List Int)}(h:∀p,p∈ns↔p∈ms)(u v:Int):Con ns u v↔Con ms u v:=⟨pE λp hp=>(h p).mp hp,pE λp hp=>(h p).mpr hp⟩
open Classical in
theorem gB {ns ms:List (List Int)}{m:Nat}(h:∀u v:Int,Con ns u v↔Con ms u v):a9 ns m m=a9 ms m m:=by
 have e1:∀u,Fst ns u↔Fst ms u:=λu=>by
  unfold Fst
  exact ⟨λg w h0 h1 c=>g w h0 h1 ((h w u).mpr c),λg w h0 h1 c=>g w h0 h1 ((h w u).mp c)⟩
 have e2:fW ns m=fW ms m:=by
  funext u
  unfold fW
  refine G7 λv _ =>?_
  rw[decide_eq_decide]
  exact h u v
 unfold a9
 rw[e2]
 congr 1
 refine G7 λu _ =>?_
 rw[decide_eq_decide]
 exact e1 u
structure More (m:Nat)(ns ms:List (List Int))(a b:Int):Prop where
 ok:Ok m ns
 mem:∀p,p∈ms↔p∈ns\/p=[a,b]
 a0:0<=a
 ab:a<=b
 bm:b<m
theorem More.ok' {m:Nat}{ns ms:List (List Int)}{a b:Int}(M:More m ns ms a b):Ok m ms:=λp hp=>by
 rcases (M.mem p).mp hp with h | h
 ·exact M.ok p h
 ·exact ⟨a,b,h,M.a0,M.ab,M.bm⟩
theorem More.sub {m:Nat}{ns ms:List (List Int)}{a b:Int}(M:More m ns ms a b){u v:Int}(c:Con ns u v):Con ms u v:=pE (λp hp=>(M.mem p).mpr (.inl hp)) c
theorem More.adj {m:Nat}{ns ms:List (List Int)}{a b:Int}(M:More m ns ms a b){u v:Int}(h:Adj ms u v):Adj ns u v\/(u=a/\v=b)\/(u=b/\v=a):=by
 obtain ⟨p,hp,hx⟩:=cF.mp h
 rcases (M.mem p).mp hp with z | z
 ·exact .inl (cF.mpr ⟨p,z,hx⟩)
 ·subst z
  rcases (kj.mp hx).2 with ⟨h1,h2⟩ | ⟨h1,h2⟩
  ·exact .inr (.inl ⟨h1.symm,h2⟩)
  ·exact .inr (.inr ⟨h1.symm,h2⟩)
theorem More.tie {m:Nat}{ns ms:List (List Int)}{a b:Int}(M:More m ns ms a b):Con ms a b:=zP M.ok' ((M.mem _).mpr (.inr rfl))
theorem More.same {m:Nat}{ns ms:List (List Int)}{a b:Int}(M:More m ns ms a b)(h:Con ns a b)(u v:Int):Con ns u v↔Con ms u v:=by
 refine ⟨M.sub,λc =>?_⟩
 induction c with
 | refl=>exact .refl _
 | step _ x ih =>
  rcases M.adj x with z | ⟨rfl,rfl⟩ | ⟨rfl,rfl⟩
  ·exact .step ih z
  ·exact ih.trans h
  ·exact ih.trans (h.symm M.ok)
theorem More.con {m:Nat}{ns ms:List (List Int)}{a b:Int}(M:More m ns ms a b){u v:Int}(c:Con ms u v):Con ns u v\/(Con ns u a/\Con ns b v)\/(Con ns u b/\Con ns a v):=by
 induction c with
 | refl=>exact .inl (.refl _)
 | step _ x ih =>
  rcases M.adj x with z | ⟨rfl,rfl⟩ | ⟨rfl,rfl⟩
  ·rcases ih with i | ⟨i,j⟩ | ⟨i,j⟩
   ·exact .inl (.step i z)
   ·exact .inr (.inl ⟨i,.step j z⟩)
   ·exact .inr (.inr ⟨i,.step j z⟩)
  ·rcases ih with i | ⟨i,j⟩ | ⟨i,j⟩
   ·exact .inr (.inl ⟨i,.refl _⟩)
   ·exact .inr (.inl ⟨i,.refl _⟩)
   ·exact .inl i
  ·rcases ih with i | ⟨i,j⟩ | ⟨i,j⟩
   ·exact .inr (.inr ⟨i,.refl _⟩)
   ·exact .inl i
   ·exact .inr (.inr ⟨i,.refl _⟩)
theorem oz {m:Nat}{ns:List (List Int)}(O:Ok m ns){c w:Int}(hc:Fst ns c)(w0:0<=w)(h:Con ns c w):c<=w:=by
 rcases Int.lt_or_le w c with z | z
 ·exact absurd (h.symm O) (hc w w0 z)
 ·exact z
theorem More.fst {m:Nat}{ns ms:List (List Int)}{a b:Int}(M:More m ns ms a b)(h:¬ Con ns a b):∃hi:Int,0<=hi/\hi<m/\Fst ns hi/\∀u:Int,0<=u->u<m->(Fst ms u↔Fst ns u/\u≠hi):=by
 have a0:=M.a0
 have ab:=M.ab
 have bm:=M.bm
 obtain ⟨ra,fa,ra0,ram,ca⟩:=ye M.ok a.toNat a a0 (by lia) (CO _)
 obtain ⟨rb,fb,rb0,rbm,cb⟩:=ye M.ok b.toNat b (by lia) bm (CO _)
 have ne:ra≠rb:=λz=>by
  subst z
  exact h ((ca.symm M.ok).trans cb)
 have cab:Con ms ra rb:=((M.sub ca).trans M.tie).trans ((M.sub cb).symm M.ok')
 have key:∀(lo hi:Int),((lo=ra/\hi=rb)\/(lo=rb/\hi=ra))->lo<hi->0<=lo->0<=hi->hi<m->Fst ns hi->Con ms lo hi->∃hi:Int,0<=hi/\hi<m/\Fst ns hi/\∀u:Int,0<=u->u<m->(Fst ms u↔Fst ns u/\u≠hi):=by
  intro lo hi lh lt lo0 hi0 him fh ch
  refine ⟨hi,hi0,him,fh,λu u0 um=>⟨λf=>⟨λw w0 wu c=>f w w0 wu (M.sub c),λz =>?_⟩,λ⟨f,nz⟩ w w0 wu c =>?_⟩⟩
  ·subst z
   exact f lo lo0 lt ch
  ·rcases M.con c with z | ⟨i,j⟩ | ⟨i,j⟩
   ·exact f w w0 wu z
   ·have e:u=rb:=(rd M.ok fb f rb0 u0 (cb.trans j)).symm
    have g:=oz M.ok fa w0 (ca.trans (i.symm M.ok))
    rcases lh with ⟨x,y⟩ | ⟨x,y⟩ <;> lia
   ·have e:u=ra:=(rd M.ok fa f ra0 u0 (ca.trans j)).symm
    have g:=oz M.ok fb w0 (cb.trans (i.symm M.ok))
    rcases lh with ⟨x,y⟩ | ⟨x,y⟩ <;> lia
 rcases Int.lt_or_gt_of_ne ne with z | z
 ·exact key ra rb (.inl ⟨rfl,rfl⟩) z ra0 rb0 rbm fb cab
 ·exact key rb ra (.inr ⟨rfl,rfl⟩) z rb0 ra0 ram fa (cab.symm M.ok')
theorem cO (m:Nat):(rgI m).Nodup:=(mj m).imp λ{a b} h=>by lia
theorem j4 {p q:Int->Bool}{x:Int}:∀{l:List Int},l.Nodup->x∈l->p x=true->(∀u∈l,q u=(p u && decide (u≠x)))->(l.filter q).length+1=(l.filter p).length
 | [],_,h,_,_=>by cases h
 | y :: l,nd,h,hp,hq=>by
  obtain ⟨n1,n2⟩:=E5.mp nd
  have hy:=hq y Di
  by_cases e:y=x
  ·subst e
   have e2:l.filter q=l.filter p:=G7 λu hu=>by
    rw[hq u (Dj _ hu),decide_eq_true (show u≠y from λz=>n1 (z ▸ hu)),Kv]
   rw[Ih,if_neg (by rw[hy];simp),Ih,if_pos hp,e2]
   rfl
  ·have hx:x∈l:=by rcases C9.mp h with z | z;exact absurd z.symm e;exact z
   have ih:=j4 n2 hx hp (λu hu=>hq u (Dj _ hu))
   rw[decide_eq_true (show y≠x from e),Kv] at hy
   rw[Ih,Ih,hy]
   by_cases hpy:p y=true
   ·rw[if_pos hpy,if_pos hpy,Dx,Dx, <- ih]
   ·rw[if_neg hpy,if_neg hpy,ih]
theorem jK {ns:List (List Int)}{m:Nat}[DecidablePred (Fst ns)]:(a9 ns m m).length=((rgI m).filter λu=>decide (Fst ns u)).length:=by
 unfold a9
 rw[CG]
 congr 1
 refine G7 λu _ =>?_
 rw[decide_eq_decide]
open Classical in
theorem More.less {m:Nat}{ns ms:List (List Int)}{a b:Int}(M:More m ns ms a b)(h:¬ Con ns a b):(a9 ms m m).length+1=(a9 ns m m).length:=by
 obtain ⟨hi,h0,h1,fh,he⟩:=M.fst h
 rw[jK,jK]
 refine j4 (cO m) (cq.mpr ⟨h0,h1⟩) (decide_eq_true fh) λu hu =>?_
 obtain ⟨u0,um⟩:=cq.mp hu
 rw[Fh,decide_eq_true_iff,EO,decide_eq_true_iff,decide_eq_true_iff]
 exact he u u0 um
open Classical in
theorem rn {m:Nat}:∀{ns:List (List Int)},Ok m ns->m<=ns.length+(a9 ns m m).length
 | [],_=>by
  rw[jK]
  have e:(rgI m).filter (λu=>decide (Fst [] u))=rgI m:=Iw.mpr λu _=>by
   refine decide_eq_true λw w0 wu c =>?_
   have:∀{x y:Int},Con [] x y->x=y:=by
    intro x y c
    induction c with
    | refl=>rfl
    | step _ a _=>obtain ⟨p,hp,_⟩:=cF.mp a;cases hp
   have:=this c
   lia
  rw[e]
  unfold rgI
  rw[CG,EY]
  exact Nat.le_add_left _ _
 | p :: ns,O=>by
  obtain ⟨a,b,rfl,a0,ab,bm⟩:=O p Di
  have O':Ok m ns:=λq hq=>O q (Dj _ hq)
  have ih:=rn O'
  have M:More m ns ([a,b] :: ns) a b:=⟨O',λq=>by rw[C9,Or.comm],a0,ab,bm⟩
  rw[Dx]
  by_cases c:Con ns a b
  ·rw[<- gB (M.same c)]
   lia
  ·have:=M.less c
   lia
def off (ps:List Int)(p:List Int):Bool := !decide (p.getD 0 0∈ps) && !decide (p.getD 1 0∈ps)
abbrev yf:Sp:=λvs H Q _=>∃(r p:Addr) (m:Int) (ts:List (Addr×List Int)) (ps:List Int),vs=[.ref r,.ref p]/\Wb H r m ts/\(H p=some (.lst (ps.map V.int))\/H p=some (.tup (ps.map V.int))) ∧
 ∀(z:Addr) (us:List (Addr×List Int)) (H':Hp),aE H H'->Wb H' z m us->us.map (·.2)=(ts.map (·.2)).filter (off ps)->Q (.ref z) H'
@[irreducible] def mv:Sp:=yf
theorem dg {vs:List V}{H:Hp}{Q:VK}{E:XK}:mv vs H Q E↔yf vs H Q E:=by
 delta mv
 exact Fd
section
variable  {P:De}{w:DN}{K:CM}{mg:Str->Option CJ}{base:Heap}{f:Addr}{fd:Eh}
theorem Cu:aO ["web", "places"] ["web", "places"] (aF Cq):=⟨rfl,rfl,rfl,by decide +kernel,rfl,by decide +kernel,by decide +kernel⟩
theorem dW {α β:Type}{g:α -> Bool}{h:α -> β}{l:List α}{i:Nat}{x:α}(e:l[i]? = some x):((l.take (i+1)).filter g).map h=((l.take i).filter g).map h++if g x=true then [h x] else []:=by
 rw[Ee,e,GO,C2]
 congr 1
 show (List.filter g [x]).map h=_
 by_cases c:g x=true
 ·rw[if_pos c,En c];rfl
 ·rw[if_neg c,EZ c];rfl
theorem Cv (F:Fun K "cut_web" "cut_web" Cq f fd)(B:Blt mg):bS P w K mg base CX0 1 f fd ["web", "places"] mv:=by
 refine F.ok Cu (λvs H Q E h =>?_) (λcdv A outer s H vs Q E hr h =>?_)
 ·obtain ⟨a,b,c,d,e,rfl,_⟩:=dg.mp h
  rfl
 obtain ⟨r,p,m,ts,ps,rfl,W,hp,q⟩:=dg.mp h
 obtain ⟨t,e1,e2⟩:=W.at'
 refine ⟨_,au (aL (bo (aa (aH aI (pv 0) ak (λ_ _=>rfl)) (aa (aJ aX rfl B.b_tuple FC (aa (bT ["tie", "places"] [none,some 1] rfl (ik (aH aI (pv 0) ak (λ_ _=>rfl))) rfl (λ_ _ _ _ _=>aq (i:=0) Av rfl (Or.inl rfl))
  (λ_ _ _ _ _=>jC (PW.pt (kM (aK (fe (K:=K)) (aH (iT (K:=K)) (pv 0) ak (λ_ _=>rfl)) (pv 1) rfl) (iL (aK (fe (K:=K)) (aH (iT (K:=K)) (pv 0) ak (λ_ _=>rfl)) (pv 1) rfl)))))
  (λ_ _ _ _ _=>pv 0)) ah)) ah)))),?_⟩
 refine ⟨_,rfl,r,_,0,_,rfl,rfl,SqT.of e1,rfl,_,rfl,r,_,1,_,rfl,rfl,SqT.of e1,rfl,t,rfl,⟨_,SqT.of e2⟩,dR (xs:=ts.map λu =>.ref u.1) (λi ys H'=>H'=H/\ys=((ts.take i).filter λu=>off ps u.2).map λu =>.ref u.1) ⟨rfl,rfl⟩ (by rw[CG];exact small (by have:=W.len;lia)) (λi ys H' _ z=>by rw[z.1];exact SqT.of e2) ?_ ?_⟩
 ·rintro i x ys H3 hx hy ⟨rfl,ey⟩ R1 R0 r1 r0
  obtain ⟨u,eu,rfl⟩:=item hx
  have hu:=W.tup u (CT eu)
  obtain ⟨a,b,e3,_⟩:=W.pr u (CT eu)
  rw[e3] at hu
  have bb:off ps u.2=(!decide (a∈ps) && !decide (b∈ps)):=by rw[e3];rfl
  have g1:off ps u.2=true->R1 (.ref u.1) H3:=λec=>r1 _ _ ⟨rfl,by rw[dW eu,if_pos ec,ey]⟩
  have g0:off ps u.2=false->R0 H3:=λec=>r0 _ ⟨rfl,by rw[dW eu,if_neg (by rw[ec];exact C8),ey,DU]⟩
  refine ⟨_,rfl,u.1,_,0,_,rfl,rfl,SqT.of hu,rfl,_,rfl,p,_,rfl,(hp.elim (λz =>.inl (SqL.of z)) (λz =>.inr (SqT.of z))),rfl,dU ps,_,rfl,?_⟩
  show if (if true=true then !inV (.int a) (ps.map V.int) else _)=true then _ else _
  rw[if_pos rfl,d9]
  by_cases ha:a∈ps
  ·rw[decide_eq_true ha] at bb ⊢
   exact bM (bM (g0 bb))
  ·rw[decide_eq_false ha] at bb ⊢
   refine bF ⟨_,rfl,u.1,_,1,_,rfl,rfl,SqT.of hu,rfl,_,rfl,p,_,rfl,(hp.elim (λz =>.inl (SqL.of z)) (λz =>.inr (SqT.of z))),rfl,dU ps,_,rfl,?_⟩
   show if (if true=true then !inV (.int b) (ps.map V.int) else _)=true then _ else _
   rw[if_pos rfl,d9]
   by_cases hb:b∈ps
   ·rw[decide_eq_true hb] at bb ⊢
    exact bM (g0 bb)
   ·rw[decide_eq_false hb] at bb ⊢
    exact bF ⟨_,rfl,g1 bb⟩
 ·rintro ys H3 hy ⟨rfl,ey⟩ l hl
  rw[CG,C7 (CO _)] at ey
  refine ⟨l,_,rfl,.inl ⟨SqL.of ag,λl2 hl2=>⟨(by show 2<=C6;decide),λz hz =>?_⟩⟩⟩
  subst ey
  have g1:=af hl (.lst ((ts.filter λu=>off ps u.2).map λu=>V.ref u.1))
  have g2:=af hl2 (.tup ((ts.filter λu=>off ps u.2).map λu=>V.ref u.1))
  have g3:=af hz (.tup [.int m,.ref l2])
  have g:=(g1.trans g2).trans g3
  refine q z (ts.filter λu=>off ps u.2) _ g ⟨⟨l2,ag,g3 _ _ ag⟩,λu hu=>g _ _ (W.tup u (DX.mp hu).1),λu hu=>W.pr u (DX.mp hu).1,?_⟩ ?_
  ·exact DT (HZ _ _) W.len
  ·rw[LC];rfl
end
open Classical in
open Classical in
theorem zT {m:Nat}{ns:List (List Int)}{a b:Int}(O:Ok m ([a,b] :: ns)):([a,b] :: ns).length+(a9 ([a,b] :: ns) m m).length=ns.length+(a9 ns m m).length+if Con ns a b then 1 else 0:=by
 obtain ⟨a',b',e,a0,ab,bm⟩:=O _ Di
 injection e with e1 e2
 injection e2 with e2 _
 subst e1 e2
 have O':Ok m ns:=λq hq=>O q (Dj _ hq)
 have M:More m ns ([a,b] :: ns) a b:=⟨O',λq=>by rw[C9,Or.comm],a0,ab,bm⟩
 rw[Dx]
 by_cases c:Con ns a b
 ·rw[if_pos c, <- gB (M.same c)]
  lia
 ·rw[if_neg c]
  have:=M.less c
  lia
theorem BD (m:Nat):(a9 [] m m).length=m:=by
 have h1:=rn (m:=m) (ns:=[]) (λp hp=>by cases hp)
 have h2:=j3 [] m m
 simp at h1
 lia
theorem yg {m:Nat}(l:List (List Int)):(a9 l.reverse m m).length=(a9 l m m).length:=by
 rw[gB (wc λp=>Ii)]
section
variable  {P:De}{w:DN}{K:CM}{mg:Str->Option CJ}{base:Heap}{f T:Addr}{fd:Eh}
def Aw:Sp:=λvs H Q _=>∃a b:Int,vs=[.int a,.int b]/\∀t,H t=none->Q (.ref t) (upd H t (.tup ((nrm a b).map V.int)))
theorem Cw:aO ["one", "other"] ["one", "other"] (aF Cr):=⟨rfl,rfl,rfl,by decide +kernel,rfl,by decide +kernel,by decide +kernel⟩
theorem Cy (F:Fun K "tie_of" "tie_of" Cr f fd)(mx:mg "max" = none)(mn:mg "min" = none):bS P w K mg base CX0 1 f fd ["one", "other"] Aw:=by
 refine F.ok Cw (λvs H Q E h =>?_) (λcdv A outer s H vs Q E hr h =>?_)
 ·obtain ⟨a,b,rfl,_⟩:=h
  rfl
 obtain ⟨a,b,rfl,q⟩:=h
 refine ⟨_,au (aL (bo (aa (az (gK rfl) rfl mn eV (aa (pv 0) (aa (pv 1) ah))) (aa (az (gJ rfl) rfl mx jJ (aa (pv 0) (aa (pv 1) ah))) ah)))),?_⟩
 exact ⟨_,rfl,_,rfl,_,_,rfl,_,rfl,_,rfl,_,_,rfl,(by show 2<=C6;decide),λt ht=>q t ht⟩
abbrev rq:Sp:=λvs H Q _=>∃(r:Addr) (m a b:Int) (ts:List (Addr×List Int)),vs=[.ref r,.int a,.int b]/\Wb H r m ts/\∀H',aE H H'->Q (.int ((ts.map (·.2)).count (nrm a b):Nat)) H'
@[irreducible] def gW:Sp:=rq
theorem cC {vs:List V}{H:Hp}{Q:VK}{E:XK}:gW vs H Q E↔rq vs H Q E:=by
 delta gW
 exact Fd
theorem zU:aO ["web", "one", "other"] ["web", "one", "other"] (aF x9):=⟨rfl,rfl,rfl,by decide +kernel,rfl,by decide +kernel,by decide +kernel⟩
theorem zV (F:Fun K "tied_times" "tied_times" x9 f fd)(cT:Cal P w K mg base 1 "tie_of" ["one", "other"] Aw):bS P w K mg base CX0 2 f fd ["web", "one", "other"] gW:=by
 refine F.ok zU (λvs H Q E h =>?_) (λcdv A outer s H vs Q E hr h =>?_)
 ·obtain ⟨a,b,c,d,e,rfl,_⟩:=cC.mp h
  rfl
 obtain ⟨r,m,a,b,ts,rfl,W,q⟩:=cC.mp h
 obtain ⟨t,e1,e2⟩:=W.at'
 refine ⟨_,au (aL (oZ FN Hx (lN (hu8 hr)) (aH aI (pv 0) ak (λ_ _=>rfl)) (aa (aV cT hr (by decide) rfl (aa (pv 1) (aa (pv 2) ah))) ah))),?_⟩
 refine ⟨_,rfl,r,_,1,_,rfl,rfl,SqT.of e1,rfl,⟨_,_,rfl,e2⟩,_,rfl,_,rfl,a,b,rfl,λx hx =>?_⟩
 have s1:=af hx (.tup ((nrm a b).map V.int))
 exact ⟨t,x,ts,nrm a b,rfl,rfl,s1 _ _ e2,λu hu=>s1 _ _ (W.tup u hu),ag,q _ s1⟩
end
open PySem L2
inductive Wk (R:Int->Int->Prop)(s:Int):Nat->Int->Prop
 | z:Wk R s 0 s
 | st {n:Nat} {p o:Int}:Wk R s n p->R p o->Wk R s (n+1) o
def Dst (R:Int->Int->Prop)(s:Int)(n:Nat)(v:Int):Prop:=Wk R s n v/\∀k,k<n->¬ Wk R s k v
theorem Dst.uniq {R:Int->Int->Prop}{s:Int}{a b:Nat}{v:Int}(h1:Dst R s a v)(h2:Dst R s b v):a=b:=by
 rcases HR a b with h | h | h
 ·exact absurd h1.1 (h2.2 a h)
 ·exact h
 ·exact absurd h2.1 (h1.2 b h)
theorem Wk.zero {R:Int->Int->Prop}{s v:Int}(h:Wk R s 0 v):v=s:=by cases h;rfl
def stp (ns:List (List Int))(s g p o:Int):Prop:=Adj ns p o/\(p≠s\/o≠g)
theorem Wk.rng {m:Nat}{ns:List (List Int)}(O:Ok m ns){s g:Int}(hs:0<=s/\s<m){n:Nat}{v:Int}(h:Wk (stp ns s g) s n v):0<=v/\v<m:=by
 cases h with
 | z=>exact hs
 | st _ r=>exact (ko O r.1).2
def mp (C:List (Int×V)):List (Key×V):=C.map λe=>(Sum.inl e.1,e.2)
theorem pF (v:Int):∀C:List (Int×V),(v∉C.map (·.1)/\de (mp C) (Sum.inl v)=none)\/∃x,(v,x)∈C/\de (mp C) (Sum.inl v)=some x
 | [] =>.inl ⟨by simp,rfl⟩
 | e :: C=>by
  by_cases h:e.1=v
  ·refine .inr ⟨e.2,by rw[<- h];exact Di,?_⟩
   show de ((Sum.inl e.1,e.2) :: mp C) (Sum.inl v)=some e.2
   rw[gn (by rw[h])]
  ·have en:de (mp (e :: C)) (Sum.inl v)=de (mp C) (Sum.inl v):=by
    show de ((Sum.inl e.1,e.2) :: mp C) (Sum.inl v)=_
    rw[gp (λz=>h (by injection z))]
   rw[en]
   rcases pF v C with ⟨h1,h2⟩ | ⟨x,h1,h2⟩
   ·exact .inl ⟨by rw[Dy,C9];exact λz=>z.elim (λy=>h y.symm) h1,h2⟩
   ·exact .inr ⟨x,Dj _ h1,h2⟩
theorem oB (v:Int)(C:List (Int×V)):(de (mp C) (Sum.inl v)).isSome=decide (v∈C.map (·.1)):=by
 rcases pF v C with ⟨h1,h2⟩ | ⟨x,h1,h2⟩
 ·rw[h2,decide_eq_false h1];rfl
 ·rw[h2,decide_eq_true (Ep (f:=(·.1)) h1)];rfl
theorem yh {v:Int}{C:List (Int×V)}(h:v∈C.map (·.1)):∃x,(v,x)∈C/\de (mp C) (Sum.inl v)=some x:=by
 rcases pF v C with ⟨h1,_⟩ | z
 ·exact absurd h h1
 ·exact z
theorem tI {v:Int}{C:List (Int×V)}(h:v∉C.map (·.1))(x:V):putK (mp C) (Sum.inl v) x=mp (C++[(v,x)]):=by
 rcases pF v C with ⟨_,h2⟩ | ⟨x,h1,_⟩
 ·rw[qL _ h2];unfold mp;rw[C2];rfl
 ·exact absurd (Ep (f:=(·.1)) h1) h
theorem pG (C:List (Int×V)):(mp C).length=C.length:=CG _
structure Rnd (ns:List (List Int))(s g:Int)(d:Nat)(C:List (Int×V))(Y F:List Int):Prop where
 nd:(C.map (·.1)).Nodup
 ent:∀e∈C,(e.1=s/\e.2 = .non)\/∃(p:Int) (n:Nat),e.2 = .int p/\Dst (stp ns s g) s n p/\Dst (stp ns s g) s (n+1) e.1/\stp ns s g p e.1
 key:∀v,v∈C.map (·.1)↔(∃n,n<=d/\Wk (stp ns s g) s n v)\/v∈F
 rdy:∀v,v∈Y↔Dst (stp ns s g) s d v
 fur:∀v∈F,Dst (stp ns s g) s (d+1) v
theorem Rnd.start (ns:List (List Int))(s g:Int):Rnd ns s g 0 [(s,.non)] [s] []:=by
 refine ⟨E5.mpr ⟨by simp,Gj⟩,λe he =>?_,λv =>?_,λv =>?_,λv h=>by cases h⟩
 ·rw[CQ] at he;subst he;exact .inl ⟨rfl,rfl⟩
 ·show v∈[s]↔_
  rw[CQ]
  refine ⟨λh =>.inl ⟨0,CO _,h ▸ .z⟩,λh =>?_⟩
  rcases h with ⟨n,h1,h2⟩ | h
  ·cases Lz.mp h1;exact h2.zero
  ·cases h
 ·rw[CQ]
  exact ⟨λh=>⟨h ▸ .z,λk hk=>absurd hk (Gs _)⟩,λh=>h.1.zero⟩
theorem Rnd.add {ns:List (List Int)}{s g:Int}{d:Nat}{C:List (Int×V)}{Y F:List Int}(h:Rnd ns s g d C Y F){p o:Int}(hp:p∈Y)(ha:stp ns s g p o)(hn:o∉C.map (·.1)):Rnd ns s g d (C++[(o,.int p)]) Y (F++[o]):=by
 have dp:=(h.rdy p).mp hp
 have dw:Dst (stp ns s g) s (d+1) o:=⟨.st dp.1 ha,λk hk w=>hn ((h.key o).mpr (.inl ⟨k,Gq hk,w⟩))⟩
 refine ⟨?_,λe he =>?_,λv =>?_,h.rdy,λv hv =>?_⟩
 ·rw[C2];exact df h.nd hn
 ·rcases CW.mp he with z | z
  ·exact h.ent e z
  ·rw[CQ] at z;subst z
   exact .inr ⟨p,d,rfl,dp,dw,ha⟩
 ·rw[C2,CW,h.key,CW]
  exact or_assoc
 ·rcases CW.mp hv with z | z
  ·exact h.fur v z
  ·rw[CQ] at z;subst z;exact dw
theorem Rnd.next {ns:List (List Int)}{s g:Int}{d:Nat}{C:List (Int×V)}{Y F:List Int}(h:Rnd ns s g d C Y F)(cl:∀p∈Y,∀o,stp ns s g p o->o∈C.map (·.1)):Rnd ns s g (d+1) C F []:=by
 have lo:∀v,Wk (stp ns s g) s (d+1) v->v∈C.map (·.1):=λv w=>by
  cases w with
  | st w1 r =>
   rename_i p
   by_cases z:∃k,k<d/\Wk (stp ns s g) s k p
   ·obtain ⟨k,hk,wk⟩:=z
    exact (h.key v).mpr (.inl ⟨k+1,hk,.st wk r⟩)
   ·exact cl p ((h.rdy p).mpr ⟨w1,λk hk wk=>z ⟨k,hk,wk⟩⟩) v r
 refine ⟨h.nd,h.ent,λv=>⟨λhv =>?_,λhv =>?_⟩,λv=>⟨h.fur v,λdv =>?_⟩,λv hv=>by cases hv⟩
 ·rcases (h.key v).mp hv with ⟨n,hn,w⟩ | z
  ·exact .inl ⟨n,G1 hn,w⟩
  ·exact .inl ⟨d+1,CO _,(h.fur v z).1⟩
 ·rcases hv with ⟨n,hn,w⟩ | z
  ·rcases Fq d n with c | c
   ·have:n=d+1:=by lia
    subst this;exact lo v w
   ·exact (h.key v).mpr (.inl ⟨n,c,w⟩)
  ·cases z
 ·rcases (h.key v).mp (lo v dv.1) with ⟨n,hn,w⟩ | z
  ·exact absurd w (dv.2 n (Nat.lt_succ_of_le hn))
  ·exact z
theorem Rnd.stop {ns:List (List Int)}{s g:Int}{d:Nat}{C:List (Int×V)}(h:Rnd ns s g d C [] []){k:Nat}{v:Int}(w:Wk (stp ns s g) s k v):v∈C.map (·.1):=by
 refine (h.key v).mpr (.inl ?_)
 induction w with
 | z=>exact ⟨0,DQ _,.z⟩
 | st w1 r ih =>
  rename_i n p o
  obtain ⟨n,hn,wn⟩:=ih
  by_cases z:∃k,k<d/\Wk (stp ns s g) s k p
  ·obtain ⟨k,hk,wk⟩:=z
   exact ⟨k+1,hk,.st wk r⟩
  ·have:n=d:=by
    rcases Fq n d with c | c
    ·exact absurd ⟨n,c,wn⟩ z
    ·lia
   subst this
   have:=(h.rdy p).mpr ⟨wn,λk hk wk=>z ⟨k,hk,wk⟩⟩
   cases this
theorem Rnd.dst {ns:List (List Int)}{s g:Int}{d:Nat}{C:List (Int×V)}{Y:List Int}(h:Rnd ns s g d C Y []){v:Int}(hv:v∈C.map (·.1)):∃n,n<=d/\Dst (stp ns s g) s n v:=by
 obtain ⟨e,he,rfl⟩:=Du.mp hv
 rcases h.ent e he with ⟨h1,_⟩ | ⟨p,n,_,_,h3,_⟩
 ·exact ⟨0,DQ _,h1 ▸ .z,λk hk=>absurd hk (Gs _)⟩
 ·rcases (h.key e.1).mp hv with ⟨k,hk,w⟩ | z
  ·refine ⟨n+1,?_,h3⟩
   rcases Fq d (n+1) with c | c
   ·exact absurd w (h3.2 k (by lia))
   ·exact c
  ·cases z
structure Trl (ns:List (List Int))(s g:Int)(N:Nat)(Z:List Int):Prop where
 hd:Z[0]? = some g
 dst:∀i x,Z[i]? = some x->i<=N/\Dst (stp ns s g) s (N-i) x
 ch:∀i x y,Z[i]? = some x->Z[i+1]? = some y->stp ns s g y x
theorem Trl.start {ns:List (List Int)}{s g:Int}{N:Nat}(h:Dst (stp ns s g) s N g):Trl ns s g N [g]:=by
 refine ⟨rfl,λi x e =>?_,λi x y _ e=>by simp at e⟩
 cases i with
 | zero=>cases e;exact ⟨DQ _,h⟩
 | succ i=>simp at e
theorem Trl.add {ns:List (List Int)}{s g:Int}{N n:Nat}{W:List Int}{p q:Int}(h:Trl ns s g N (W++[p]))(hn:n+1+W.length=N)(dq:Dst (stp ns s g) s n q)(hs:stp ns s g q p):Trl ns s g N (W++[p]++[q]):=by
 have lz:(W++[p]).length=W.length+1:=by simp
 refine ⟨?_,λi x e =>?_,λi x y e1 e2 =>?_⟩
 ·rw[Dv (by lia)];exact h.hd
 ·rcases Fq i (W.length+1) with c | c
  ·rw[Dv (by lia)] at e;exact h.dst i x e
  ·rw[DB (by lia),lz] at e
   have:i-(W.length+1)=0:=by
    rcases Gg (i-(W.length+1)) with z | z
    ·exact z
    ·rw[Dz (by simp;lia)] at e;cases e
   rw[this] at e;cases e
   refine ⟨by lia,?_⟩
   rw[show N-i=n by lia];exact dq
 ·rcases Fq (i+1) (W.length+1) with c | c
  ·rw[Dv (by lia)] at e1 e2;exact h.ch i x y e1 e2
  ·rw[DB (by lia),lz] at e2
   have:i+1-(W.length+1)=0:=by
    rcases Gg (i+1-(W.length+1)) with z | z
    ·exact z
    ·rw[Dz (by simp;lia)] at e2;cases e2
   rw[this] at e2;cases e2
   rw[Dv (by lia),DB (by lia),show i-W.length=0 by lia] at e1
   cases e1;exact hs
def Way (ns:List (List Int))(s g:Int)(N:Nat)(Z:List Int):Prop:=Trl ns s g N Z/\Z.length=N+1
def chn (P:Int->Int->Prop):List Int->Prop
 | a :: b :: t=>P a b/\chn P (b :: t)
 | _=>True
theorem pH {P:Int->Int->Prop}:∀(l:List Int) (a:Int) (r:List Int),chn P (l++a :: r)↔chn P (l++[a])/\chn P (a :: r)
 | [],a,r=>⟨λh=>⟨trivial,h⟩,λh=>h.2⟩
 | [x],a,r=>⟨λh=>⟨⟨h.1,trivial⟩,h.2⟩,λh=>⟨h.1.1,h.2⟩⟩
 | x :: y :: l,a,r=>by
  have ih:=pH (P:=P) (y :: l) a r
  exact ⟨λh=>⟨⟨h.1,(ih.mp h.2).1⟩,(ih.mp h.2).2⟩,λh=>⟨h.1.1,ih.mpr ⟨h.1.2,h.2⟩⟩⟩
theorem pI {P:Int->Int->Prop}:∀{Z:List Int},(∀(i:Nat) x y,Z[i]? = some x->Z[i+1]? = some y->P x y)->chn P Z
 | [],_=>trivial
 | [_],_=>trivial
 | a :: b :: t,h=>⟨h 0 a b rfl rfl,pI λi x y e1 e2=>h (i+1) x y e1 e2⟩
theorem pJ {P:Int->Int->Prop}:∀{Z:List Int},chn P Z->∀(i:Nat) x y,Z[i]? = some x->Z[i+1]? = some y->P x y
 | [],_,_,_,_,e,_=>by simp at e
 | [_],_,i,_,_,_,e=>by simp at e
 | a :: b :: t,h,0,x,y,e1,e2=>by cases e1;cases e2;exact h.1
 | a :: b :: t,h,i+1,x,y,e1,e2=>pJ h.2 i x y e1 e2
theorem uN {P:Int->Int->Prop}(sy:∀a b,P a b->P b a):∀{Z:List Int},chn P Z->chn P Z.reverse
 | [],_=>trivial
 | [_],_=>trivial
 | a :: b :: t,h=>by
  rw[G6,G6,DD]
  show chn P (t.reverse++b :: [a])
  rw[pH]
  have:=uN sy h.2
  rw[G6] at this
  exact ⟨this,sy _ _ h.1,trivial⟩
def Td (ns:List (List Int))(x y:Int):Prop:=nrm x y∈ns
theorem Td.symm {ns:List (List Int)}(x y:Int)(h:Td ns x y):Td ns y x:=by unfold Td at *;rw[cu];exact h
theorem b7 {a b:Int}(h:a<=b):nrm a b=[a,b]:=by
 unfold nrm mnI mxI
 by_cases c:a=b
 ·subst c;simp
 ·rw[if_neg (by lia),if_pos (by lia)]
theorem eX {m:Nat}{ns:List (List Int)}(O:Ok m ns){u v:Int}:Adj ns u v↔u≠v/\Td ns u v:=by
 rw[cW O]
 unfold Td
 constructor
 ·rintro ⟨a,b,hp,ne,h⟩
  obtain ⟨_,_,e,_,ab,_⟩:=O _ hp
  cases e
  rcases h with ⟨rfl,rfl⟩ | ⟨rfl,rfl⟩
  ·exact ⟨ne,by rw[b7 ab];exact hp⟩
  ·exact ⟨D8 ne,by rw[cu,b7 ab];exact hp⟩
 ·rintro ⟨ne,h⟩
  rcases IS u v with c | c
  ·rw[b7 c] at h;exact ⟨u,v,h,ne,.inl ⟨rfl,rfl⟩⟩
  ·rw[cu,b7 c] at h;exact ⟨v,u,h,D8 ne,.inr ⟨rfl,rfl⟩⟩
structure Ring (m:Nat)(ns:List (List Int))(Z:List Int):Prop where
 ne:Z≠[]
 nd:Z.Nodup
 rng:∀v∈Z,0<=v/\v<m
 ch:chn (Td ns) (Z++Z.take 1)
 two:∀x y,Z=[x,y]->2<=ns.count (nrm x y)
theorem Ring.rot {m:Nat}{ns:List (List Int)}{u v:List Int}(h:Ring m ns (u++v)):Ring m ns (v++u):=by
 cases u with
 | nil=>rw[DU];exact h
 | cons a u =>
  cases v with
  | nil=>rw[DU] at h;exact h
  | cons b v =>
   have pm:((b :: v)++(a :: u)).Perm ((a :: u)++(b :: v)):=FI
   refine ⟨by simp,pm.nodup_iff.mpr h.nd,λx hx=>h.rng x (pm.mem_iff.mp hx),?_,λx y e =>?_⟩
   ·have c:=h.ch
    rw[show (a :: u)++(b :: v)++((a :: u)++(b :: v)).take 1=(a :: u)++b :: (v++[a]) by simp] at c
    rw[show (b :: v)++(a :: u)++((b :: v)++(a :: u)).take 1=(b :: v)++a :: (u++[b]) by simp]
    rw[pH] at c ⊢
    exact ⟨c.2,c.1⟩
   ·have:v=[]:=by
     cases v with
     | nil=>rfl
     | cons c v=>simp at e
    subst this
    have:u=[]:=by
     cases u with
     | nil=>rfl
     | cons c u=>simp at e
    subst this
    simp at e
    obtain ⟨rfl,rfl⟩:=e
    rw[cu]
    exact h.two _ _ rfl
theorem Ring.turn {m:Nat}{ns:List (List Int)}{a:Int}{t:List Int}(h:Ring m ns (a :: t)):Ring m ns (a :: t.reverse):=by
 have pm:(a :: t.reverse).Perm (a :: t):=(K0 t).cons a
 refine ⟨by simp,pm.nodup_iff.mpr h.nd,λx hx=>h.rng x (pm.mem_iff.mp hx),?_,λx y e =>?_⟩
 ·have c:=uN (Td.symm (ns:=ns)) h.ch
  rw[show ((a :: t)++(a :: t).take 1).reverse=(a :: t.reverse)++(a :: t.reverse).take 1 by simp] at c
  exact c
 ·injection e with e1 e2
  have:t=[y]:=by
   have:=congrArg List.reverse e2
   rwa [Hb] at this
  subst this;subst e1
  exact h.two _ _ rfl
theorem Trl.inj {ns:List (List Int)}{s g:Int}{N:Nat}{Z:List Int}(h:Trl ns s g N Z):Z.Nodup:=by
 refine Gi.mpr λi j hi hj hij e =>?_
 have a:=h.dst i Z[i] (CI hi)
 have b:=h.dst j Z[j] (CI hj)
 rw[<- e] at b
 have:=a.2.uniq b.2
 omega
theorem Trl.rng {m:Nat}{ns:List (List Int)}(O:Ok m ns){s g:Int}(hs:0<=s/\s<m){N:Nat}{Z:List Int}(h:Trl ns s g N Z):∀v∈Z,0<=v/\v<m:=λv hv=>by
 obtain ⟨i,e⟩:=DC.mp hv
 exact (h.dst i v e).2.1.rng O hs
theorem Way.last {ns:List (List Int)}{s g:Int}{N:Nat}{Z:List Int}(h:Way ns s g N Z):Z[N]? = some s:=by
 obtain ⟨x,ex⟩:∃x,Z[N]? = some x:=⟨_,CI (by have:=h.2;lia)⟩
 have a:=(h.1.dst N x ex).2
 rw[K5] at a
 rw[ex,a.1.zero]
theorem Way.two {ns:List (List Int)}{s g:Int}(ne:s≠g){N:Nat}{Z:List Int}(h:Way ns s g N Z):2<=N:=by
 rcases N with _ | _ | N
 ·have a:=(h.1.dst 0 g h.1.hd).2
  exact absurd a.1.zero.symm ne
 ·have:=h.1.ch 0 g s h.1.hd h.last
  exact absurd this.2 (by simp)
 ·lia
theorem Way.ring {m:Nat}{ns:List (List Int)}(O:Ok m ns){s g:Int}(ne:s≠g)(hs:0<=s/\s<m)(td:Td ns s g){N:Nat}{Z:List Int}(h:Way ns s g N Z):Ring m ns Z:=by
 have h2:=h.two ne
 have lz:=h.2
 refine ⟨λz=>by rw[z] at lz;simp at lz,h.1.inj,h.1.rng O hs,?_,λx y e=>by rw[e] at lz;simp at lz;omega⟩
 ·have t1:Z.take 1=[g]:=by
   have:=h.1.hd
   cases Z with
   | nil=>cases this
   | cons a t=>cases this;rfl
  rw[t1]
  refine pI λi x y e1 e2 =>?_
  rcases Fq (i+1) Z.length with c | c
  ·rw[Dv (by omega)] at e1 e2
   exact Td.symm _ _ ((eX O).mp (h.1.ch i x y e1 e2).1).2
  ·rw[DB (by omega)] at e2
   have:i+1-Z.length=0:=by
    rcases Gg (i+1-Z.length) with z | z
    ·exact z
    ·rw[Dz (by simp;omega)] at e2;cases e2
   rw[this] at e2;cases e2
   rw[Dv (by omega),show i=N by omega,h.last] at e1
   cases e1;exact td
def inn (s g p:Int)(CF:List (Int×V)×List Int)(o:Int):List (Int×V)×List Int :=
 if o∈CF.1.map (·.1)\/¬ (p≠s\/o≠g) then CF else (CF.1++[(o,.int p)],CF.2++[o])
def BE (nb:Int->List Int)(s g:Int)(CF:List (Int×V)×List Int)(p:Int):List (Int×V)×List Int:=(nb p).foldl (inn s g p) CF
def itW (nb:Int->List Int)(s g:Int):Nat->List (Int×V)×List Int
 | 0=>([(s,.non)],[s])
 | k+1=>(itW nb s g k).2.foldl (BE nb s g) ((itW nb s g k).1,[])
def yi (g:Int)(CY:List (Int×V)×List Int):Prop:=CY.2=[]\/g∈CY.1.map (·.1)
def yj (nb:Int->List Int)(s g:Int)(C:List (Int×V)):Prop:=∃k,(itW nb s g k).1=C/\yi g (itW nb s g k)/\∀j,j<k->¬ yi g (itW nb s g j)
theorem yj.uniq {nb:Int->List Int}{s g:Int}{C C':List (Int×V)}(h:yj nb s g C)(h':yj nb s g C'):C=C':=by
 obtain ⟨k,e,st,no⟩:=h
 obtain ⟨k',e',st',no'⟩:=h'
 have:k=k':=by
  rcases HR k k' with z | z | z
  ·exact absurd st (no' k z)
  ·exact z
  ·exact absurd st' (no k' z)
 rw[<- e, <- e',this]
def nxt:Option Int->V
 | some y =>.int y
 | none =>.non
theorem zW {a b:Option Int}(h:nxt a=nxt b):a=b:=by
 cases a <;> cases b <;> simp[nxt] at h ⊢
 exact h
def Tra (C:List (Int×V))(g:Int)(Z:List Int):Prop:=Z[0]? = some g/\∀(i:Nat) x,Z[i]? = some x->de (mp C) (Sum.inl x)=some (nxt Z[i+1]?)
theorem Tra.uniq {C:List (Int×V)}{g:Int}{Z Z':List Int}(h:Tra C g Z)(h':Tra C g Z'):Z=Z':=by
 apply Fb
 intro i
 induction i with
 | zero=>rw[h.1,h'.1]
 | succ i ih =>
  cases e:Z[i]? with
  | none =>
   rw[e] at ih
   rw[Dz (by have:=E6.mp e;lia),Dz (by have:=E6.mp ih.symm;lia)]
  | some x =>
   have a:=h.2 i x e
   have b:=h'.2 i x (ih ▸ e)
   rw[a] at b
   exact zW (Dk b)
def yk (nb:Int->List Int)(s g:Int)(Z:List Int):Prop:=∃C,yj nb s g C/\Tra C g Z
theorem yk.uniq {nb:Int->List Int}{s g:Int}{Z Z':List Int}(h:yk nb s g Z)(h':yk nb s g Z'):Z=Z':=by
 obtain ⟨C,f,t⟩:=h
 obtain ⟨C',f',t'⟩:=h'
 have:=f.uniq f'
 subst this
 exact t.uniq t'
def gC (rows:List (List Int))(p:Int):List Int:=rows.getD p.toNat []
theorem cP {α β:Type}{f:β -> α -> β}{b:β}{l:List α}{i:Nat}{x:α}(e:l[i]? = some x):(l.take (i+1)).foldl f b=f ((l.take i).foldl f b) x:=by
 rw[Ee,e,List.foldl_append];rfl
def rot (ns:List Int)(k:Nat):List Int:=ns.drop k++ns.take k
def turn (ns:List Int):List Int:=ns.take 1++(ns.drop 1).reverse
def jL (a b:List Int):List Int:=if HT.lexLt b a=true then b else a
def frm (ns:List Int)(M:Int):List Int:=jL (rot ns (ns.idxOf M)) (turn (rot ns (ns.idxOf M)))
theorem tJ (xs:List V){k:Nat}(h:k<=xs.length):fX xs none (some (k:Int))=xs.take k:=by
 unfold fX HT.sIx
 simp only[show ¬ ((k:Int)<0) by lia,if_false,Ej,JJ,HV,show min k xs.length=k by lia]
theorem mw (xs:List V){k:Nat}(h:k<=xs.length):fX xs (some (k:Int)) none=xs.drop k:=by
 unfold fX HT.sIx
 simp only[show ¬ ((k:Int)<0) by lia,if_false,Ej,show min k xs.length=k by lia]
 exact C7 (by rw[Es];exact CO _)
abbrev uO:Sp:=λvs H Q _=>∃(p:Addr) (ns:List Int),vs=[.ref p]/\H p=some (.tup (ns.map V.int))/\ns≠[]/\ns.length<=500/\∀(z:Addr) (H':Hp) (M:Int),aE H H'->M∈ns->(∀b∈ns,M<=b)->H' z=some (.tup ((frm ns M).map V.int))->Q (.ref z) H'
@[irreducible] def pK:Sp:=uO
theorem iC {vs:List V}{H:Hp}{Q:VK}{E:XK}:pK vs H Q E↔uO vs H Q E:=by
 delta pK
 exact Fd
section
variable  {P:De}{w:DN}{K:CM}{mg:Str->Option CJ}{base:Heap}{f T:Addr}{fd:Eh}
theorem iD:aO ["ring", "at", "onward"] ["ring"] (aF jI):=⟨rfl,rfl,rfl,by decide +kernel,rfl,by decide +kernel,by decide +kernel⟩
theorem tK (F:Fun K "ring_form" "ring_form" jI f fd)(B:Blt mg):bS P w K mg base CX0 1 f fd ["ring"] pK:=by
 refine F.ok iD (λvs H Q E h =>?_) (λcdv A outer s H vs Q E hr h =>?_)
 ·obtain ⟨_,_,rfl,_⟩:=iC.mp h
  rfl
 obtain ⟨p,ns,rfl,ep,ne,l5,q⟩:=iC.mp h
 refine ⟨_,(@ai _ _ _ _ _ (@aM _ _ 1 _ _ _ _ iD.nd rfl (Or.inl rfl) (oZ Jj PySem.F.type_tuple_index v8 (pv 0) (@aa _ _ _ _ _ (az (tD rfl) rfl B.b_min eV (@aa _ _ _ _ _ (pv 0) ah rfl)) ah rfl)) rfl (by first | exact .inl rfl | exact .inr rfl | assumption))
  (@ai _ _ _ _ _ (@aM _ _ 2 _ _ _ _ iD.nd rfl (Or.inl rfl) (@aT _ _ _ _ _ _ _ _ qU (aJ aX rfl B.b_tuple dA (@aa _ _ _ _ _ (du gQ (pv 0) (dG (pv 1)) fI) ah rfl)) (aJ aX rfl B.b_tuple dA (@aa _ _ _ _ _ (du gQ (pv 0) fI (dG (pv 1))) ah rfl))) rfl (by first | exact .inl rfl | exact .inr rfl | assumption))
  (@au _ _ _ (@aL _ _ _ _ (az (tq rfl (hu8 hr)) rfl B.b_min eV (@aa _ _ _ _ _ (pv 2) (@aa _ _ _ _ _ (@aT _ _ _ _ _ _ _ _ qU (du gQ (pv 2) fI (dG ak)) (v7 hr.hd rfl B.b_tuple rfl B.b_reversed (du gQ (pv 2) (dG ak) fI))) ah rfl) rfl)))))),?_⟩
 have lm:(ns.map V.int).length=ns.length:=CG _
 refine ⟨_,rfl,⟨p,_,rfl,ep⟩,_,rfl,p,ns,rfl,SqT.of ep,ne,λM hM mn=>⟨p,ns,M,rfl,rfl,ep,hM,?_⟩⟩
 have hk:ns.idxOf M<=ns.length:=GP (Ht.mpr hM)
 have q:=λz H'=>q z H' M
 unfold frm rot at q
 generalize ns.idxOf M=k at hk q
 refine ⟨_,rfl,_,rfl,_,rfl,p,_,rfl,ep,λp1 H1 s1 e1=>⟨p1,_,rfl,.inr ⟨SqT.of e1,?_⟩⟩⟩
 rw[mw _ (by rw[lm];exact hk), <- G5] at e1
 refine ⟨_,rfl,_,rfl,_,rfl,p,_,rfl,s1 _ _ ep,λp2 H2 s2 e2=>⟨p2,_,rfl,.inr ⟨SqT.of e2,?_⟩⟩⟩
 rw[tJ _ (by rw[lm];exact hk), <- Io] at e2
 refine ⟨p1,p2,_,_,rfl,rfl,s2 _ _ e1,e2,by rw[CG,CG,Es,Eb];exact small (by lia),λp3 H3 s3 e3 =>?_⟩
 rw[<- C2] at e3
 have lo:(ns.drop k++ns.take k).length=ns.length:=by rw[CL,Es,Eb];lia
 generalize ns.drop k++ns.take k=os at e3 lo q
 have lom:(os.map V.int).length=os.length:=CG _
 have po:=FA.mpr ne
 refine ⟨_,rfl,_,rfl,1,rfl,p3,_,rfl,e3,λp4 H4 s4 e4 =>?_⟩
 rw[show fX (os.map V.int) none (some 1)=(os.map V.int).take 1 from tJ (k:=1) _ (by rw[lom];lia), <- Io] at e4
 refine ⟨_,rfl,1,rfl,p3,_,rfl,s4 _ _ e3,λp5 H5 s5 e5 =>?_⟩
 rw[show fX (os.map V.int) (some 1) none=(os.map V.int).drop 1 from mw (k:=1) _ (by rw[lom];lia), <- G5] at e5
 refine ⟨p5,_,rfl,SqT.of e5,by rw[CG,Es];lia,λp6 hp6 =>?_⟩
 rw[<- Lp]
 have g6:=af hp6 (.tup ((os.drop 1).reverse.map V.int))
 have ep6:upd H5 p6 (.tup ((os.drop 1).reverse.map V.int)) p6=some (.tup ((os.drop 1).reverse.map V.int)):=ag
 generalize upd H5 p6 (.tup ((os.drop 1).reverse.map V.int))=H6 at g6 ep6
 refine ⟨p4,p6,_,_,rfl,rfl,g6 _ _ (s5 _ _ e4),ep6,by rw[CG,CG,Eb,EM,Es];exact small (by lia),λp7 H7 s7 e7 =>?_⟩
 rw[<- C2] at e7
 have s47:=s4.trans (s5.trans (g6.trans s7))
 have sA:=s1.trans (s2.trans (s3.trans s47))
 refine ⟨p3,p7,os,_,rfl,SqT.of (s47 _ _ e3),SqT.of e7,λz=>q p7 H7 sA hM mn ?_,λz=>q p3 H7 sA hM mn ?_⟩
 ·rw[show jL os (turn os)=turn os by unfold jL;exact if_pos z]
  exact e7
 ·rw[show jL os (turn os)=os by unfold jL;exact if_neg (by show ¬ HT.lexLt (turn os) os=true;unfold turn;rw[z];exact C8)]
  exact s47 _ _ e3
end
open PySem L2
def yl (σ:St)(H:Hp):Nat:=match σ with
 | _ :: _ :: _ :: _ :: some (.ref y) :: _=>match H y with
  | some (.lst (_ :: _))=>1
  | _=>0
 | _=>0
theorem Ax {c0 c1 c2 c3:Option V}{y:Addr}{r:St}{H:Hp}{xs:List V}(e:H y=some (.lst xs)):yl (c0 :: c1 :: c2 :: c3 :: some (.ref y) :: r) H=if xs=[] then 0 else 1:=by
 unfold yl
 dsimp only
 rw[e]
 cases xs with
 | nil=>rfl
 | cons a t=>rfl
theorem iE {n:Nat}(h:n<=5000):n<C6:=HH h (by decide)
theorem fV {ms:List Int}{i:Nat}{x:V}(e:(ms.map V.int)[i]? = some x):∃n,ms[i]? = some n/\x = .int n:=by
 rw[CU] at e
 cases z:ms[i]? with
 | none=>rw[z] at e;cases e
 | some n=>rw[z] at e;exact ⟨n,rfl,(Dk e).symm⟩
theorem ku {H:Hp}{d:Addr}{kvs:List (Key×V)}(e:H d=some (.dK kvs)):j9 H d=kvs.length:=by unfold j9;rw[e]
theorem uP {H:Hp}{d:Addr}{xs:List V}(e:H d=some (.lst xs)):mY H d=xs.length:=by unfold mY;rw[e]
theorem gX {l:List Int}{i:Nat}{x v:Int}(e:l[i]? = some x)(h:v∈l.take (i+1)):v∈l.take i\/v=x:=by
 rw[Ee,e] at h
 rcases CW.mp h with z | z
 ·exact .inl z
 ·exact .inr (by simpa using z)
abbrev yp:Sp:=λvs H Q _=>∃(n:Addr) (m:Nat) (ns:List (List Int)) (os:List (Addr×List Int)) (s g:Int),vs=[.ref n,.int s,.int g]/\gy H n m ns os/\Ok m ns/\m<=400/\(0<=s/\s<m)/\s≠g/\(∀H',aE H H'->(∀k,¬ Wk (stp ns s g) s k g)->Q .non H')/\∀(z:Addr) (H':Hp) (N:Nat) (Z:List Int),aE H H'->H' z=some (.tup (Z.map V.int))->Way ns s g N Z->yk (gC (os.map (·.2))) s g Z->Q (.ref z) H'
@[irreducible] def uQ:Sp:=yp
theorem jM {vs:List V}{H:Hp}{Q:VK}{E:XK}:uQ vs H Q E↔yp vs H Q E:=by
 delta uQ
 exact Fd
def WM (H:Hp)(n:Addr)(sa gb:Int)(ns:List (List Int))(os:List (Addr×List Int))(σ:St)(H':Hp):Prop:=∃(c5 c6 c7:Option V) (dd y:Addr) (d:Nat) (C:List (Int×V)) (Y:List Int),σ=[some (.ref n),some (.int sa),some (.int gb),some (.ref dd),some (.ref y),c5,c6,c7,none]/\H dd=none/\aE H H'/\H' dd=some (.dK (mp C))/\H' y=some (.lst (Y.map V.int))/\Rnd ns sa gb d C Y []/\(Y=[]\/gb∈C.map (·.1))/\yj (gC (os.map (·.2))) sa gb C
def WT (H:Hp)(n dd y wy:Addr)(sa gb:Int)(ns:List (List Int))(C:List (Int×V))(NN:Nat)(c5 c7:Option V)(σ:St)(H':Hp):Prop:=∃(x:V) (W Z:List Int),σ=[some (.ref n),some (.int sa),some (.int gb),some (.ref dd),some (.ref y),c5,some x,c7,some (.ref wy)]/\aE H H'/\H' dd=some (.dK (mp C))/\H' wy=some (.lst (W.map V.int))/\Trl ns sa gb NN Z/\(∀(i:Nat) u v,Z[i]? = some u->Z[i+1]? = some v->de (mp C) (Sum.inl u)=some (.int v))/\((∃(p:Int) (k:Nat),x = .int p/\Z=W++[p]/\Dst (stp ns sa gb) sa k p/\k+W.length=NN)\/(x = .non/\Z=W/\Z.length=NN+1/\∀u,Z[NN]? = some u->de (mp C) (Sum.inl u)=some .non))
def WA (H:Hp)(n dd:Addr)(sa gb:Int)(ns:List (List Int))(os:List (Addr×List Int))(σ:St)(H':Hp):Prop:=∃(c5 c6 c7:Option V) (y:Addr) (d:Nat) (C:List (Int×V)) (Y:List Int),σ=[some (.ref n),some (.int sa),some (.int gb),some (.ref dd),some (.ref y),c5,c6,c7,none]/\aE H H'/\H' dd=some (.dK (mp C))/\H' y=some (.lst (Y.map V.int))/\Rnd ns sa gb d C Y []/\∃k,itW (gC (os.map (·.2))) sa gb k=(C,Y)/\∀j,j<k->¬ yi gb (itW (gC (os.map (·.2))) sa gb j)
def WB (H:Hp)(n dd y fu:Addr)(sa gb:Int)(ns:List (List Int))(os:List (Addr×List Int))(d:Nat)(C:List (Int×V))(Y:List Int)(i:Nat)(σ:St)(H4:Hp):Prop:=∃(c6 c7:Option V) (C4:List (Int×V)) (F4:List Int),σ=[some (.ref n),some (.int sa),some (.int gb),some (.ref dd),some (.ref y),some (.ref fu),c6,c7,none]/\aE H H4/\H4 dd=some (.dK (mp C4))/\H4 y=some (.lst (Y.map V.int))/\H4 fu=some (.lst (F4.map V.int))/\Rnd ns sa gb d C4 Y F4/\C4.length=C.length+F4.length/\(∀p∈Y.take i,∀o,stp ns sa gb p o->o∈C4.map (·.1))/\(Y.take i).foldl (BE (gC (os.map (·.2))) sa gb) (C,[])=(C4,F4)
def WC (H:Hp)(n dd y fu:Addr)(pn:Nat)(sa gb:Int)(ns:List (List Int))(uu:Addr×List Int)(d:Nat)(C C4:List (Int×V))(Y F4:List Int)(i:Nat)(j:Nat)(σ:St)(H5:Hp):Prop:=∃(c7:Option V) (C5:List (Int×V)) (F5:List Int),σ=[some (.ref n),some (.int sa),some (.int gb),some (.ref dd),some (.ref y),some (.ref fu),some (.int pn),c7,none]/\aE H H5/\H5 dd=some (.dK (mp C5))/\H5 y=some (.lst (Y.map V.int))/\H5 fu=some (.lst (F5.map V.int))/\Rnd ns sa gb d C5 Y F5/\C5.length=C.length+F5.length/\(∀p∈Y.take i,∀o,stp ns sa gb p o->o∈C5.map (·.1))/\(∀o∈uu.2.take j,stp ns sa gb pn o->o∈C5.map (·.1))/\(uu.2.take j).foldl (inn sa gb pn) (C4,F4)=(C5,F5)
section
variable  {P:De}{w:DN}{K:CM}{mg:Str->Option CJ}{base:Heap}{f T:Addr}{fd:Eh}
theorem bW:aO ["near", "start", "goal", "came", "ready", "further", "place", "other", "way"] ["near", "start", "goal"] (aF fA):=⟨rfl,rfl,rfl,by decide +kernel,rfl,by decide +kernel,by decide +kernel⟩
theorem tL (F:Fun K "way_about" "way_about" fA f fd)(B:Blt mg):bS P w K mg base CX0 1 f fd ["near", "start", "goal"] uQ:=by
 refine F.ok bW (λvs H Q E h =>?_) (λcdv A outer s H vs Q E hr h =>?_)
 ·obtain ⟨_,_,_,_,_,_,rfl,_⟩:=jM.mp h
  rfl
 obtain ⟨n,m,ns,os,sa,gb,rfl,N,O,m4,hs,nsg,q0,q1⟩:=jM.mp h
 have hu:(oO CX0 P w K mg base ["near", "start", "goal", "came", "ready", "further", "place", "other", "way"] "way_about" (aF fA) f cdv A outer s H E).nox.A.units+1<cLine:=qo hr
 have kl:∀{d:Nat} {C:List (Int×V)} {Y F:List Int},Rnd ns sa gb d C Y F->C.length<=m:=λ{d C Y F} I=>by
  have:=bZ I.nd (m:=m) λv hv=>by
   rcases (I.key v).mp hv with ⟨k,_,wk⟩ | z
   ·exact wk.rng O hs
   ·exact (I.fur v z).1.rng O hs
  rwa [CG] at this
 refine fB ((cy fA).drop 3) (WM H n sa gb ns os) ?hT λtT pT mT =>?gT
 case hT =>
  refine ⟨_,(@ai _ _ _ _ _ (@bC _ _ _ _ _ _ _ _ (fZ (dS hu (pv 2) (pv 3))) (@au _ _ _ (@aL _ _ _ _ jv)) aR)
  (@ai _ _ _ _ _ (@aM _ _ 8 _ _ _ _ bW.nd rfl (Or.inl rfl) (@bX _ _ _ _ ah) rfl (by first | exact .inl rfl | exact .inr rfl | assumption))
  (@ai _ _ _ _ _ (@aM _ _ 6 _ _ _ _ bW.nd rfl (Or.inl rfl) (pv 2) rfl (by first | exact .inl rfl | exact .inr rfl | assumption))
  (@ai _ _ _ _ _ (iM DE (aK tY (pv 6) jv (aS _))
   (@ai _ _ _ _ _ (bI (cU Dq DK DL bD (pv 8) (@aa _ _ _ _ _ (pv 6) ah rfl)))
   (@au _ _ _ (@aM _ _ 6 _ _ _ _ bW.nd rfl (Or.inl rfl) (o8 hu (pv 3) (pv 6) (λ_ _=>rfl)) rfl (by first | exact .inl rfl | exact .inr rfl | assumption)))))
  (@au _ _ _ (@aL _ _ _ _ (aJ aX rfl B.b_tuple dA (@aa _ _ _ _ _ (pv 8) ah rfl)))))))),?_⟩
  rintro σ H' ⟨c5,c6,c7,dd,y,d,C,Y,rfl,hdd,s',ed,ey,I,h2,fw⟩
  refine ⟨_,rfl,_,rfl,dd,_,rfl,fv.k (k:=Sum.inl gb) ed,_,rfl,?_⟩
  rw[oB]
  by_cases hg:gb∈C.map (·.1)
  ·rw[decide_eq_true hg]
   refine bM ⟨(by show 0<=C6;decide),λwy hwy =>?_⟩
   have g2:=af hwy (.lst [])
   have ew:upd H' wy (.lst []) wy=some (.lst (([]:List Int).map V.int)):=ag
   have ed2:=g2 _ _ ed
   have hw0:=s'.free hwy
   have ndw:dd≠wy:=aB ed hwy
   have s2:=s'.trans g2
   generalize upd H' wy (.lst [])=H2 at g2 ew ed2 s2
   obtain ⟨NN,hN,dN⟩:=I.dst hg
   refine ⟨_,rfl,?_⟩
   refine iN (WT H n dd y wy sa gb ns C NN c5 c7)
    (λσ H'=>NN+1-mY H' wy) ⟨_,[],[gb],rfl,s2,ed2,ew,Trl.start dN,λi u v _ e=>by simp at e,.inl ⟨gb,NN,rfl,rfl,dN,rfl⟩⟩ ?_ ?_
   ·rintro σ H3 ⟨x,W,Z,rfl,s3,ed3,ew3,tr,vc,cs⟩
    have yw:=uP ew3
    rw[CG] at yw
    rcases cs with ⟨p,k,rfl,rfl,dp,kW⟩ | ⟨rfl,rfl,lZ,vl⟩
    ·refine ⟨_,rfl,rfl,_,rfl,bF ?_⟩
     refine ⟨_,rfl,.inl ⟨rfl,_,SqL.of ew3⟩,_,rfl,wy,_,_,rfl,rfl,ew3,by rw[CG];exact bE (by have:=bZ tr.inj (tr.rng O hs);rw[CL] at this;lia),?_⟩
     have ew4:upd H3 wy (.lst (W.map V.int++[.int p])) wy=some (.lst ((W++[p]).map V.int)):=by rw[ag,C2];rfl
     have ed4:upd H3 wy (.lst (W.map V.int++[.int p])) dd=some (.dK (mp C)):=by rw[aD ndw];exact ed3
     have s4:=aE.bG s3 hw0 (.lst (W.map V.int++[.int p]))
     generalize upd H3 wy (.lst (W.map V.int++[.int p]))=H4 at ew4 ed4 s4
     have y4:=uP ew4
     rw[CG,CL] at y4
     have y4':mY H4 wy=W.length+1:=y4
     obtain ⟨x,hx,ex⟩:=yh ((I.key p).mpr (.inl ⟨k,by lia,dp.1⟩))
     refine ⟨_,rfl,_,rfl,dd,x,rfl,?_,⟨x,W++[p],?_⟩,by rw[yw,y4'];lia⟩
     ·have:=fv.k (k:=Sum.inl p) ed4
      rw[ex] at this
      exact this
     rcases I.ent _ hx with ⟨e1,e2⟩ | ⟨p',k',e2,d1,d2,st⟩
     ·have k0:k=0:=dp.uniq (b:=0) (by rw[show p=sa from e1];exact ⟨.z,λj hj=>absurd hj (Gs _)⟩)
      refine ⟨W++[p],rfl,s4,ed4,ew4,tr,vc,.inr ⟨e2,rfl,by rw[CL];show W.length+1=_;lia,λu eu =>?_⟩⟩
      rw[DB (by lia),show NN-W.length=0 by lia] at eu
      cases eu
      rw[ex,show x=V.non from e2]
     ·have kk:k=k'+1:=dp.uniq d2
      refine ⟨W++[p]++[p'],rfl,s4,ed4,ew4,tr.add (by lia) d1 st,λi u v e3 e4 =>?_,.inl ⟨p',k',e2,rfl,d1,by rw[CL];show k'+(W.length+1)=_;lia⟩⟩
      have lW:(W++[p]).length=W.length+1:=by simp
      rcases Fq (i+1) (W.length+1) with c | c
      ·rw[Dv (by lia)] at e3 e4;exact vc i u v e3 e4
      ·rw[DB (by lia),lW] at e4
       have:i+1-(W.length+1)=0:=by
        rcases Gg (i+1-(W.length+1)) with z | z
        ·exact z
        ·rw[Dz (by simp;lia)] at e4;cases e4
       rw[this] at e4;cases e4
       rw[Dv (by lia),DB (by lia),show i-W.length=0 by lia] at e3
       cases e3
       rw[ex,show x=V.int p' from e2]
    ·refine ⟨_,rfl,rfl,_,rfl,bM ?_⟩
     refine ⟨_,rfl,wy,_,rfl,.inl ⟨SqL.of ew3,λz hz=>q1 z _ NN Z (s3.trans (af hz _)) ag ⟨tr,lZ⟩ ⟨C,fw,tr.hd,λi u eu =>?_⟩⟩⟩
     cases ev:Z[i+1]? with
     | some v=>exact vc i u v eu ev
     | none =>
      have h1:=(CP.mp eu).1
      have h2:=E6.mp ev
      exact vl u (by rw[show NN=i by lia];exact eu)
   ·rintro σ H Q Q' h ⟨v,e,k,c,t,q⟩;exact ⟨v,e,k,c,t,h _ _ q⟩
  ·rw[decide_eq_false hg]
   have hY:Y=[]:=h2.resolve_right hg
   subst hY
   exact bF (q0 H' s' λk wk=>hg (I.stop wk))
 case gT =>
 refine ⟨_,(@ai _ _ _ _ _ (@aM _ _ 3 _ _ _ _ bW.nd rfl (Or.inl rfl) (uy (qQ (pv 1) jv ux) rfl rfl (by simp) (by decide)) rfl (by first | exact .inl rfl | exact .inr rfl | assumption))
  (@ai _ _ _ _ _ (@aM _ _ 4 _ _ _ _ bW.nd rfl (Or.inl rfl) (@bX _ _ _ _ (@aa _ _ _ _ _ (pv 1) ah rfl)) rfl (by first | exact .inl rfl | exact .inr rfl | assumption))
  (@ai _ _ _ _ _ (iM DE (PW.pt (kM (kQ (pv 4) (λ_=>rfl)) (iL (fZ (dS hu (pv 2) (pv 3))))))
   (@ai _ _ _ _ _ (@aM _ _ 5 _ _ _ _ bW.nd rfl (Or.inl rfl) (@bX _ _ _ _ ah) rfl (by first | exact .inl rfl | exact .inr rfl | assumption))
   (@ai _ _ _ _ _ (@bN _ _ _ _ _ _ _ _ DE rfl (@bR _ _ _ _ (pv 4)) (aq (i:=6) bW.nd rfl (Or.inl rfl))
    (@au _ _ _ (@bN _ _ _ _ _ _ _ _ DE rfl (@bR _ _ _ _ (@aH _ _ _ _ _ _ _ b8 (pv 0) (pv 6) (λ_ _=>rfl))) (aq (i:=7) bW.nd rfl (Or.inl rfl))
     (@au _ _ _ (@bC _ _ _ _ _ _ _ _ (PW.pt (kM (fZ (dS hu (pv 7) (pv 3))) (iL (PW.pt (jT (aK kO (pv 6) (pv 1) (aS _)) (kK (aK kO (pv 7) (pv 2) (aS _)))))))) (@ai _ _ _ _ _ (i7 hu (pv 3) (pv 7) (pv 6) rfl)
      (@au _ _ _ (bI (cU Dq DK DL bD (pv 5) (@aa _ _ _ _ _ (pv 7) ah rfl))))) aR)) (λ_=>rfl))) (λ_=>rfl))
   (@au _ _ _ (@aM _ _ 4 _ _ _ _ bW.nd rfl (Or.inl rfl) (pv 5) rfl (by first | exact .inl rfl | exact .inr rfl | assumption))))))
  pT))),?_⟩
 refine λdd hdd=>⟨_,rfl,ag,[(Sum.inl sa,.non)],rfl,(by show 1<=15;decide),?_⟩
 have e1d:upd (upd H dd (.dK [])) dd (.dK (dE [] [(Sum.inl sa,V.non)])) dd=some (.dK (mp [(sa,.non)])):=ag
 have s1:aE H (upd (upd H dd (.dK [])) dd (.dK (dE [] [(Sum.inl sa,V.non)]))):=λb o e=>by
  rw[aD (aB e hdd),aD (aB e hdd)];exact e
 generalize upd (upd H dd (.dK [])) dd (.dK (dE [] [(Sum.inl sa,V.non)]))=H1 at e1d s1
 refine ⟨_,rfl,(by show 1<=C6;decide),λy hy =>?_⟩
 have g2:=af hy (.lst [.int sa])
 have e2y:upd H1 y (.lst [.int sa]) y=some (.lst (([sa]:List Int).map V.int)):=ag
 have e2d:=g2 _ _ e1d
 have s2:=s1.trans g2
 generalize upd H1 y (.lst [.int sa])=H2 at g2 e2y e2d s2
 refine iN (WA H n dd sa gb ns os)
  (λσ H'=>2*(m-j9 H' dd)+yl σ H') ⟨_,_,_,y,0,_,_,rfl,s2,e2d,e2y,Rnd.start ns sa gb,0,rfl,λj hj=>absurd hj (Gs _)⟩ ?_ ?_
 ·rintro σ H' ⟨c5,c6,c7,y,d,C,Y,rfl,s',ed,ey,I,kk,ekk,nst⟩
  refine ⟨_,rfl, !(Y.map V.int).isEmpty,.inl ⟨_,SqL.of ey,rfl⟩,?_⟩
  by_cases hY:Y=[]
  ·have fin:=mT _ _ ⟨c5,c6,c7,dd,y,d,C,Y,rfl,hdd,s',ed,ey,I,.inl hY,kk,by rw[ekk],by rw[ekk];exact .inl hY,nst⟩
   subst hY
   exact bM fin
  rw[show (!(Y.map V.int).isEmpty)=true by cases Y with | nil=>exact absurd rfl hY | cons a t=>rfl]
  refine bF ⟨_,rfl,_,rfl,dd,_,rfl,fv.k (k:=Sum.inl gb) ed,_,rfl,?_⟩
  rw[oB]
  by_cases hg:gb∈C.map (·.1)
  ·rw[decide_eq_true hg]
   exact bM (mT _ _ ⟨c5,c6,c7,dd,y,d,C,Y,rfl,hdd,s',ed,ey,I,.inr hg,kk,by rw[ekk],by rw[ekk];exact .inr hg,nst⟩)
  rw[decide_eq_false hg]
  refine bF ⟨(by show 0<=C6;decide),λfu hfu =>?_⟩
  have hf0:=s'.free hfu
  have g3:=af hfu (.lst [])
  have ef:upd H' fu (.lst []) fu=some (.lst (([]:List Int).map V.int)):=ag
  have ed3:=g3 _ _ ed
  have ey3:=g3 _ _ ey
  have ndf:dd≠fu:=aB ed hfu
  have nyf:y≠fu:=aB ey hfu
  have s3:=s'.trans g3
  have nyd:y≠dd:=eG ey ed (by intro z;cases z)
  have mu0:2*(m-j9 H' dd)+yl [some (.ref n),some (.int sa),some (.int gb),some (.ref dd),some (.ref y),c5,c6,c7,none] H'=2*(m-C.length)+1:=by
   rw[ku ed,pG,Ax ey,if_neg (by simpa using hY)]
  rw[mu0]
  generalize upd H' fu (.lst [])=H3 at g3 ef ed3 ey3 s3
  have kC:=kl I
  refine ⟨_,rfl,y,rfl,⟨_,SqL.of ey3⟩,dY (xs:=Y.map V.int) (WB H n dd y fu sa gb ns os d C Y)
   ⟨_,_,C,[],rfl,s3,ed3,ey3,ef,I,rfl,λp hp=>by simp at hp,rfl⟩ (λi σ H4 _ z =>?_) ?_ ?_⟩
  ·obtain ⟨_,_,_,_,_,_,_,e,_⟩:=z
   exact SqL.of e
  ·rintro i x σ H4 hx ⟨c6,c7,C4,F4,rfl,s4,ed4,ey4,ef4,I4,l4,cl4,fo4⟩
   obtain ⟨p,ep,rfl⟩:=fV hx
   have pY:=CT ep
   have pr:=((I4.rdy p).mp pY).1.rng O hs
   obtain ⟨pn,rfl⟩:∃k:Nat,p=k:=⟨p.toNat,by lia⟩
   have N4:=N.same s4
   have pl:pn<os.length:=by rw[N.len];lia
   obtain ⟨uu,eu⟩:∃u,os[pn]? = some u:=⟨_,CI pl⟩
   have rowu:=N4.row _ (CT eu)
   have isu:=N.is pn _ eu
   have enb:gC (os.map (·.2)) (pn:Int)=uu.2:=by unfold gC;rw[Ej,C0,CU,eu];rfl
   refine ⟨_,rfl,_,rfl,n,_,(pn:Int),_,rfl,rfl,SqL.of N4.at',cD (by rw[CU,eu];rfl),uu.1,rfl,⟨_,SqL.of rowu⟩,dY (xs:=uu.2.map V.int)
    (WC H n dd y fu pn sa gb ns uu d C C4 Y F4 i)
    ⟨_,C4,F4,rfl,s4,ed4,ey4,ef4,I4,l4,cl4,λo ho=>by simp at ho,rfl⟩ (λj σ H5 _ z =>?_) ?_ ?_⟩
   ·obtain ⟨_,_,_,_,s5,_⟩:=z
    exact SqL.of ((N.same s5).row _ (CT eu))
   ·rintro j x σ H5 hx ⟨c7,C5,F5,rfl,s5,ed5,ey5,ef5,I5,l5,cl5,tk5,fo5⟩
    obtain ⟨o,eo,rfl⟩:=fV hx
    have ao:Adj ns pn o:=(isu o).mp (CT eo)
    refine ⟨_,rfl,_,rfl,dd,_,rfl,fv.k (k:=Sum.inl o) ed5,_,rfl,?_⟩
    rw[oB]
    by_cases ho:o∈C5.map (·.1)
    ·rw[decide_eq_true ho]
     refine bM (bM ⟨_,C5,F5,rfl,s5,ed5,ey5,ef5,I5,l5,cl5,λo' h' st =>?_,by rw[cP eo,fo5];unfold inn;rw[if_pos (.inl ho)]⟩)
     rcases gX eo h' with z | z
     ·exact tk5 o' z st
     ·rw[z];exact ho
    rw[decide_eq_false ho]
    have k5:=kl I5
    have hd:lQ H5 dd (.int o) (.int pn) (upd H5 dd (.dK (putK (mp C5) (Sum.inl o) (.int pn)))):=lQ.k (k:=Sum.inl o) ed5 (by rw[pG];exact iE (by lia))
    rw[tI ho] at hd
    have ed6:upd H5 dd (.dK (mp (C5++[(o,.int pn)]))) dd=some (.dK (mp (C5++[(o,.int pn)]))):=ag
    have ef6:upd H5 dd (.dK (mp (C5++[(o,.int pn)]))) fu=some (.lst (F5.map V.int)):=by rw[aD (D8 ndf)];exact ef5
    have ey6:upd H5 dd (.dK (mp (C5++[(o,.int pn)]))) y=some (.lst (Y.map V.int)):=by rw[aD nyd];exact ey5
    have s6:=aE.bG s5 hdd (.dK (mp (C5++[(o,.int pn)])))
    generalize upd H5 dd (.dK (mp (C5++[(o,.int pn)])))=H6 at hd ed6 ef6 ey6 s6
    have fin:stp ns sa gb pn o->WC H n dd y fu pn sa gb ns uu d C C4 Y F4 i (j+1) [some (.ref n),some (.int sa),some (.int gb),some (.ref dd),some (.ref y),some (.ref fu),some (.int pn),some (.int o),none] (upd H6 fu (.lst (F5.map V.int++[.int o]))):=λst=>by
     refine ⟨_,C5++[(o,.int pn)],F5++[o],rfl,aE.bG s6 hf0 _,by rw[aD ndf];exact ed6,by rw[aD nyf];exact ey6,by rw[ag,C2];rfl,I5.add pY st ho,by rw[CL,CL,l5];rfl,λp' hp' o' st' =>?_,λo' h' st' =>?_,by rw[cP eo,fo5];unfold inn;rw[if_neg (λz=>z.elim ho λy=>y st.2)]⟩
     ·rw[C2];exact Dn _ (cl5 p' hp' o' st')
     ·rw[C2]
      rcases gX eo h' with z | z
      ·exact Dn _ (tk5 o' z st')
      ·rw[z];exact Dt _ (by simp)
    have lf:F5.length<=400:=by lia
    refine bF ⟨_,rfl,_,rfl,rfl,_,rfl,iS (λz =>?_) λz=>⟨_,rfl,_,rfl,rfl,_,rfl,iS (λz2 =>?_) λz2 =>?_⟩⟩
    ·have h1:(pn:Int)≠sa:=by simpa using z
     exact bF ⟨_,rfl,_,rfl,_,rfl,dd,_,rfl,hd,_,rfl,.inl ⟨rfl,_,SqL.of ef6⟩,_,rfl,fu,_,_,rfl,rfl,ef6,by rw[CG];exact iE (by lia),fin ⟨ao,.inl h1⟩⟩
    ·have h1:o≠gb:=by simpa using z2
     exact ⟨_,rfl,_,rfl,_,rfl,dd,_,rfl,hd,_,rfl,.inl ⟨rfl,_,SqL.of ef6⟩,_,rfl,fu,_,_,rfl,rfl,ef6,by rw[CG];exact iE (by lia),fin ⟨ao,.inr h1⟩⟩
    ·have h1:(pn:Int)=sa:=by simpa using z
     have h2:o=gb:=by simpa using z2
     refine ⟨_,C5,F5,rfl,s5,ed5,ey5,ef5,I5,l5,cl5,λo' h' st =>?_,by rw[cP eo,fo5];unfold inn;rw[if_pos (.inr (λz=>z.elim (λy=>y h1) λy=>y h2))]⟩
     rcases gX eo h' with y' | y'
     ·exact tk5 o' y' st
     ·subst y'
      exact absurd st.2 (by simp[h1,h2])
   ·rintro σ H5 ⟨c7,C5,F5,rfl,s5,ed5,ey5,ef5,I5,l5,cl5,tk5,fo5⟩
    rw[CG,C7 (CO _)] at tk5 fo5
    refine ⟨_,_,C5,F5,rfl,s5,ed5,ey5,ef5,I5,l5,λp' hp' o st =>?_,by rw[cP ep,fo4];unfold BE;rw[enb];exact fo5⟩
    rcases gX ep hp' with z | z
    ·exact cl5 p' z o st
    ·subst z
     exact tk5 o ((isu o).mpr st.1) st
  ·rintro σ H4 ⟨c6,c7,C4,F4,rfl,s4,ed4,ey4,ef4,I4,l4,cl4,fo4⟩
   rw[CG,C7 (CO _)] at cl4 fo4
   have I5:=I4.next cl4
   have k4:=kl I4
   refine ⟨_,rfl,⟨_,_,_,fu,d+1,C4,F4,rfl,s4,ed4,ef4,I5,kk+1,by show (itW _ sa gb kk).2.foldl _ ((itW _ sa gb kk).1,[])=_;rw[ekk];exact fo4,λj hj =>?_⟩,?_⟩
   ·rcases Fq j kk with c | c
    ·exact nst j c
    ·rw[show j=kk by lia,ekk]
     exact λz=>z.elim hY hg
   show 2*(m-j9 H4 dd)+yl [some (.ref n),some (.int sa),some (.int gb),some (.ref dd),some (.ref fu),some (.ref fu),c6,c7,none] H4<_
   rw[ku ed4,pG,Ax ef4]
   by_cases hF:F4=[]
   ·subst hF;rw[if_pos (show List.map V.int []=[] from rfl),l4];show 2*(m-(C.length+0))+0<_;lia
   ·rw[if_neg (by simpa using hF),l4]
    have:=FA.mpr hF
    lia
 ·rintro σ H Q Q' h ⟨v,e,k,t,q⟩
  refine ⟨v,e,k,t,?_⟩
  cases k with
  | false=>exact h _ _ q
  | true =>
   obtain ⟨v,e,v2,e2,a,o,e3,g,c,e4,q⟩:=q
   exact ⟨v,e,v2,e2,a,o,e3,g,c,e4,h _ _ q⟩
end
open PySem L2
def mZ (ns:List (List Int))(a b:Int):Prop:=a≠b/\ns.count [a,b]<2/\∀k,¬ Wk (stp ns a b) a k b
def Al (ns:List (List Int))(a b:Int)(Z:List Int):Prop:=(a=b/\Z=[a])\/(a≠b/\2<=ns.count [a,b]/\Z=[a,b])\/(a≠b/\ns.count [a,b]<2/\∃N,Way ns a b N Z)
def AlD (nb:Int->List Int)(ns:List (List Int))(a b:Int)(Z:List Int):Prop:=(a=b/\Z=[a])\/(a≠b/\2<=ns.count [a,b]/\Z=[a,b])\/(a≠b/\ns.count [a,b]<2/\yk nb a b Z)
theorem AlD.uniq {nb:Int->List Int}{ns:List (List Int)}{a b:Int}{Z Z':List Int}(h:AlD nb ns a b Z)(h':AlD nb ns a b Z'):Z=Z':=by
 rcases h with ⟨e,rfl⟩ | ⟨ne,c2,rfl⟩ | ⟨ne,c2,w⟩ <;> rcases h' with ⟨e',rfl⟩ | ⟨ne',c2',rfl⟩ | ⟨ne',c2',w'⟩
 ·rfl
 ·exact absurd e ne'
 ·exact absurd e ne'
 ·exact absurd e' ne
 ·rfl
 ·lia
 ·exact absurd e' ne
 ·lia
 ·exact w.uniq w'
theorem jj {H:Hp}{r:Addr}{m:Nat}{ts:List (Addr×List Int)}(W:Wb H r m ts):Ok m (ts.map (·.2)):=λp hp=>by
 obtain ⟨u,hu,rfl⟩:=Du.mp hp
 exact W.pr u hu
theorem Al.ring {m:Nat}{ns:List (List Int)}(O:Ok m ns){a b:Int}(hp:[a,b]∈ns){Z:List Int}(h:Al ns a b Z):Ring m ns Z:=by
 obtain ⟨_,_,e,a0,ab,bm⟩:=O _ hp
 cases e
 rcases h with ⟨rfl,rfl⟩ | ⟨ne,c2,rfl⟩ | ⟨ne,c2,N,w⟩
 ·refine ⟨by simp,by simp,λv hv =>?_,?_,λx y e=>by simp at e⟩
  ·rw[CQ] at hv;subst hv;exact ⟨a0,bm⟩
  ·show nrm a a∈ns/\True
   rw[b7 ab];exact ⟨hp,trivial⟩
 ·refine ⟨by simp,by simp[ne],λv hv =>?_,?_,λx y e =>?_⟩
  ·rcases C9.mp hv with z | z
   ·subst z;exact ⟨a0,by lia⟩
   ·rw[CQ] at z;subst z;exact ⟨by lia,bm⟩
  ·show nrm a b∈ns/\nrm b a∈ns/\True
   rw[cu b a,b7 ab];exact ⟨hp,hp,trivial⟩
  ·cases e;rw[b7 ab];exact c2
 ·exact w.ring O ne ⟨a0,by lia⟩ (by unfold Td;rw[b7 ab];exact hp)
abbrev rz:Sp:=λvs H Q _=>∃(r n t:Addr) (m:Nat) (ts os:List (Addr×List Int)) (a b:Int),vs=[.ref r,.ref n,.ref t]/\Wb H r m ts/\gy H n m (ts.map (·.2)) os/\m<=400/\H t=some (.tup [.int a,.int b])/\[a,b]∈ts.map (·.2)/\(∀H',aE H H'->mZ (ts.map (·.2)) a b->Q .non H')/\∀(z:Addr) (H':Hp) (Z:List Int),aE H H'->H' z=some (.tup (Z.map V.int))->Al (ts.map (·.2)) a b Z->AlD (gC (os.map (·.2))) (ts.map (·.2)) a b Z->Q (.ref z) H'
@[irreducible] def kz:Sp:=rz
theorem gD {vs:List V}{H:Hp}{Q:VK}{E:XK}:kz vs H Q E↔rz vs H Q E:=by
 delta kz
 exact Fd
section
variable  {P:De}{w:DN}{K:CM}{mg:Str->Option CJ}{base:Heap}{f T:Addr}{fd:Eh}
theorem rA:aO ["web", "near", "tie"] ["web", "near", "tie"] (aF ip):=⟨rfl,rfl,rfl,by decide +kernel,rfl,by decide +kernel,by decide +kernel⟩
theorem rB (F:Fun K "ring_along" "ring_along" ip f fd)(B:Blt mg)(cWayAbout:Cal P w K mg base 1 "way_about" ["near", "start", "goal"] uQ)(cTiedTimes:Cal P w K mg base 2 "tied_times" ["web", "one", "other"] gW):bS P w K mg base CX0 3 f fd ["web", "near", "tie"] kz:=by
 refine F.ok rA (λvs H Q E h =>?_) (λcdv A outer s H vs Q E hr h =>?_)
 ·obtain ⟨_,_,_,_,_,_,_,_,rfl,_⟩:=gD.mp h
  rfl
 obtain ⟨r,n,t,m,ts,os,a,b,rfl,W,N,m4,et,hp,q0,q1⟩:=gD.mp h
 refine ⟨_,(@ai _ _ _ _ _ (@bC _ _ _ _ _ _ _ _ (aK cQ (@aH _ _ _ _ _ _ _ aI (pv 2) ak (λ_ _=>rfl)) (@aH _ _ _ _ _ _ _ aI (pv 2) ak (λ_ _=>rfl)) (aS _)) (@au _ _ _ (@aL _ _ _ _ (@bo _ _ _ _ _ (@aa _ _ _ _ _ (@aH _ _ _ _ _ _ _ aI (pv 2) ak (λ_ _=>rfl)) ah rfl)))) aR)
  (@ai _ _ _ _ _ (@bC _ _ _ _ _ _ _ _ (aK wK (aV cTiedTimes hr (by decide) rfl (@aa _ _ _ _ _ (pv 0) (@aa _ _ _ _ _ (@aH _ _ _ _ _ _ _ aI (pv 2) ak (λ_ _=>rfl)) (@aa _ _ _ _ _ (@aH _ _ _ _ _ _ _ aI (pv 2) ak (λ_ _=>rfl)) ah rfl) rfl) rfl)) ak (aS _)) (@au _ _ _ (@aL _ _ _ _ (pv 2))) aR)
  (@au _ _ _ (@aL _ _ _ _ (aV cWayAbout hr (by decide) rfl (@aa _ _ _ _ _ (pv 1) (@aa _ _ _ _ _ (@aH _ _ _ _ _ _ _ aI (pv 2) ak (λ_ _=>rfl)) (@aa _ _ _ _ _ (@aH _ _ _ _ _ _ _ aI (pv 2) ak (λ_ _=>rfl)) ah rfl) rfl) rfl)))))),?_⟩
 have O:=jj W
 obtain ⟨_,_,e,a0,ab,bm⟩:=O _ hp
 cases e
 refine ⟨_,rfl,t,_,0,_,rfl,rfl,SqT.of et,rfl,_,rfl,t,_,1,_,rfl,rfl,SqT.of et,rfl,rfl,_,rfl,iS (λz =>?_) λz =>?_⟩
 ·have eq:a=b:=by simpa using z
  exact ⟨_,rfl,t,_,0,_,rfl,rfl,SqT.of et,rfl,(by show 1<=C6;decide),λz hz=>q1 z _ [a] (af hz _) ag (.inl ⟨eq,rfl⟩) (.inl ⟨eq,rfl⟩)⟩
 have ne:a≠b:=by simpa using z
 refine ⟨_,rfl,_,rfl,t,_,0,_,rfl,rfl,SqT.of et,rfl,_,rfl,t,_,1,_,rfl,rfl,SqT.of et,rfl,cC.mpr ⟨r,m,a,b,ts,rfl,W,λH1 s1 =>?_⟩⟩
 rw[b7 ab]
 refine ⟨_,_,rfl,rfl,_,rfl,iS (λz =>?_) λz =>?_⟩
 ·have c2:2<=(ts.map (·.2)).count [a,b]:=by have z':=of_decide_eq_true z;lia
  exact ⟨_,rfl,q1 t H1 [a,b] s1 (s1 _ _ et) (.inr (.inl ⟨ne,c2,rfl⟩)) (.inr (.inl ⟨ne,c2,rfl⟩))⟩
 have c2:(ts.map (·.2)).count [a,b]<2:=by have z':=of_decide_eq_false (eq_false_of_ne_true z);lia
 refine ⟨_,rfl,_,rfl,t,_,0,_,rfl,rfl,SqT.of (s1 _ _ et),rfl,_,rfl,t,_,1,_,rfl,rfl,SqT.of (s1 _ _ et),rfl,jM.mpr ⟨n,m,_,os,a,b,rfl,N.same s1,O,m4,⟨a0,by lia⟩,ne,λH2 s2 no=>q0 H2 (s1.trans s2) ⟨ne,c2,no⟩,λz H2 NN Z s2 ez w wd=>q1 z H2 Z (s1.trans s2) ez (.inr (.inr ⟨ne,c2,NN,w⟩)) (.inr (.inr ⟨ne,c2,wd⟩))⟩⟩
end
def enc:Option (Addr×List Int)->V
 | none =>.non
 | some u =>.ref u.1
def keep (ws:List (Option (Addr×List Int))):List (Addr×List Int):=ws.filterMap id
def yq (l:List (List Int))(Z:List Int):Prop:=∃i:Nat,l[i]? = some Z/\(∀u∈l,Z.length<=u.length)/\∀(j:Nat) u,j<i->l[j]? = some u->Z.length<u.length
theorem yq.uniq {l:List (List Int)}{Z Z':List Int}(h:yq l Z)(h':yq l Z'):Z=Z':=by
 obtain ⟨i,e,mn,fi⟩:=h
 obtain ⟨i',e',mn',fi'⟩:=h'
 have h1:=mn Z' (CT e')
 have h2:=mn' Z (CT e)
 rcases HR i i' with z | z | z
 ·have:=fi' i Z z e;lia
 ·subst z;rw[e] at e';exact Dk e'
 ·have:=fi i' Z' z e';lia
theorem jk {ws:List (Option (Addr×List Int))}{u:Addr×List Int}:u∈keep ws↔some u∈ws:=by
 unfold keep
 rw[GL]
 exact ⟨λ⟨a,h,e⟩=>by rw[<- show a=some u from e];exact h,λh=>⟨some u,h,rfl⟩⟩
abbrev rD:Sp:=λvs H Q _=>∃(l:Addr) (ws:List (Option (Addr×List Int))),vs=[.ref l]/\H l=some (.lst (ws.map enc))/\(∀u,some u∈ws->H u.1=some (.tup (u.2.map V.int)))/\ws.length<=1000/\(∀H',aE H H'->(∀x∈ws,x=none)->Q .non H')/\∀(u:Addr×List Int) (H':Hp),aE H H'->some u∈ws->(∀v,some v∈ws->u.2.length<=v.2.length)->yq ((keep ws).map (·.2)) u.2->Q (.ref u.1) H'
@[irreducible] def kA:Sp:=rD
theorem gE {vs:List V}{H:Hp}{Q:VK}{E:XK}:kA vs H Q E↔rD vs H Q E:=by
 delta kA
 exact Fd
section
variable  {P:De}{w:DN}{K:CM}{mg:Str->Option CJ}{base:Heap}{f T:Addr}{fd:Eh}
theorem pL:aO ["ways"] ["ways"] (aF gs):=⟨rfl,rfl,rfl,by decide +kernel,rfl,by decide +kernel,by decide +kernel⟩
theorem jN:(["way"]:List Str).Nodup:=by decide +kernel
theorem pM (F:Fun K "shortest_of" "shortest_of" gs f fd)(B:Blt mg):bS P w K mg base CX0 1 f fd ["ways"] kA:=by
 refine F.ok pL (λvs H Q E h =>?_) (λcdv A outer s H vs Q E hr h =>?_)
 ·obtain ⟨_,_,rfl,_⟩:=gE.mp h
  rfl
 obtain ⟨l,ws,rfl,el,tu,l9,q0,q1⟩:=gE.mp h
 refine ⟨_,(@au _ _ _ (@aL _ _ _ _ (tE rfl rfl B.b_min rfl B.b_len eV (bT ["way"] [none] rfl (@bR _ _ _ _ (pv 0)) rfl (λ_ _ _ _ _=>(aq (i:=0) jN rfl (Or.inl rfl))) (λ_ _ _ _ _=>(jC (aK tY (pv 0) jv (aS _)))) (λ_ _ _ _ _=>(pv 0)))))),?_⟩
 refine ⟨_,rfl,l,rfl,⟨_,SqL.of el⟩,cf (xs:=ws.map enc) (λi ys H'=>H'=H/\ys=(keep (ws.take i)).map λu =>.ref u.1) ⟨rfl,rfl⟩ (by rw[CG];exact small l9) (λi ys H' _ z=>by rw[z.1];exact SqL.of el) ?_ ?_⟩
 ·rintro i x ys H3 hx hy ⟨eH,rfl⟩ R1 R0 r1 r0
  rw[CU] at hx
  cases z:ws[i]? with
  | none=>rw[z] at hx;cases hx
  | some o =>
   rw[z] at hx
   have hx:enc o=x:=Dk hx
   subst hx
   cases o with
   | none =>
    refine ⟨_,rfl,rfl,_,rfl,bM (r0 _ ⟨eH,?_⟩)⟩
    unfold keep
    rw[Ee,z,JR]
    show _=((ws.take i).filterMap id++[]).map _
    rw[DU]
   | some u =>
    refine ⟨_,rfl,rfl,_,rfl,bF ⟨_,rfl,r1 _ _ ⟨eH,?_⟩⟩⟩
    unfold keep
    rw[Ee,z,JR,C2];rfl
 ·rintro ys H3 hy ⟨eH,rfl⟩ l2 hl2
  rw[eH] at hl2 ⊢
  rw[CG,C7 (CO _)]
  have g2:=af hl2 (.lst ((keep ws).map λu =>.ref u.1))
  refine ⟨l2,keep ws,rfl,SqL.of ag,λt ht=>SqT.of (g2 _ _ (tu t (jk.mp ht))),λz=>q0 _ g2 λx hx =>?_,λi t et mn fi=>q1 t _ g2 (jk.mp (CT et)) (λv hv=>mn v (jk.mpr hv)) ⟨i,by rw[CU,et];rfl,λu hu =>?_,λj u hj eu =>?_⟩⟩
  rotate_left
  ·obtain ⟨v,hv,rfl⟩:=Du.mp hu
   exact mn v hv
  ·rw[CU] at eu
   obtain ⟨v,ev,rfl⟩:=Fu.mp eu
   exact fi j v hj ev
  cases x with
  | none=>rfl
  | some u =>
   have:=jk.mpr hx
   rw[z] at this;cases this
end
open PySem L2
def BF (ns:List (List Int))(p:List Int)(o:Option (Addr×List Int)):Prop:=∀a b:Int,p=[a,b]->(o=none/\mZ ns a b)\/∃u,o=some u/\Al ns a b u.2
def oD (nb:Int->List Int)(ns:List (List Int))(p:List Int)(o:Option (List Int)):Prop:=∀a b:Int,p=[a,b]->(o=none/\mZ ns a b)\/∃Z,o=some Z/\Al ns a b Z/\AlD nb ns a b Z
theorem mZ.Cz {ns:List (List Int)}{a b:Int}(h:mZ ns a b){Z:List Int}(h':Al ns a b Z):False:=by
 rcases h' with ⟨e,rfl⟩ | ⟨ne,c2,rfl⟩ | ⟨ne,c2,N,w⟩
 ·exact h.1 e
 ·have:=h.2.1;lia
 ·exact h.2.2 N ((w.1.dst 0 b w.1.hd).2.1)
theorem oD.uniq {nb:Int->List Int}{ns:List (List Int)}{a b:Int}{o o':Option (List Int)}(h:oD nb ns [a,b] o)(h':oD nb ns [a,b] o'):o=o':=by
 rcases h a b rfl with ⟨e,n⟩ | ⟨Z,e,al,d⟩ <;> rcases h' a b rfl with ⟨e',n'⟩ | ⟨Z',e',al',d'⟩
 ·rw[e,e']
 ·exact (n.Cz al').elim
 ·exact (n'.Cz al).elim
 ·rw[e,e',d.uniq d']
def my (m:Nat)(ns rows:List (List Int)):Prop:=rows.length=m/\∀(j:Nat) r,rows[j]? = some r->r.Pairwise (· < ·)/\∀x,x∈r↔x∈nbs ns (j:Int)
theorem my.uniq {m:Nat}{ns rows rows':List (List Int)}(h:my m ns rows)(h':my m ns rows'):rows=rows':=by
 apply Fb
 intro j
 rcases Fq j m with c | c
 ·have e1:rows[j]? = some (rows[j]'(by have:=h.1;lia)):=CI _
  have e2:rows'[j]? = some (rows'[j]'(by have:=h'.1;lia)):=CI _
  have a:=h.2 j _ e1
  have b:=h'.2 j _ e2
  rw[e1,e2,gR a.1 b.1 λx=>(a.2 x).trans (b.2 x).symm]
 ·rw[Dz (by have:=h.1;lia),Dz (by have:=h'.1;lia)]
def zX (ns out:List (List Int)):Prop:=out.Nodup/\(∀t,t∈out↔t∈ns)/\out.Pairwise λa b=>HT.lexLt b a=false
theorem yr {l l':List (List Int)}(h:l.Nodup)(h':l'.Nodup)(e:∀t,t∈l↔t∈l'):l.Perm l':=by
 rw[List.perm_iff_count]
 intro a
 have c1:=J5.mp h a
 have c2:=J5.mp h' a
 have:=e a
 rw[<- EE, <- EE] at this
 lia
theorem zX.uniq {ns out out':List (List Int)}(h:zX ns out)(h':zX ns out'):out=out':=by
 refine List.Perm.eq_of_pairwise (le:=λa b=>HT.lexLt b a=false) (λa b _ _ h1 h2=>Srt.ff _ _ h2 h1) h.2.2 h'.2.2 ?_
 exact yr h.1 h'.1 λt=>(h.2.1 t).trans (h'.2.1 t).symm
def iF (m:Nat)(ns all:List (List Int))(F:List Int):Prop:=∃(rows out:List (List Int)) (ws:List (Option (List Int))) (Z:List Int) (M:Int),my m ns rows/\zX all out/\ws.length=out.length/\(∀(k:Nat) t o,out[k]? = some t->ws[k]? = some o->oD (gC rows) ns t o)/\yq (ws.filterMap id) Z/\M∈Z/\(∀b∈Z,M<=b)/\F=frm Z M
theorem iF.uniq {m:Nat}{ns all:List (List Int)}(pr:∀t∈all,∃a b:Int,t=[a,b]){F F':List Int}(h:iF m ns all F)(h':iF m ns all F'):F=F':=by
 obtain ⟨rows,out,ws,Z,M,r,o,l,te,fm,hM,mM,e⟩:=h
 obtain ⟨rows',out',ws',Z',M',r',o',l',te',fm',hM',mM',e'⟩:=h'
 have:=r.uniq r'
 subst this
 have:=o.uniq o'
 subst this
 have:ws=ws':=by
  apply Fb
  intro k
  rcases Fq k out.length with c | c
  ·have eo:out[k]? = some out[k]:=CI c
   have e1:ws[k]? = some (ws[k]'(by lia)):=CI _
   have e2:ws'[k]? = some (ws'[k]'(by lia)):=CI _
   obtain ⟨a,b,ab⟩:=pr out[k] ((o.2.1 _).mp (CT eo))
   have t1:=te k _ _ eo e1
   have t2:=te' k _ _ eo e2
   rw[ab] at t1 t2
   rw[e1,e2,t1.uniq t2]
  ·rw[Dz (by lia),Dz (by lia)]
 subst this
 have:=fm.uniq fm'
 subst this
 have:M=M':=Int.le_antisymm (mM M' hM') (mM' M hM)
 subst this
 rw[e,e']
abbrev yt:Sp:=λvs H Q _=>∃(r t:Addr) (m:Nat) (ts us:List (Addr×List Int)),vs=[.ref r,.ref t]/\Wb H r m ts/\m<=400/\(H t=some (.lst (us.map λu =>.ref u.1))\/H t=some (.tup (us.map λu =>.ref u.1)))/\(∀u∈us,u∈ts)/\us.length<=200/\(∀H',aE H H'->(∀u∈us,∀a b,u.2=[a,b]->mZ (ts.map (·.2)) a b)->Q .non H')/\∀(z:Addr) (H':Hp) (Z:List Int) (M:Int),aE H H'->H' z=some (.tup ((frm Z M).map V.int))->M∈Z->(∀b∈Z,M<=b)->(∃u∈us,∃a b,u.2=[a,b]/\Al (ts.map (·.2)) a b Z)->(∀u∈us,∀a b,u.2=[a,b]->mZ (ts.map (·.2)) a b\/∃Z',Al (ts.map (·.2)) a b Z'/\Z.length<=Z'.length)->iF m (ts.map (·.2)) (us.map (·.2)) (frm Z M)->Q (.ref z) H'
@[irreducible] def uS:Sp:=yt
theorem jO {vs:List V}{H:Hp}{Q:VK}{E:XK}:uS vs H Q E↔yt vs H Q E:=by
 delta uS
 exact Fd
section
variable  {P:De}{w:DN}{K:CM}{mg:Str->Option CJ}{base:Heap}{f T:Addr}{fd:Eh}
theorem fS:aO ["web", "ties", "near", "least"] ["web", "ties"] (aF gu):=⟨rfl,rfl,rfl,by decide +kernel,rfl,by decide +kernel,by decide +kernel⟩
theorem eD:(["tie", "web", "near"]:List Str).Nodup:=by decide +kernel
theorem pN (F:Fun K "least_along" "least_along" gu f fd)(B:Blt mg)(cNearLists:Cal P w K mg base 1 "near_lists" ["web"] gS)(cShortestOf:Cal P w K mg base 1 "shortest_of" ["ways"] kA)(cRingForm:Cal P w K mg base 1 "ring_form" ["ring"] pK)(cRingAlong:Cal P w K mg base 3 "ring_along" ["web", "near", "tie"] kz):bS P w K mg base CX0 4 f fd ["web", "ties"] uS:=by
 refine F.ok fS (λvs H Q E h =>?_) (λcdv A outer s H vs Q E hr h =>?_)
 ·obtain ⟨_,_,_,_,_,rfl,_⟩:=jO.mp h
  rfl
 obtain ⟨r,t,m,ts,us,rfl,W,m4,ht,hin,l2,q0,q1⟩:=jO.mp h
 refine ⟨_,(@ai _ _ _ _ _ (@aM _ _ 2 _ _ _ _ fS.nd rfl (Or.inr rfl) (aV cNearLists hr (by decide) rfl (@aa _ _ _ _ _ (pv 0) ah rfl)) rfl (by first | exact .inl rfl | exact .inr rfl | assumption))
  (@ai _ _ _ _ _ (@aM _ _ 3 _ _ _ _ fS.nd rfl (Or.inl rfl) (aV cShortestOf hr (by decide) rfl (@aa _ _ _ _ _ (bT ["tie", "web", "near"] [none,some 0,some 2] rfl (@bR _ _ _ _ (az (gj (w:=w) rfl hr.hd) rfl B.b_sorted cN (@aa _ _ _ _ _ (aJ (lK (w:=w) rfl hr.hd hr.units) rfl B.b_set xY (@aa _ _ _ _ _ (pv 1) ah rfl)) ah rfl))) rfl (λ_ _ _ _ _=>(aq (i:=0) eD rfl (Or.inl rfl))) (λ_ _ _ _ _=>cG) (λ_ _ _ _ _=>(aV cRingAlong hr (by decide) rfl (@aa _ _ _ _ _ (pv 1) (@aa _ _ _ _ _ (pv 2) (@aa _ _ _ _ _ (pv 0) ah rfl) rfl) rfl)))) ah rfl)) rfl (by first | exact .inl rfl | exact .inr rfl | assumption))
  (@ai _ _ _ _ _ (@bC _ _ _ _ _ _ _ _ (aK AV (pv 3) jv (aS _)) (@au _ _ _ (@aL _ _ _ _ jv)) aR)
  (@au _ _ _ (@aL _ _ _ _ (aV cRingForm hr (by decide) rfl (@aa _ _ _ _ _ (pv 3) ah rfl))))))),?_⟩
 have O:=jj W
 refine ⟨_,rfl,dB.mpr ⟨r,m,ts,rfl,W,by lia,by lia,λn H1 os s1 en lo ro iso =>?_⟩⟩
 have RD:my m (ts.map (·.2)) (os.map (·.2)):=⟨by rw[CG,lo];lia,λj r e=>by
  rw[CU] at e
  obtain ⟨u,eu,rfl⟩:=Fu.mp e
  exact iso j u eu⟩
 have NA:gy H1 n m (ts.map (·.2)) os:=⟨en,by rw[lo];lia,ro,λj u e=>(iso j u e).2⟩
 have tu1:∀u∈us,H1 u.1=some (.tup (u.2.map V.int)):=λu hu=>s1 _ _ (W.tup u (hin u hu))
 refine ⟨_,rfl,t,us,rfl,ht.elim (λz =>.inl (SqL.of (s1 _ _ z))) (λz =>.inr (SqT.of (s1 _ _ z))),λu hu=>SqT.of (tu1 u hu),by lia,λa ss hna mu ndu cov hlu =>?_⟩
 have ga:=af hna (eR w a (ss.map λt =>.ref t.1))
 refine ⟨a,ss,rfl,ag,λu hu=>⟨SqT.of (ga _ _ (tu1 u (mu u hu))),λz =>?_⟩,by lia,λl out hl pm ps =>?_⟩
 ·obtain ⟨x,y,e,_⟩:=W.pr u (hin u (mu u hu))
  rw[z] at e;cases e
 have gl:=ga.trans (af hl (.lst (out.map λt =>.ref t.1)))
 have el:upd (upd H1 a (eR w a (ss.map λt =>.ref t.1))) l (.lst (out.map λt =>.ref t.1)) l=some (.lst (out.map λt =>.ref t.1)):=ag
 generalize upd (upd H1 a (eR w a (ss.map λt =>.ref t.1))) l (.lst (out.map λt =>.ref t.1))=H2 at gl el
 have s2:=s1.trans gl
 have lo2:out.length<=200:=by rw[pm.length_eq];lia
 have oin:∀u∈out,u∈us:=λu hu=>mu u (pm.mem_iff.mp hu)
 let W0:Nat->List V->Hp->Prop:=λi ys H'=>aE H2 H'/\∃ws:List (Option (Addr×List Int)),ys=ws.map enc/\ws.length=i/\(∀u,some u∈ws->H' u.1=some (.tup (u.2.map V.int)))/\∀(k:Nat) u o,out[k]? = some u->ws[k]? = some o->BF (ts.map (·.2)) u.2 o/\oD (gC (os.map (·.2))) (ts.map (·.2)) u.2 (o.map (·.2))
 refine ⟨l,rfl,⟨_,SqL.of el⟩,cf (xs:=out.map λu =>.ref u.1) W0 ⟨aE.refl _,[],rfl,rfl,λu h=>by (cases h),λk u o _ e=>by simp at e⟩ (by rw[CG];exact small (by lia)) (λi ys H' _ z=>SqL.of (z.1 _ _ el)) ?_ ?_⟩
 ·rintro i x ys H3 hx hy ⟨s3,ws,rfl,lw,tw,tl⟩ R1 R0 r1 r0
  obtain ⟨u,eu,rfl⟩:=item hx
  have uin:=hin u (oin u (CT eu))
  obtain ⟨x,y,exy,_⟩:=W.pr u uin
  have s23:=s2.trans s3
  have eu3:H3 u.1=some (.tup [.int x,.int y]):=by rw[s23 _ _ (W.tup u uin),exy];rfl
  have up:∀(o:Option (Addr×List Int)) (H4:Hp),aE H3 H4->(∀v,o=some v->H4 v.1=some (.tup (v.2.map V.int)))->BF (ts.map (·.2)) u.2 o/\oD (gC (os.map (·.2))) (ts.map (·.2)) u.2 (o.map (·.2))->R1 (enc o) H4:=λo H4 s4 ho hT=>by
   refine r1 _ _ ⟨s3.trans s4,ws++[o],by rw[C2];rfl,by rw[CL,lw];rfl,λv hv =>?_,λk v p e1 e2 =>?_⟩
   ·rcases CW.mp hv with z | z
    ·exact s4 _ _ (tw v z)
    ·rw[CQ] at z;exact ho v z.symm
   ·rcases Fq k i with c | c
    ·rw[Dv (by lia)] at e2;exact tl k v p e1 e2
    ·rw[DB (by lia)] at e2
     have:k-ws.length=0:=by
      rcases Gg (k-ws.length) with z | z
      ·exact z
      ·rw[Dz (by simp;lia)] at e2;cases e2
     rw[this] at e2;cases e2
     rw[show k=i by lia,eu] at e1;cases e1
     exact hT
  refine bF ⟨_,rfl,_,rfl,_,rfl,gD.mpr ⟨r,n,u.1,m,ts,os,x,y,rfl,W.same s23,NA.same (gl.trans s3),m4,eu3,by rw[<- exy];exact Ep (f:=(·.2)) uin,λH4 s4 no=>up none H4 s4 (λv e=>by cases e) ⟨λa b e =>?_,λa b e =>?_⟩,λz H4 Z s4 ez al ald=>up (some (z,Z)) H4 s4 (λv e=>by cases e;exact ez) ⟨λa b e =>?_,λa b e =>?_⟩⟩⟩
  ·rw[exy] at e;cases e;exact .inl ⟨rfl,no⟩
  ·rw[exy] at e;cases e;exact .inl ⟨rfl,no⟩
  ·rw[exy] at e;cases e;exact .inr ⟨_,rfl,al⟩
  ·rw[exy] at e;cases e;exact .inr ⟨_,rfl,al,ald⟩
 ·rintro ys H3 hy ⟨s3,ws,rfl,lw,tw,tl⟩ l3 hl3
  rw[CG] at lw
  have g4:=af hl3 (.lst (ws.map enc))
  have el4:upd H3 l3 (.lst (ws.map enc)) l3=some (.lst (ws.map enc)):=ag
  generalize upd H3 l3 (.lst (ws.map enc))=H4 at g4 el4
  have s4:=s2.trans (s3.trans g4)
  have tell:∀u∈us,∃o∈ws,BF (ts.map (·.2)) u.2 o:=λu hu=>by
   obtain ⟨v,hv,ev⟩:=Du.mp (cov u hu)
   obtain ⟨k,ek⟩:=DC.mp (pm.mem_iff.mpr hv)
   have kl:=(CP.mp ek).1
   have ew:ws[k]? = some (ws[k]'(by lia)):=CI (by lia)
   exact ⟨_,CT ew,ev ▸ (tl k v _ ek ew).1⟩
  refine gE.mpr ⟨l3,ws,rfl,el4,λu hu=>g4 _ _ (tw u hu),by lia,λH5 s5 no =>?_,λu H5 s5 hu mn fm =>?_⟩
  ·refine ⟨_,rfl,rfl,_,rfl,bF (q0 H5 (s4.trans s5) λu hu a b e =>?_)⟩
   obtain ⟨o,ho,hT⟩:=tell u hu
   rw[no o ho] at hT
   rcases hT a b e with ⟨_,z⟩ | ⟨v,e2,_⟩
   ·exact z
   ·cases e2
  ·refine ⟨_,rfl,rfl,_,rfl,bM ?_⟩
   obtain ⟨k,ek⟩:=DC.mp hu
   have kl:=(CP.mp ek).1
   have ev:out[k]? = some (out[k]'(by lia)):=CI (by lia)
   have vin:=oin _ (CT ev)
   obtain ⟨x,y,exy,_⟩:=W.pr _ (hin _ vin)
   rcases (tl k _ _ ev ek).1 x y exy with ⟨e,_⟩ | ⟨v,e,al⟩
   ·cases e
   cases e
   have rg:=al.ring O (by rw[<- exy];exact Ep (f:=(·.2)) (hin _ vin))
   refine ⟨_,rfl,iC.mpr ⟨u.1,u.2,rfl,s5 _ _ (g4 _ _ (tw u hu)),rg.ne,?_,λz H6 M s6 hM mM ez=>q1 z H6 u.2 M (s4.trans (s5.trans s6)) ez hM mM ⟨_,vin,x,y,exy,al⟩ (λv hv a b e =>?_) ?_⟩⟩
   ·have:=bZ rg.nd rg.rng;lia
   ·obtain ⟨o,ho,hT⟩:=tell v hv
    rcases hT a b e with ⟨_,z⟩ | ⟨p,e2,al'⟩
    ·exact .inl z
    ·subst e2;exact .inr ⟨p.2,al',mn p ho⟩
   ·refine ⟨os.map (·.2),out.map (·.2),ws.map (Option.map (·.2)),u.2,M,RD,⟨?_,λt =>?_,?_⟩,by rw[CG,CG,lw],λk t o e1 e2 =>?_,?_,hM,mM,rfl⟩
    ·exact (pm.map _).nodup_iff.mpr ndu
    ·rw[(pm.map (·.2)).mem_iff]
     refine ⟨λh =>?_,λh =>?_⟩
     ·obtain ⟨v,hv,rfl⟩:=Du.mp h
      exact Ep (f:=(·.2)) (mu v hv)
     ·obtain ⟨v,hv,rfl⟩:=Du.mp h
      exact cov v hv
    ·exact Ef.mpr ps
    ·rw[CU] at e1 e2
     obtain ⟨v,ev',rfl⟩:=Fu.mp e1
     obtain ⟨w',ew',rfl⟩:=Fu.mp e2
     exact (tl k v w' ev' ew').2
    ·rw[show (ws.map (Option.map (·.2))).filterMap id=(keep ws).map (·.2) by unfold keep;rw[Kp,List.map_filterMap];rfl]
     exact fm
end
abbrev rE:Sp:=λvs H Q _=>∃(r:Addr) (m:Nat) (ts:List (Addr×List Int)),vs=[.ref r]/\Wb H r m ts/\m<=400/\(∀H',aE H H'->(∀a b,[a,b]∈ts.map (·.2)->mZ (ts.map (·.2)) a b)->Q .non H')/\∀(z:Addr) (H':Hp) (Z:List Int) (M:Int),aE H H'->H' z=some (.tup ((frm Z M).map V.int))->M∈Z->(∀b∈Z,M<=b)->(∃a b,[a,b]∈ts.map (·.2)/\Al (ts.map (·.2)) a b Z)->(∀a b,[a,b]∈ts.map (·.2)->mZ (ts.map (·.2)) a b\/∃Z',Al (ts.map (·.2)) a b Z'/\Z.length<=Z'.length)->iF m (ts.map (·.2)) (ts.map (·.2)) (frm Z M)->Q (.ref z) H'
@[irreducible] def kB:Sp:=rE
theorem gF {vs:List V}{H:Hp}{Q:VK}{E:XK}:kB vs H Q E↔rE vs H Q E:=by
 delta kB
 exact Fd
section
variable  {P:De}{w:DN}{K:CM}{mg:Str->Option CJ}{base:Heap}{f T:Addr}{fd:Eh}
theorem rF:aO ["web"] ["web"] (aF iq):=⟨rfl,rfl,rfl,by decide +kernel,rfl,by decide +kernel,by decide +kernel⟩
theorem rH (F:Fun K "least_ring" "least_ring" iq f fd)(B:Blt mg)(cLeastAlong:Cal P w K mg base 4 "least_along" ["web", "ties"] uS):bS P w K mg base CX0 5 f fd ["web"] kB:=by
 refine F.ok rF (λvs H Q E h =>?_) (λcdv A outer s H vs Q E hr h =>?_)
 ·obtain ⟨_,_,_,rfl,_⟩:=gF.mp h
  rfl
 obtain ⟨r,m,ts,rfl,W,m4,q0,q1⟩:=gF.mp h
 refine ⟨_,(@au _ _ _ (@aL _ _ _ _ (aV cLeastAlong hr (by decide) rfl (@aa _ _ _ _ _ (pv 0) (@aa _ _ _ _ _ (@aH _ _ _ _ _ _ _ aI (pv 0) ak (λ_ _=>rfl)) ah rfl) rfl)))),?_⟩
 obtain ⟨t,e1,e2⟩:=W.at'
 refine ⟨_,rfl,_,rfl,r,_,1,_,rfl,rfl,SqT.of e1,rfl,jO.mpr ⟨r,t,m,ts,ts,rfl,W,m4,.inr e2,λu hu=>hu,W.len,λH' s no=>q0 H' s λa b h =>?_,λz H' Z M s ez hM mM hx hn ld=>q1 z H' Z M s ez hM mM ?_ (λa b h =>?_) ld⟩⟩
 ·obtain ⟨u,hu,e⟩:=Du.mp h
  exact no u hu a b e
 ·obtain ⟨u,hu,a,b,e,al⟩:=hx
  exact ⟨a,b,by rw[<- e];exact Ep (f:=(·.2)) hu,al⟩
 ·obtain ⟨u,hu,e⟩:=Du.mp h
  exact hn u hu a b e
end
open PySem L2
structure we (Z:List Int):Prop where
 ne:Z≠[]
 nd:Z.Nodup
 mn:∀b∈Z,Z.getD 0 0<=b
 lx:HT.lexLt (turn Z) Z=false
theorem gY (a:Int)(t:List Int):turn (a :: t)=a :: t.reverse:=rfl
theorem mz {Z:List Int}{k:Nat}{c:Int}(e:Z[k]? = some c):rot Z k=c :: (Z.drop (k+1)++Z.take k):=by
 obtain ⟨h,e⟩:=CP.mp e
 unfold rot
 rw[Gh h,e];rfl
theorem yu {Z:List Int}{M:Int}(h:M∈Z):Z[Z.idxOf M]? = some M:=by
 rw[CI (Ht.mpr h),Kx]
theorem jP {Z:List Int}{M:Int}(h:M∈Z):∃t,rot Z (Z.idxOf M)=M :: t/\((frm Z M=M :: t/\HT.lexLt (M :: t.reverse) (M :: t)=false)\/(frm Z M=M :: t.reverse/\HT.lexLt (M :: t.reverse) (M :: t)=true)):=by
 refine ⟨_,mz (yu h),?_⟩
 unfold frm
 rw[mz (yu h),gY]
 generalize Z.drop (Z.idxOf M+1)++Z.take (Z.idxOf M)=t
 unfold jL
 cases c:HT.lexLt (M :: t.reverse) (M :: t) with
 | true=>exact .inr ⟨if_pos rfl,rfl⟩
 | false=>exact .inl ⟨if_neg C8,rfl⟩
theorem mB (Z:List Int)(k:Nat):(rot Z k).Perm Z:=by
 unfold rot
 exact FI.trans (by rw[EF])
theorem yv {Z:List Int}{M:Int}(h:M∈Z):(frm Z M).Perm Z:=by
 obtain ⟨t,e,⟨z,_⟩ | ⟨z,_⟩⟩:=jP h
 ·rw[z, <- e];exact mB _ _
 ·rw[z];exact ((K0 t).cons M).trans (e ▸ mB Z _)
theorem yx {a b:List Int}(h:HT.lexLt a b=true):HT.lexLt b a=false:=by
 cases c:HT.lexLt b a with
 | false=>rfl
 | true=>have:=Srt.lex_trans _ _ _ h c;rw[Srt.lex_irrefl] at this;cases this
theorem yy {Z:List Int}{M:Int}(nd:Z.Nodup)(h:M∈Z)(mn:∀b∈Z,M<=b):we (frm Z M):=by
 have pm:=yv h
 obtain ⟨t,e,⟨z,c⟩ | ⟨z,c⟩⟩:=jP h
 ·refine ⟨by rw[z];simp,pm.nodup_iff.mpr nd,λb hb =>?_,?_⟩
  ·rw[z] at hb ⊢;exact mn b (pm.mem_iff.mp (z ▸ hb))
  ·rw[z,gY];exact c
 ·refine ⟨by rw[z];simp,pm.nodup_iff.mpr nd,λb hb =>?_,?_⟩
  ·rw[z] at hb ⊢;exact mn b (pm.mem_iff.mp (z ▸ hb))
  ·rw[z,gY,Hb];exact yx c
theorem Ring.frm {m:Nat}{ns:List (List Int)}{Z:List Int}{M:Int}(h:Ring m ns Z)(hM:M∈Z):Ring m ns (frm Z M):=by
 have hr:Ring m ns (_root_.K13.rot Z (Z.idxOf M)):=by
  show Ring m ns (Z.drop (Z.idxOf M)++Z.take (Z.idxOf M))
  exact Ring.rot (by rw[EF];exact h)
 obtain ⟨t,e,⟨z,_⟩ | ⟨z,_⟩⟩:=jP hM
 ·rw[z, <- e];exact hr
 ·rw[e] at hr;rw[z];exact hr.turn
def alt (Z:List Int)(k:Nat):List (List Int):=(Ei k).flatMap λj=>[rot Z j,turn (rot Z j)]
theorem rJ (Z:List Int)(k:Nat):alt Z (k+1)=alt Z k++[rot Z k,turn (rot Z k)]:=by
 unfold alt
 rw[LB,List.flatMap_append]
 simp
theorem pO (Z:List Int):∀k,(alt Z k).length=2*k
 | 0=>rfl
 | k+1=>by rw[rJ,CL,pO Z k];show _+2=_;lia
theorem mC (Z:List Int):rot Z 0=Z:=by unfold rot;simp
theorem yz {Z p:List Int}(C:we Z)(hp:p∈alt Z Z.length)(h:∀q∈alt Z Z.length,HT.lexLt q p=false):p=Z:=by
 have pos:=FA.mpr C.ne
 have hz:Z∈alt Z Z.length:=Jv.mpr ⟨0,Eg.mpr pos,by rw[mC];simp⟩
 obtain ⟨j,hj,hp⟩:=Jv.mp hp
 rw[Eg] at hj
 have ec:Z[j]? = some Z[j]:=CI hj
 have hh:=h Z hz
 have j0:∀t,p=Z[j] :: t->j=0:=λt e=>by
  have e0:Z=Z[0] :: Z.drop 1:=by
   have:=Gh pos
   rwa [HV] at this
  have le:Z[0]<=Z[j]:=by
   have:=C.mn Z[j] (GG hj)
   rwa [C0,CI pos] at this
  have:Z[0]=Z[j]:=by
   rw[e] at hh
   generalize Z[j]=c at hh le
   rw[e0,HT.cZ] at hh
   by_cases d:Z[0]=c
   ·exact d
   ·rw[if_neg d] at hh
    have:=of_decide_eq_false hh
    lia
  exact ((Lc C.nd).mp this).symm
 rcases C9.mp hp with z | z
 ·rw[z,j0 _ (z.trans (mz ec)),mC]
 ·rw[CQ] at z
  have:j=0:=j0 _ (z.trans (by rw[mz ec,gY]))
  subst this
  rw[mC] at z
  subst z
  exact Srt.ff _ _ C.lx hh
theorem Ring.next {m:Nat}{ns:List (List Int)}{Z:List Int}(h:Ring m ns Z){k:Nat}{y:Int}(e:Z[k]? = some y):∃x,atI (Z.map V.int) ((k:Int)-1)=some (.int x)/\Td ns x y:=by
 have hk:=(CP.mp e).1
 have c:=pJ h.ch
 cases k with
 | zero =>
  have t1:Z.take 1=[y]:=by
   cases Z with
   | nil=>cases e
   | cons a t=>cases e;rfl
  have el:Z[Z.length-1]? = some (Z[Z.length-1]'(by omega)):=CI (by omega)
  refine ⟨Z[Z.length-1]'(by omega),?_,c (Z.length-1) _ _ (by rw[Dv (by omega)];exact el) (by rw[t1,DB (by omega),show Z.length-1+1-Z.length=0 by omega];rfl)⟩
  unfold atI ixN
  rw[CG]
  simp
  rw[if_pos (by omega)]
  simp only[Option.bind_some]
  rw[show (-1+(Z.length:Int)).toNat=Z.length-1 by omega,el];rfl
 | succ k =>
  have el:Z[k]? = some (Z[k]'(by omega)):=CI (by omega)
  refine ⟨Z[k]'(by omega),?_,c k _ _ (by rw[Dv (by omega)];exact el) (by rw[Dv (by omega)];exact e)⟩
  rw[show ((k+1:Nat):Int)-1=(k:Int) by omega]
  exact cD (by rw[CU,el];rfl)
theorem Ring.few {m:Nat}{ns:List (List Int)}{Z:List Int}(h:Ring m ns Z)(h3:Z.length<3):∃x y,atI (Z.map V.int) 0=some (.int x)/\atI (Z.map V.int) (-1)=some (.int y)/\Z.length<=ns.count (nrm x y):=by
 match Z,h,h3 with
 | [],h,_=>exact absurd rfl h.ne
 | [a],h,_ =>
  refine ⟨a,a,rfl,rfl,?_⟩
  have:nrm a a∈ns/\True:=h.ch
  exact Ia.mpr this.1
 | [a,b],h,_=>exact ⟨a,b,rfl,rfl,h.two a b rfl⟩
 | a :: b :: c :: t,_,h3=>simp at h3;lia
theorem Ring.mono {m:Nat}{ns ns':List (List Int)}{Z:List Int}(h:Ring m ns Z)(hc:∀t,ns.count t<=ns'.count t):Ring m ns' Z:=by
 refine ⟨h.ne,h.nd,h.rng,pI λi x y e1 e2 =>?_,λx y e=>DT (h.two x y e) (hc _)⟩
 have:nrm x y∈ns:=pJ h.ch i x y e1 e2
 exact Ia.mp (DT (Ia.mpr this) (hc _))
theorem tM (q:List Int->Bool)(ns:List (List Int))(t:List Int):(ns.filter q).count t<=ns.count t:=List.Sublist.count_le t Ho
theorem Ring.tied {m:Nat}{ns:List (List Int)}{Z:List Int}(h:Ring m ns Z){v:Int}(hv:v∈Z):∃u,nrm u v∈ns:=by
 obtain ⟨k,e⟩:=DC.mp hv
 obtain ⟨x,_,t⟩:=h.next e
 exact ⟨x,t⟩
def oth (p:Int)(t:List Int):Int:=t.getD 0 0+t.getD 1 0-p
theorem uT (p o:Int):oth p (nrm p o)=o:=by
 unfold oth nrm mnI mxI
 show (if o<p then o else p)+(if o>p then o else p)-p=o
 split <;> split <;> lia
theorem eL (p o:Int):p∈nrm p o:=by
 rcases IS p o with c | c
 ·rw[b7 c];simp
 ·rw[cu,b7 c];simp
theorem fT {m:Nat}{ns:List (List Int)}(O:Ok m ns)(ps:List Int):Ok m (ns.filter (off ps)):=λp hp=>O p (DX.mp hp).1
theorem yA:∀m:Nat,(rgI m).Pairwise (· < ·):=λm=>by
 unfold rgI
 rw[Ef]
 exact (HM (n:=m)).imp λ{a b} h=>by lia
theorem zY {ns out:List Int}{m:Nat}(p:out.Perm ns)(s:out.Pairwise (· <= ·)):out=rgI m↔ns.Perm (rgI m):=by
 constructor
 ·intro e
  rw[<- e];exact p.symm
 ·intro q
  have q2:=p.trans q
  refine gR (eA s (q2.nodup_iff.mpr (cO m))) (yA m) λx=>q2.mem_iff
def cA:List Int->Int->Nat
 | [],_=>0
 | x :: l,a=>if x=a then 0 else cA l a+1
theorem dM:∀{l:List Int} {a:Int},a∈l->l[cA l a]? = some a
 | [],_,h=>by cases h
 | x :: l,a,h=>by
  unfold cA
  by_cases e:x=a
  ·rw[if_pos e];subst e;rfl
  ·rw[if_neg e]
   have:a∈l:=(C9.mp h).resolve_left λz=>e z.symm
   rw[Fj];exact dM this
def mi (ns:List Int)(p:List Int):Nat:=if cA ns (p.getD 1 0)<cA ns (p.getD 0 0) then cA ns (p.getD 1 0) else cA ns (p.getD 0 0)
def onw (ns:List Int)(m:Nat)(ps:List (List Int)):List Int:=(Ei m).map λi=>(((ps.map (mi ns)).count i:Nat):Int)
theorem jl (ns:List Int)(m:Nat)(ps:List (List Int)):(onw ns m ps).length=m:=by unfold onw;rw[CG,EY]
theorem tN {ns:List Int}{m:Nat}{ps:List (List Int)}{k:Nat}(h:k<m):(onw ns m ps)[k]? = some ((((ps.map (mi ns)).count k:Nat):Int)):=by
 unfold onw
 rw[CU,GB h];rfl
theorem yB {ns:List Int}{m:Nat}{ps:List (List Int)}{p:List Int}(h:mi ns p<m):(onw ns m ps).set (mi ns p) ((((ps.map (mi ns)).count (mi ns p):Nat):Int)+1)=onw ns m (ps++[p]):=by
 refine Fb λi =>?_
 by_cases hi:i<m
 ·rw[tN hi,C2,K1]
  by_cases e:mi ns p=i
  ·subst e
   rw[Ey (by rw[jl];exact h)]
   rw[Dy,HX,List.count_singleton_self]
   congr 1
  ·rw[E2 e,tN hi,Dy,HX,List.count_singleton,if_neg (by simpa using e)]
   rfl
 ·rw[Dz (by rw[Gn,jl];lia),Dz (by rw[jl];lia)]
def Good (ns:List Int)(m:Nat)(ps:List (List Int)):Prop:=ns.Perm (rgI m)/\(∀p∈ps,p.getD 0 0≠p.getD 1 0)/\∀i<m,(ps.map (mi ns)).count i<=1
theorem uU (a b:List (List Int))(k:Int):aP (a++b) k=aP a k+aP b k:=by unfold aP;rw[C2,List.sum_append]
theorem cnt_cons (t:List Int)(b:List (List Int))(k:Int):aP (t :: b) k=(t.count k:Int)+aP b k:=by unfold aP;rw[Dy,List.sum_cons]
theorem mD (k:Int):∀b:List (List Int),0<=aP b k
 | []=>Kh _
 | t :: b=>by rw[cnt_cons];have:=mD k b;lia
theorem gZ {t:List Int}{k:Int}(hk:k∈t):∀{b:List (List Int)},t∈b->1<=aP b k
 | s :: b,h=>by
  rw[cnt_cons]
  rcases C9.mp h with z | z
  ·subst z;have:=EE.mpr hk;have:=mD k b;lia
  ·have:=gZ hk z;lia
theorem uV {t u:List Int}{k:Int}(ne:t≠u)(ht:k∈t)(hu:k∈u):∀{b:List (List Int)},t∈b->u∈b->2<=aP b k
 | s :: b,h1,h2=>by
  rw[cnt_cons]
  rcases C9.mp h1 with z | z <;> rcases C9.mp h2 with y | y
  ·exact absurd (z.trans y.symm) ne
  ·subst z;have:=EE.mpr ht;have:=gZ hu y;lia
  ·subst y;have:=EE.mpr hu;have:=gZ ht z;lia
  ·have:=uV ne ht hu z y;lia
theorem rK {k:Int}:∀{b:List (List Int)},[k,k]∈b->2<=aP b k
 | s :: b,h=>by
  rw[cnt_cons]
  rcases C9.mp h with z | z
  ·subst z;have:([k,k]:List Int).count k=2:=by simp
   have:=mD k b;lia
  ·have:=rK z;lia
theorem jm (a b v:Int):(([a,b]:List Int).count v:Int)=(if a=v then 1 else 0)+if b=v then 1 else 0:=by
 rw[Gr,Gr,List.count_nil]
 by_cases h1:a=v <;> by_cases h2:b=v <;> simp[h1,h2]
def dO (E:List (List Int)):Prop:=∀pre t post,E=pre++t :: post->∀a b:Int,t=[a,b]->¬ Con pre a b
theorem Con.up {E E':List (List Int)}(h:∀t∈E,t∈E'){u v:Int}(c:Con E u v):Con E' u v:=by
 induction c with
 | refl=>exact .refl _
 | step _ a ih =>
  obtain ⟨p,hp,hx⟩:=cF.mp a
  exact .step ih (cF.mpr ⟨p,h p hp,hx⟩)
theorem rL {E:List (List Int)}(w:dO E)(q:List Int->Bool):dO (E.filter q):=λpre t post e a b et c=>by
 obtain ⟨l1,l2,e1,e2,e3⟩:=List.filter_eq_append_iff.mp e
 obtain ⟨m1,m2,e4,_,_,_⟩:=List.filter_eq_cons_iff.mp e3
 refine w (l1++m1) t m2 (by rw[e1,e4,DD]) a b et (c.up λs hs =>?_)
 rw[<- e2] at hs
 exact Dn _ (DX.mp hs).1
theorem oE {m:Nat}:∀(n:Nat) (E:List (List Int)),E.length=n->Ok m E->dO E->∀u x:Int,∃v,Con E u v/\aP E v<=1/\(v≠x\/aP E v=0)
 | 0,E,hn,_,_,u,x=>by
  have:=FW.mp hn
  subst this
  exact ⟨u,.refl _,(by show (0:Int)<=1;decide),.inr rfl⟩
 | n+1,E,hn,O,w,u,x=>by
  rcases Ge E with h | ⟨E',t,h⟩
  ·rw[h] at hn;cases hn
  rw[Gf] at h
  subst h
  obtain ⟨a,b,rfl,a0,ab,bm⟩:=O t (by simp)
  have nc:=w E' [a,b] [] rfl a b rfl
  have O':Ok m E':=λt ht=>O t (Dn _ ht)
  have w':dO E':=λpre t post e a' b' et=>w pre t (post++[[a,b]]) (by rw[e];simp) a' b' et
  have ih:=oE n E' (by rw[CL] at hn;exact L4 hn) O' w'
  have up:∀{u v:Int},Con E' u v->Con (E'++[[a,b]]) u v:=λc=>c.up λs hs=>Dn _ hs
  have ne:a≠b:=λe=>nc (e ▸ .refl _)
  have tie:Con (E'++[[a,b]]) a b :=.one ((cW O).mpr ⟨a,b,Dt _ (by simp),ne,.inl ⟨rfl,rfl⟩⟩)
  have cnt:∀v,aP (E'++[[a,b]]) v=aP E' v+((if a=v then 1 else 0)+if b=v then 1 else 0):=λv=>by
   rw[uU,cnt_cons,jm]
   show _=_+(_+_)
   have:aP [] v=0:=rfl
   lia
  obtain ⟨v1,c1,k1,d1⟩:=ih a a
  obtain ⟨v2,c2,k2,d2⟩:=ih b b
  have n1:b≠v1:=λe=>nc (e ▸ c1)
  have n2:a≠v2:=λe=>nc ((e ▸ c2).symm O')
  have l1:aP (E'++[[a,b]]) v1<=1:=by
   rw[cnt,if_neg n1]
   by_cases z:a=v1
   ·rw[if_pos z];rcases d1 with y | y
    ·exact absurd z.symm y
    ·lia
   ·rw[if_neg z];lia
  have l2:aP (E'++[[a,b]]) v2<=1:=by
   rw[cnt,if_neg n2]
   by_cases z:b=v2
   ·rw[if_pos z];rcases d2 with y | y
    ·exact absurd z.symm y
    ·lia
   ·rw[if_neg z];lia
  have n12:v1≠v2:=λe=>nc (c1.trans (e ▸ c2.symm O'))
  have two:Con (E'++[[a,b]]) u a->∃v,Con (E'++[[a,b]]) u v/\aP (E'++[[a,b]]) v<=1/\(v≠x\/aP (E'++[[a,b]]) v=0):=λc=>by
   by_cases z:v1=x
   ·exact ⟨v2,(c.trans tie).trans (up c2),l2,.inl λy=>n12 (z.trans y.symm)⟩
   ·exact ⟨v1,c.trans (up c1),l1,.inl z⟩
  by_cases ha:Con E' u a
  ·exact two (up ha)
  by_cases hb:Con E' u b
  ·exact two ((up hb).trans (tie.symm O))
  obtain ⟨v,c,k,d⟩:=ih u x
  have z1:a≠v:=λe=>ha (e ▸ c)
  have z2:b≠v:=λe=>hb (e ▸ c)
  have:aP (E'++[[a,b]]) v=aP E' v:=by rw[cnt,if_neg z1,if_neg z2];lia
  exact ⟨v,up c,by lia,by rw[this];exact d⟩
theorem stuck {m:Nat}{ns:List (List Int)}(O:Ok m ns)(w:dO ns){G:List Int}{u:Int}(hu:0<=u/\u<m)(hG:u∉G)(hc:∀v:Int,0<=v/\v<m->v∉G->2<=aP (ns.filter (off G)) v):False:=by
 have O':=fT O G
 obtain ⟨v,c,k,_⟩:=oE _ _ rfl O' (rL w (off G)) u u
 have rv:=c.rng O' hu
 have nv:v∉G:=c.closed (R:=λv=>v∉G) hG λx y _ a=>by
  obtain ⟨p,q,hp,ne,hx⟩:=(cW O').mp a
  have:=(DX.mp hp).2
  unfold off at this
  have z:p∉G/\q∉G:=by simpa using this
  rcases hx with ⟨rfl,rfl⟩ | ⟨rfl,rfl⟩
  ·exact z.2
  ·exact z.1
 have:=hc v rv nv
 lia
theorem yC {m:Nat}{E:List (List Int)}(O:Ok m E){p:Int}(h1:aP E p<=1){a b:Int}(c:Con E a b)(ha:a≠p)(hb:b≠p):Con (E.filter (off [p])) a b:=by
 have O':=fT O [p]
 have nb:∀{v w:Int},Adj E p v->Adj E p w->v=w:=λ{v w} av aw=>by
  obtain ⟨_,tv⟩:=(eX O).mp av
  obtain ⟨_,tw⟩:=(eX O).mp aw
  by_cases z:nrm p v=nrm p w
  ·have:=congrArg (oth p) z
   rwa [uT,uT] at this
  ·have:=uV z (eL p v) (eL p w) tv tw
   lia
 have adj:∀{u v:Int},Adj E u v->u≠p->v≠p->Adj (E.filter (off [p])) u v:=λ{u v} h hu hv=>by
  obtain ⟨a,b,hp,ne,hx⟩:=(cW O).mp h
  refine (cW O').mpr ⟨a,b,DX.mpr ⟨hp,?_⟩,ne,hx⟩
  unfold off
  rcases hx with ⟨rfl,rfl⟩ | ⟨rfl,rfl⟩ <;> simp[hu,hv]
 by_cases hx:∃x,Adj E p x
 ·obtain ⟨x,ax⟩:=hx
  have xp:x≠p:=λe=>by
   have:=(eX O).mp ax
   exact this.1 e.symm
  have key:∀{u v:Int},Con E u v->Con (E.filter (off [p])) (if u=p then x else u) (if v=p then x else v):=λ{u v} c=>by
   induction c with
   | refl=>exact .refl _
   | step cc a ih =>
    rename_i y z
    refine ih.trans ?_
    by_cases hy:y=p
    ·subst hy
     have:=nb a ax
     subst this
     rw[if_pos rfl,if_neg xp];exact .refl _
    ·by_cases hz:z=p
     ·subst hz
      have:=nb (jf O a) ax
      subst this
      rw[if_pos rfl,if_neg hy];exact .refl _
     ·rw[if_neg hy,if_neg hz];exact .one (adj a hy hz)
  have:=key c
  rwa [if_neg ha,if_neg hb] at this
 ·clear hb
  induction c with
  | refl=>exact .refl _
  | step cc a ih =>
   rename_i y z
   have hy:y≠p:=λe=>hx ⟨z,e ▸ a⟩
   have hz:z≠p:=λe=>hx ⟨y,e ▸ jf O a⟩
   exact .step ih (adj a hy hz)
theorem yD {m:Nat}{E:List (List Int)}(O:Ok m E){p:Int}(h1:aP E p<=1)(w:dO (E.filter (off [p]))):dO E:=λpre t post e a b et c=>by
 subst et
 have Op:Ok m pre:=λt ht=>O t (by rw[e];exact Dn _ ht)
 rw[e,uU,cnt_cons,jm] at h1
 have c0:=mD p pre
 have c1:=mD p post
 by_cases hq:off [p] [a,b]=true
 ·have hab:a≠p/\b≠p:=by unfold off at hq;simpa using hq
  refine w (pre.filter (off [p])) [a,b] (post.filter (off [p])) ?_ a b rfl (yC Op ?_ c hab.1 hab.2)
  ·rw[e,GO,En hq]
  ·have:(0:Int)<=(if a=p then 1 else 0)+(if b=p then 1 else 0):=by split <;> split <;> decide
   lia
 ·have hab:a=p\/b=p:=by
   unfold off at hq
   by_cases z:a=p
   ·exact .inl z
   ·right
    simpa [z] using hq
  have iso:∀{u v:Int},Con pre u v->aP pre p=0->(u=p↔v=p):=λ{u v} c z=>by
   induction c with
   | refl=>exact Fd
   | step cc aj ih =>
    rename_i y x
    refine ih.trans ⟨λh =>?_,λh =>?_⟩
    ·subst h
     have:=gZ (eL y x) ((eX Op).mp aj).2
     lia
    ·subst h
     have:=gZ (eL x y) ((eX Op).mp (jf Op aj)).2
     lia
  by_cases ha:a=p
  ·by_cases hb:b=p
   ·rw[if_pos ha,if_pos hb] at h1;lia
   ·rw[if_pos ha,if_neg hb] at h1
    exact hb ((iso c (by lia)).mp ha)
  ·have hb:=hab.resolve_left ha
   rw[if_neg ha,if_pos hb] at h1
   exact ha ((iso c (by lia)).mpr hb)
theorem rM (G:List Int)(p:Int)(t:List Int):off (G++[p]) t=(off [p] t && off G t):=by
 unfold off
 by_cases h1:t.getD 0 0∈G <;> by_cases h2:t.getD 1 0∈G <;> by_cases h3:t.getD 0 0=p <;> by_cases h4:t.getD 1 0=p <;> simp_all
def Pld (ns:List (List Int))(G:List Int):Prop:=G.Nodup/\∀(i:Nat) p,G[i]? = some p->aP (ns.filter (off (G.take i))) p<=1
theorem Pld.CA {m:Nat}{ns:List (List Int)}(O:Ok m ns){G:List Int}(h:Pld ns G)(cov:∀v:Int,0<=v/\v<m->v∈G):dO ns:=by
 have key:∀k,k<=G.length->dO (ns.filter (off (G.take (G.length-k)))):=λk=>by
  induction k with
  | zero =>
   intro _
   rw[JJ,Lo]
   have:ns.filter (off G)=[]:=List.filter_eq_nil_iff.mpr λt ht z=>by
    obtain ⟨a,b,rfl,a0,ab,bm⟩:=O t ht
    have ha:=cov a ⟨a0,by lia⟩
    unfold off at z
    simp[ha] at z
   rw[this]
   intro pre t post e
   cases pre <;> cases e
  | succ k ih =>
   intro hk
   have ih:=ih (by lia)
   have eg:G[G.length-(k+1)]? = some (G[G.length-(k+1)]'(by lia)):=CI (by lia)
   have et:G.take (G.length-k)=G.take (G.length-(k+1))++[G[G.length-(k+1)]'(by lia)]:=by
    rw[show G.length-k=G.length-(k+1)+1 by lia,Ee,eg];rfl
   have:=h.2 _ _ eg
   refine yD (fT O _) this ?_
   rw[Ky]
   rw[et] at ih
   rw[show (λa=>off [G[G.length-(k+1)]'(by lia)] a && off (G.take (G.length-(k+1))) a)=off (G.take (G.length-(k+1))++[G[G.length-(k+1)]'(by lia)]) from funext λt=>(rM _ _ t).symm]
   exact ih
 have:=key G.length (CO _)
 rw[K5,Hg] at this
 rwa [Iw.mpr λt _=>by unfold off;simp] at this
theorem Pld.good {m:Nat}{ns:List (List Int)}(O:Ok m ns){G:List Int}(h:Pld ns G)(rg:∀v∈G,0<=v/\v<m)(lm:G.length=m):Good G m ns:=by
 have pm:G.Perm (rgI m):=by
  rw[G9 h.1 (cO m)]
  intro a
  refine ⟨λha=>cq.mpr (rg a ha),λha =>?_⟩
  have ll:(rgI m).length=m:=by unfold rgI;simp
  by_cases z:a∈G
  ·exact z
  ·have:=EG (E5.mpr ⟨z,h.1⟩) (l₂:=rgI m) λx hx=>by
    rcases C9.mp hx with y | y
    ·rw[y];exact ha
    ·exact cq.mpr (rg x y)
   rw[Dx] at this
   lia
 have cov:∀v:Int,0<=v/\v<m->v∈G:=λv hv=>pm.mem_iff.mpr (cq.mpr hv)
 refine ⟨pm,λt ht e =>?_,λi hi =>?_⟩
 ·obtain ⟨a,b,rfl,a0,ab,bm⟩:=O t ht
  have e':a=b:=e
  subst e'
  exact (h.CA O cov) |> λw=>by
   obtain ⟨pre,post,e⟩:=List.append_of_mem ht
   exact w pre [a,a] post e a a rfl (.refl _)
 ·have eg:G[i]? = some (G[i]'(by lia)):=CI (by lia)
  have:=h.2 i _ eg
  suffices ∀l:List (List Int),(∀t∈l,t∈ns)->(((l.map (mi G)).count i:Nat):Int)<=aP (l.filter (off (G.take i))) (G[i]'(by lia)) by
   have:=this ns λt ht=>ht
   lia
  intro l hl
  induction l with
  | nil=>exact Kh _
  | cons t l ih =>
   have ih:=ih λt ht=>hl t (Dj _ ht)
   obtain ⟨a,b,rfl,a0,ab,bm⟩:=O t (hl t Di)
   have ga:=dM (cov a ⟨a0,by lia⟩)
   have gb:=dM (cov b ⟨by lia,bm⟩)
   rw[Dy,Gr]
   by_cases e:mi G [a,b]=i
   ·rw[if_pos (by simpa using e)]
    have e':(if cA G b<cA G a then cA G b else cA G a)=i:=e
    have nt:∀{v:Int},G[cA G v]? = some v->i<=cA G v->v∉G.take i:=λ{v} gv le hv=>by
     obtain ⟨j,ej⟩:=DC.mp hv
     rw[Eu] at ej
     split at ej
     ·rename_i hj
      have:=(Gu (by lia) h.1).mp (ej.trans gv.symm)
      lia
     ·cases ej
    have hoff:off (G.take i) [a,b]=true:=by
     have n1:a∉G.take i:=nt ga (by split at e' <;> lia)
     have n2:b∉G.take i:=nt gb (by split at e' <;> lia)
     unfold off
     show (!decide (a∈G.take i) && !decide (b∈G.take i))=true
     rw[decide_eq_false n1,decide_eq_false n2];rfl
    rw[En hoff,cnt_cons]
    have:(G[i]'(by lia))∈([a,b]:List Int):=by
     split at e'
     ·rw[e',eg] at gb;rw[Dk gb];simp
     ·rw[e',eg] at ga;rw[Dk ga];simp
    have:=EE.mpr this
    lia
   ·rw[if_neg (by simpa using e),JL]
    by_cases hq:off (G.take i) [a,b]=true
    ·rw[En hq,cnt_cons];lia
    ·rw[EZ hq];exact ih
theorem zZ {m:Nat}{ns:List (List Int)}(O:Ok m ns)(h:¬ dO ns):∃a b,[a,b]∈ns/\¬ mZ ns a b:=by
 apply Gk
 intro no
 apply h
 intro pre t post e a b et c
 subst et
 have hin:[a,b]∈ns:=by rw[e];simp
 refine no ⟨a,b,hin,λnal =>?_⟩
 have Op:Ok m pre:=λt ht=>O t (by rw[e];exact Dn _ ht)
 obtain ⟨_,_,ee,a0,ab,bm⟩:=O _ hin
 cases ee
 have np:[a,b]∉pre:=λhp=>by
  have:=nal.2.1
  rw[e,K1,List.count_cons_self] at this
  have:=EE.mpr hp
  lia
 have:∀{v:Int},Con pre a v->∃n,Wk (stp ns a b) a n v:=λ{v} c=>by
  induction c with
  | refl=>exact ⟨0,.z⟩
  | step cc aj ih =>
   rename_i y z
   obtain ⟨n,w⟩:=ih
   obtain ⟨ne,td⟩:=(eX Op).mp aj
   refine ⟨n+1,.st w ⟨(eX O).mpr ⟨ne,by rw[e];exact Dn _ td⟩,?_⟩⟩
   by_cases h1:y=a
   ·right;intro h2;subst h1;subst h2
    unfold Td at td
    rw[b7 ab] at td
    exact np td
   ·exact .inl h1
 obtain ⟨n,w⟩:=this c
 exact nal.2.2 n w
theorem Ay {L:List Int}{m:Nat}(hl:L.length=m){v:Int}(hv:0<=v/\v<m):L[v.toNat]? = some (gt L v):=by
 unfold gt
 rw[CI (by lia),C0,CI (by lia)];rfl
theorem rN {m:Nat}{p v:Int}(ne:v≠p):∀{E:List (List Int)},Ok m E->aP E v=aP (E.filter (off [p])) v+(E.count (nrm p v):Int)
 | [],_=>rfl
 | t :: E,O=>by
  have ih:=rN ne (E:=E) λt ht=>O t (Dj _ ht)
  obtain ⟨a,b,rfl,a0,ab,bm⟩:=O t Di
  rw[cnt_cons,jm,Gr]
  by_cases hq:off [p] [a,b]=true
  ·have hab:a≠p/\b≠p:=by unfold off at hq;simpa using hq
   have:[a,b]≠nrm p v:=λe=>by
    have:=eL p v
    rw[<- e] at this
    simp at this
    rcases this with z | z
    ·exact hab.1 z.symm
    ·exact hab.2 z.symm
   rw[En hq,cnt_cons,jm,if_neg (show ¬ ([a,b] == nrm p v)=true by simpa using this)]
   lia
  ·rw[EZ hq]
   have hab:a=p\/b=p:=by
    unfold off at hq
    by_cases z:a=p
    ·exact .inl z
    ·right;simpa [z] using hq
   by_cases e:[a,b]=nrm p v
   ·rw[if_pos (show ([a,b] == nrm p v)=true by simpa using e)]
    have:(if a=v then (1:Int) else 0)+(if b=v then 1 else 0)=1:=by
     have hv:=eL v p
     rw[cu, <- e] at hv
     simp at hv
     rcases hab with z | z
     ·subst z;rw[if_neg (D8 ne),if_pos (hv.resolve_left ne).symm];rfl
     ·subst z;rw[if_neg (D8 ne),if_pos (hv.resolve_right ne).symm];rfl
    lia
   ·rw[if_neg (show ¬ ([a,b] == nrm p v)=true by simpa using e)]
    have:(if a=v then (1:Int) else 0)+(if b=v then 1 else 0)=0:=by
     rcases hab with z | z
     ·subst z
      rw[if_neg (D8 ne),if_neg λy=>e (by subst y;rw[b7 ab])];rfl
     ·subst z
      rw[if_neg λy=>e (by subst y;rw[cu,b7 ab]),if_neg (D8 ne)];rfl
    lia
theorem jq {p v:Int}:∀E:List (List Int),(E.count (nrm p v):Int)<=aP E p
 | []=>Kh _
 | t :: E=>by
  have ih:=jq (p:=p) (v:=v) E
  rw[cnt_cons,Gr]
  by_cases e:t=nrm p v
  ·have:=EE.mpr (show p∈t from e ▸ eL p v)
   rw[if_pos (by simpa using e)];lia
  ·rw[if_neg (by simpa using e)];lia
structure PI (m:Nat)(ns:List (List Int))(G Y C:List Int):Prop where
 pld:Pld ns G
 rg:∀v∈G,0<=v/\v<m
 clen:C.length=m
 cnt:∀v:Int,0<=v/\v<m->v∉G->gt C v=aP (ns.filter (off G)) v
 ynd:Y.Nodup
 yiff:∀v:Int,v∈Y↔(0<=v/\v<m)/\v∉G/\aP (ns.filter (off G)) v<=1
structure PJ (m:Nat)(ns:List (List Int))(G:List Int)(p:Int)(D Y C:List Int):Prop where
 clen:C.length=m
 cnt:∀v:Int,0<=v/\v<m->v∉G++[p]->gt C v=aP (ns.filter (off G)) v-if v∈D then 1 else 0
 ynd:Y.Nodup
 yiff:∀v:Int,v∈Y↔(0<=v/\v<m)/\v∉G++[p]/\aP (ns.filter (off G)) v-(if v∈D then 1 else 0)<=1
def ct0 (ns:List (List Int))(m:Nat):List Int:=(rgI m).map (aP ns)
def rd0 (ns:List (List Int))(m:Nat):List Int:=(rgI m).filter λv=>decide (aP ns v<=1)
theorem BG {ns:List (List Int)}{m:Nat}{v:Int}(hv:0<=v/\v<m):gt (ct0 ns m) v=aP ns v:=by
 unfold gt ct0 rgI
 rw[C0,CU,CU,GB (by lia)]
 show aP ns ((v.toNat:Nat):Int)=_
 rw[show ((v.toNat:Nat):Int)=v by lia]
theorem uW (ns:List (List Int)):ns.filter (off [])=ns:=Iw.mpr λt _=>by unfold off;simp
theorem PI.start (ns:List (List Int))(m:Nat):PI m ns [] (rd0 ns m) (ct0 ns m):=by
 refine ⟨⟨Gj,λi p e=>by simp at e⟩,λv h=>(by cases h),by unfold ct0 rgI;simp,λv hv _=>by rw[uW,BG hv],IT Ho (cO m),λv =>?_⟩
 unfold rd0
 rw[DX,cq,uW]
 simp
theorem PI.pop {m:Nat}{ns:List (List Int)}{G Y C:List Int}{p:Int}(h:PI m ns G (Y++[p]) C):PJ m ns G p [] Y C:=by
 have hp:=(h.yiff p).mp (by simp)
 obtain ⟨y1,_,y3⟩:=Fc.mp h.ynd
 have pY:p∉Y:=λz=>y3 p z p (by simp) rfl
 refine ⟨h.clen,λv hv nv =>?_,y1,λv =>?_⟩
 ·rw[if_neg (by simp),JS]
  exact h.cnt v hv λz=>nv (Dn _ z)
 ·rw[if_neg (by simp),JS]
  constructor
  ·intro hv
   obtain ⟨a,b,c⟩:=(h.yiff v).mp (Dn _ hv)
   refine ⟨a,λz =>?_,c⟩
   rcases CW.mp z with y | y
   ·exact b y
   ·rw[CQ] at y;exact pY (y ▸ hv)
  ·rintro ⟨a,b,c⟩
   have:=(h.yiff v).mpr ⟨a,λz=>b (Dn _ z),c⟩
   rcases CW.mp this with y | y
   ·exact y
   ·exact absurd (Dt G y) b
theorem PJ.skip {m:Nat}{ns:List (List Int)}{G Y C D:List Int}{p o:Int}(h:PJ m ns G p D Y C)(ho:o∈G++[p]):PJ m ns G p (D++[o]) Y C:=by
 have e:∀v,v∉G++[p]->(v∈D++[o]↔v∈D):=λv nv=>by
  rw[CW,CQ]
  exact ⟨λz=>z.elim id λy=>absurd (y ▸ ho) nv,.inl⟩
 refine ⟨h.clen,λv hv nv =>?_,h.ynd,λv =>?_⟩
 ·rw[h.cnt v hv nv]
  by_cases z:v∈D
  ·rw[if_pos z,if_pos ((e v nv).mpr z)]
  ·rw[if_neg z,if_neg λy=>z ((e v nv).mp y)]
 ·rw[h.yiff v]
  refine and_congr_right λa=>and_congr_right λb =>?_
  by_cases z:v∈D
  ·rw[if_pos z,if_pos ((e v b).mpr z)]
  ·rw[if_neg z,if_neg λy=>z ((e v b).mp y)]
theorem PJ.take {m:Nat}{ns:List (List Int)}{G Y C D:List Int}{p o:Int}(h:PJ m ns G p D Y C)(ro:0<=o/\o<m)(ho:o∉G++[p])(nD:o∉D)(c1:1<=aP (ns.filter (off G)) o):PJ m ns G p (D++[o]) (if gt C o-1=1 then Y++[o] else Y) (C.set o.toNat (gt C o-1)):=by
 have co:=h.cnt o ro ho
 rw[if_neg nD,JS] at co
 have e:∀v,v≠o->(v∈D++[o]↔v∈D):=λv nv=>by
  rw[CW,CQ]
  exact ⟨λz=>z.elim id λy=>absurd y nv,.inl⟩
 have yo:o∈Y↔aP (ns.filter (off G)) o<=1:=by
  rw[h.yiff o,if_neg nD,JS]
  exact ⟨λz=>z.2.2,λz=>⟨ro,ho,z⟩⟩
 refine ⟨by rw[Gn];exact h.clen,λv hv nv =>?_,?_,λv =>?_⟩
 ·rw[BB (by rw[h.clen];exact ro) hv.1]
  by_cases z:v=o
  ·subst z;rw[if_pos rfl,if_pos (by simp),co]
  ·rw[if_neg z,h.cnt v hv nv]
   by_cases y:v∈D
   ·rw[if_pos y,if_pos ((e v z).mpr y)]
   ·rw[if_neg y,if_neg λx=>y ((e v z).mp x)]
 ·split
  ·refine df h.ynd λz =>?_
   have:=yo.mp z
   lia
  ·exact h.ynd
 ·by_cases z:v=o
  ·subst z
   rw[if_pos (show v∈D++[v] by simp)]
   by_cases c:gt C v-1=1
   ·rw[if_pos c]
    exact ⟨λ_=>⟨ro,ho,by lia⟩,λ_=>by simp⟩
   ·rw[if_neg c,yo]
    exact ⟨λy=>⟨ro,ho,by lia⟩,λy=>by lia⟩
  ·have:v∈(if gt C o-1=1 then Y++[o] else Y)↔v∈Y:=by
    split
    ·rw[CW,CQ]
     exact ⟨λy=>y.elim id λx=>absurd x z,.inl⟩
    ·exact Fd
   rw[this,h.yiff v]
   refine and_congr_right λa=>and_congr_right λb =>?_
   by_cases y:v∈D
   ·rw[if_pos y,if_pos ((e v z).mpr y)]
   ·rw[if_neg y,if_neg λx=>y ((e v z).mp x)]
theorem PJ.done {m:Nat}{ns:List (List Int)}(O:Ok m ns){G Y C D:List Int}{p:Int}(h:PJ m ns G p D Y C)(hG:Pld ns G)(rg:∀v∈G,0<=v/\v<m)(rp:0<=p/\p<m)(np:p∉G)(c1:aP (ns.filter (off G)) p<=1)(hD:∀x,x∈D↔Adj ns p x):PI m ns (G++[p]) Y C:=by
 have O':=fT O G
 have key:∀v:Int,v∉G++[p]->aP (ns.filter (off (G++[p]))) v=aP (ns.filter (off G)) v-if v∈D then 1 else 0:=λv nv=>by
  have vG:v∉G:=λz=>nv (Dn _ z)
  have vp:v≠p:=λz=>nv (Dt _ (by simp[z]))
  have e:ns.filter (off (G++[p]))=(ns.filter (off G)).filter (off [p]):=by
   rw[Ky]
   congr 1
   exact funext λt=>rM G p t
  rw[e]
  have a:=rN vp O'
  have b:=jq (p:=p) (v:=v) (ns.filter (off G))
  have hm:nrm p v∈ns.filter (off G)↔v∈D:=by
   rw[hD,eX O,DX]
   refine ⟨λz=>⟨D8 vp,z.1⟩,λz=>⟨z.2,?_⟩⟩
   rcases IS p v with y | y
   ·rw[b7 y];unfold off;simp[np,vG]
   ·rw[cu,b7 y];unfold off;simp[np,vG]
  by_cases z:v∈D
  ·have:=EE.mpr (hm.mpr z)
   rw[if_pos z];lia
  ·have:(ns.filter (off G)).count (nrm p v)=0:=List.count_eq_zero.mpr λy=>z (hm.mp y)
   rw[if_neg z];lia
 refine ⟨⟨df hG.1 np,λi q e =>?_⟩,λv hv =>?_,h.clen,λv hv nv=>by rw[h.cnt v hv nv,key v nv],h.ynd,λv =>?_⟩
 ·rcases Fq i G.length with c | c
  ·rw[Dv c] at e
   rw[GH (by lia)]
   exact hG.2 i q e
  ·rw[DB c] at e
   have:i-G.length=0:=by
    rcases Gg (i-G.length) with z | z
    ·exact z
    ·rw[Dz (by simp;lia)] at e;cases e
   rw[this] at e;cases e
   rw[show i=G.length by lia,LN]
   exact c1
 ·rcases CW.mp hv with z | z
  ·exact rg v z
  ·rw[CQ] at z;subst z;exact rp
 ·rw[h.yiff v]
  refine and_congr_right λa=>and_congr_right λb =>?_
  rw[key v b]
def pin (G:List Int)(YC:List Int×List Int)(o:Int):List Int×List Int:=if o∈G then YC else (if gt YC.2 o-1=1 then YC.1++[o] else YC.1,YC.2.set o.toNat (gt YC.2 o-1))
def itP (nb:Int->List Int)(S0:List Int×List Int):Nat->(List Int×List Int)×List Int
 | 0=>(S0,[])
 | k+1=>((nb ((itP nb S0 k).1.1.getLastD 0)).foldl (pin ((itP nb S0 k).2++[(itP nb S0 k).1.1.getLastD 0])) ((itP nb S0 k).1.1.dropLast,(itP nb S0 k).1.2),(itP nb S0 k).2++[(itP nb S0 k).1.1.getLastD 0])
def z3 (nb:Int->List Int)(S0:List Int×List Int)(G:List Int):Prop:=∃k,(itP nb S0 k).2=G/\(itP nb S0 k).1.1=[]/\∀j,j<k->(itP nb S0 j).1.1≠[]
theorem z3.uniq {nb:Int->List Int}{S0:List Int×List Int}{G G':List Int}(h:z3 nb S0 G)(h':z3 nb S0 G'):G=G':=by
 obtain ⟨k,e,st,no⟩:=h
 obtain ⟨k',e',st',no'⟩:=h'
 have:k=k':=by
  rcases HR k k' with z | z | z
  ·exact absurd st (no' k z)
  ·exact z
  ·exact absurd st' (no k' z)
 rw[<- e, <- e',this]
def oF (m:Nat)(ns:List (List Int))(G:List Int):Prop:=∃rows,my m ns rows/\z3 (gC rows) (rd0 ns m,ct0 ns m) G
theorem oF.uniq {m:Nat}{ns:List (List Int)}{G G':List Int}(h:oF m ns G)(h':oF m ns G'):G=G':=by
 obtain ⟨r,a,b⟩:=h
 obtain ⟨r',a',b'⟩:=h'
 have:=a.uniq a'
 subst this
 exact b.uniq b'
open PySem L2
section
variable  {P:De}{w:DN}{K:CM}{mg:Str->Option CJ}{base:Heap}{f T:Addr}{fd:Eh}
theorem yE:aO ["web", "one", "other"] ["web", "one", "other"] (aF pk):=⟨rfl,rfl,rfl,by decide +kernel,rfl,by decide +kernel,by decide +kernel⟩
theorem yF (F:Fun K "_law_times" "_law_times" pk f fd)(B:Blt mg):bS P w K mg base CX0 1 f fd ["web", "one", "other"] gW:=by
 refine F.ok yE (λvs H Q E h =>?_) (λcdv A outer s H vs Q E hr h =>?_)
 ·obtain ⟨_,_,_,_,_,rfl,_⟩:=cC.mp h
  rfl
 obtain ⟨r,m,a,b,ts,rfl,W,q⟩:=cC.mp h
 refine ⟨_,(@au _ _ _ (@aL _ _ _ _ (oZ FN Hx (lN (hu8 hr)) (@aH _ _ _ _ _ _ _ aI (pv 0) ak (λ_ _=>rfl)) (@aa _ _ _ _ _ (@bo _ _ _ _ _ (@aa _ _ _ _ _ (az (gK rfl) rfl B.b_min eV (@aa _ _ _ _ _ (pv 1) (@aa _ _ _ _ _ (pv 2) ah rfl) rfl)) (@aa _ _ _ _ _ (az (gJ rfl) rfl B.b_max jJ (@aa _ _ _ _ _ (pv 1) (@aa _ _ _ _ _ (pv 2) ah rfl) rfl)) ah rfl) rfl)) ah rfl)))),?_⟩
 obtain ⟨t,e1,e2⟩:=W.at'
 refine ⟨_,rfl,r,_,1,_,rfl,rfl,SqT.of e1,rfl,⟨_,_,rfl,e2⟩,_,rfl,_,rfl,_,_,rfl,_,rfl,_,rfl,_,_,rfl,(by show 2<=C6;decide),λx hx =>?_⟩
 have s1:=af hx (.tup ((nrm a b).map V.int))
 exact ⟨t,x,ts,nrm a b,rfl,rfl,s1 _ _ e2,λu hu=>s1 _ _ (W.tup u hu),ag,q _ s1⟩
end
abbrev yG:Sp:=λvs H Q _=>∃(r p:Addr) (m:Nat) (ts:List (Addr×List Int)) (Z:List Int),vs=[.ref r,.ref p]/\Wb H r m ts/\m<=200/\H p=some (.tup (Z.map V.int))/\Ring m (ts.map (·.2)) Z/\∀H',aE H H'->Q (.bl true) H'
@[irreducible] def uZ:Sp:=yG
theorem jQ {vs:List V}{H:Hp}{Q:VK}{E:XK}:uZ vs H Q E↔yG vs H Q E:=by
 delta uZ
 exact Fd
theorem wg:∀{us ns:List Int},us.Nodup->ns.Nodup->(∀k,k∈us↔k∈ns)->us.length=ns.length:=λh1 h2 h=>GS (EG h1 λx hx=>(h x).mp hx) (EG h2 λx hx=>(h x).mpr hx)
section
variable  {P:De}{w:DN}{K:CM}{mg:Str->Option CJ}{base:Heap}{f T:Addr}{fd:Eh}
theorem oG:aO ["web", "ring", "k"] ["web", "ring"] (aF l8):=⟨rfl,rfl,rfl,by decide +kernel,rfl,by decide +kernel,by decide +kernel⟩
theorem hX:(["place", "web"]:List Str).Nodup:=by decide +kernel
theorem wj (F:Fun K "_law_is_ring" "_law_is_ring" l8 f fd)(B:Blt mg)(cLTimes:Cal P w K mg base 1 "_law_times" ["web", "one", "other"] gW):bS P w K mg base CX0 2 f fd ["web", "ring"] uZ:=by
 refine F.ok oG (λvs H Q E h =>?_) (λcdv A outer s H vs Q E hr h =>?_)
 ·obtain ⟨_,_,_,_,_,rfl,_⟩:=jQ.mp h
  rfl
 obtain ⟨r,p,m,ts,Z,rfl,W,m2,ep,R,q⟩:=jQ.mp h
 refine ⟨_,(@ai _ _ _ _ _ (@bC _ _ _ _ _ _ _ _ (PW.pt (jT (aK cQ (az aY rfl B.b_len eU (@aa _ _ _ _ _ (pv 1) ah rfl)) ak (aS _)) (jT (aK kO (az qS rfl B.b_len eU (@aa _ _ _ _ _ (aJ (sQ (w:=w) rfl hr.hd) rfl B.b_set xY (@aa _ _ _ _ _ (pv 1) ah rfl)) ah rfl)) (az aY rfl B.b_len eU (@aa _ _ _ _ _ (pv 1) ah rfl)) (aS _)) (kK (ij (fG (az (k8 rfl) rfl B.b_all tH (@aa _ _ _ _ _ (bT ["place", "web"] [none,some 0] rfl (@ik _ _ _ _ (pv 1)) rfl (λ_ _ _ _ _=>(aq (i:=0) hX rfl (Or.inl rfl))) (λ_ _ _ _ _=>cG) (λ_ _ _ _ _=>(wL Ae qi ak (pv 0) (@aH _ _ _ _ _ _ _ (iT (K:=K)) (pv 1) ak (λ_ _=>rfl))))) ah rfl)))))))) (@au _ _ _ (@aL _ _ _ _ hZ)) aR)
  (@ai _ _ _ _ _ (@bC _ _ _ _ _ _ _ _ (aK qi (az aY rfl B.b_len eU (@aa _ _ _ _ _ (pv 1) ah rfl)) ak (aS _)) (@au _ _ _ (@aL _ _ _ _ (di wK (aV cLTimes hr (by decide) rfl (@aa _ _ _ _ _ (pv 0) (@aa _ _ _ _ _ (@aH _ _ _ _ _ _ _ aI (pv 1) ak (λ_ _=>rfl)) (@aa _ _ _ _ _ (@aH _ _ _ _ _ _ _ aI (pv 1) (BY AU ak) (λ_ _=>rfl)) ah rfl) rfl) rfl)) (az aY rfl B.b_len eU (@aa _ _ _ _ _ (pv 1) ah rfl)) (aS _)))) aR)
  (@ai _ _ _ _ _ (@bN _ _ _ _ _ _ _ _ DE rfl (bA rfl B.b_range (@aa _ _ _ _ _ (az aY rfl B.b_len eU (@aa _ _ _ _ _ (pv 1) ah rfl)) ah rfl)) (aq (i:=2) oG.nd rfl (Or.inl rfl))
   (@au _ _ _ (@bC _ _ _ _ _ _ _ _ (aK cQ (aV cLTimes hr (by decide) rfl (@aa _ _ _ _ _ (pv 0) (@aa _ _ _ _ _ (@aH _ _ _ _ _ _ _ aI (pv 1) (@aT _ _ _ _ _ _ _ _ cY (pv 2) ak) (λ_ _=>rfl)) (@aa _ _ _ _ _ (@aH _ _ _ _ _ _ _ aI (pv 1) (pv 2) (λ_ _=>rfl)) ah rfl) rfl) rfl)) ak (aS _)) (@au _ _ _ (@aL _ _ _ _ hZ)) aR)) (λ_=>rfl))
  (@au _ _ _ (@aL _ _ _ _ hZ))))),?_⟩
 obtain ⟨t,e1,e2⟩:=W.at'
 have lz:(Z.map V.int).length=Z.length:=CG _
 have pos:=FA.mpr R.ne
 have l2:=bZ R.nd R.rng
 refine ⟨_,rfl,p,_,rfl,.inr (SqT.of ep),rfl,_,rfl,?_⟩
 rw[lz,decide_eq_false (by intro z;injection z with z;lia)]
 refine bM ⟨_,rfl,p,Z,rfl,.inr (SqT.of ep),by lia,λa us ha mu nu lu =>?_⟩
 have ga:=af ha (eR w a (us.map V.int))
 have lus:=wg nu R.nd mu
 refine ⟨a,us.map V.int,rfl,ag,by rw[CG];lia,?_⟩
 generalize upd H a (eR w a (us.map V.int))=H1 at ga
 refine ⟨_,rfl,p,_,rfl,.inr (SqT.of (ga _ _ ep)),rfl,_,rfl,?_⟩
 rw[lz,CG,lus]
 refine kX rfl ?_
 have ep1:=ga _ _ ep
 have W1:=W.same ga
 refine ⟨_,rfl,p,rfl,⟨_,SqT.of ep1⟩,dR (xs:=Z.map V.int) (λi ys H'=>H'=H1/\ys=((Z.take i).map λ_=>true).map V.bl) ⟨rfl,rfl⟩ (by rw[CG];exact small (by lia)) (λi ys H' _ z=>by rw[z.1];exact SqT.of ep1) ?_ ?_⟩
 ·rintro i x ys H3 hx hy ⟨eH,rfl⟩ R1 R0 r1 r0
  obtain ⟨v,ev,rfl⟩:=fV hx
  obtain ⟨v0,v1⟩:=R.rng v (CT ev)
  refine bF ⟨_,rfl,_,_,rfl,rfl,_,rfl,?_⟩
  rw[decide_eq_true v0]
  refine bF ⟨_,rfl,r,_,0,_,rfl,rfl,SqT.of (by rw[eH];exact ga _ _ e1),rfl,_,_,rfl,rfl,?_⟩
  dsimp only
  rw[decide_eq_true v1]
  refine r1 _ _ ⟨eH,?_⟩
  rw[take_snoc (f:=λ_:Int=>true) ev,C2];rfl
 rintro ys H3 hy ⟨eH,rfl⟩ l hl
 rw[eH] at hl ⊢
 rw[CG,C7 (CO _)]
 have g4:=af hl (.lst ((Z.map λ_=>true).map V.bl))
 refine ⟨l,_,rfl,SqL.of ag,_,rfl,?_⟩
 rw[show (Z.map λ_=>true).all id=true by simp]
 refine bM ?_
 generalize upd H1 l (.lst ((Z.map λ_=>true).map V.bl))=H4 at g4
 have ep4:=g4 _ _ ep1
 have W4:=W1.same g4
 have s4:=ga.trans g4
 refine ⟨_,rfl,p,_,rfl,.inr (SqT.of ep4),_,_,rfl,rfl,_,rfl,?_⟩
 rw[lz]
 by_cases h3:Z.length<3
 ·rw[decide_eq_true (show (Z.length:Int)<3 by lia)]
  obtain ⟨x,y,ax,ay,hc⟩:=R.few h3
  refine bF ⟨_,rfl,_,rfl,p,_,0,_,rfl,rfl,SqT.of ep4,ax,_,rfl,1,rfl,p,_,(-1:Int),_,rfl,rfl,SqT.of ep4,ay,cC.mpr ⟨r,m,x,y,ts,rfl,W4,λH5 s5 =>?_⟩⟩
  refine ⟨_,rfl,p,_,rfl,.inr (SqT.of (s5 _ _ ep4)),_,_,rfl,rfl,?_⟩
  have:=q _ (s4.trans s5)
  rw[<- decide_eq_true (show (((ts.map (·.2)).count (nrm x y):Nat):Int)≥(((Z.map V.int).length:Nat):Int) by rw[lz];lia)] at this
  exact this
 ·rw[decide_eq_false (show ¬ (Z.length:Int)<3 by lia)]
  refine bM ⟨_,rfl,p,_,rfl,.inr (SqT.of ep4),_,rfl,by lia,by lia,?_⟩
  rw[lz]
  refine bL (n:=Z.length) (λk σ H'=>(∃c2,σ=[some (.ref r),some (.ref p),c2])/\aE H4 H') ⟨⟨_,rfl⟩,aE.refl _⟩ ?_ ?_
  ·rintro k σ H5 hk ⟨⟨c2,rfl⟩,s5⟩
   have ey:Z[k]? = some (Z[k]'hk):=CI hk
   obtain ⟨x,ax,td⟩:=R.next ey
   have ep5:=s5 _ _ ep4
   have e0:(0:Int)+(k:Int)-1=(k:Int)-1:=by lia
   refine ⟨_,rfl,_,rfl,_,rfl,_,_,rfl,rfl,p,_,_,_,rfl,rfl,SqT.of ep5,by rw[e0];exact ax,_,rfl,_,rfl,p,_,_,_,rfl,rfl,SqT.of ep5,by rw[GX];exact cD (by rw[CU,ey];rfl),cC.mpr ⟨r,m,_,_,ts,rfl,W4.same s5,λH6 s6 =>?_⟩⟩
   refine ⟨rfl,_,rfl,?_⟩
   rw[decide_eq_false (by intro z;injection z with z;have:=EE.mpr (show nrm x (Z[k]'hk)∈ts.map (·.2) from td);lia)]
   exact bM ⟨⟨_,rfl⟩,s5.trans s6⟩
  ·rintro σ H5 ⟨⟨c2,rfl⟩,s5⟩
   exact q _ (s4.trans s5)
end
abbrev rO:Sp:=λvs H Q _=>∃(p:Addr) (Z:List Int),vs=[.ref p]/\H p=some (.tup (Z.map V.int))/\we Z/\Z.length<=200/\∀(z:Addr) (H':Hp),aE H H'->H' z=some (.tup (Z.map V.int))->Q (.ref z) H'
@[irreducible] def kD:Sp:=rO
theorem gG {vs:List V}{H:Hp}{Q:VK}{E:XK}:kD vs H Q E↔rO vs H Q E:=by
 delta kD
 exact Fd
def TT (H:Hp)(us:List (Addr×List Int)):Prop:=∀u∈us,H u.1=some (.tup (u.2.map V.int))
theorem TT.same {H H':Hp}{us:List (Addr×List Int)}(h:TT H us)(s:aE H H'):TT H' us:=λu hu=>s _ _ (h u hu)
theorem TT.snoc {H:Hp}{us:List (Addr×List Int)}(h:TT H us){a:Addr}{Z:List Int}(e:H a=some (.tup (Z.map V.int))):TT H (us++[(a,Z)]):=λu hu=>by
 rcases CW.mp hu with z | z
 ·exact h u z
 ·rw[CQ] at z;subst z;exact e
theorem TT.put {H:Hp}{us:List (Addr×List Int)}(h:TT H us){l:Addr}{xs ys:List V}(e:H l=some (.lst xs)):TT (upd H l (.lst ys)) us:=λu hu=>by
 rw[aD (eG (h u hu) e (by intro z;cases z))];exact h u hu
theorem z4 (Z:List Int)(k:Nat):(rot Z k).length=Z.length:=(mB Z k).length_eq
section
variable  {P:De}{w:DN}{K:CM}{mg:Str->Option CJ}{base:Heap}{f T:Addr}{fd:Eh}
theorem kE:aO ["ring", "some", "k", "turned"] ["ring"] (aF tF):=⟨rfl,rfl,rfl,by decide +kernel,rfl,by decide +kernel,by decide +kernel⟩
theorem z5 (F:Fun K "_law_form" "_law_form" tF f fd)(B:Blt mg):bS P w K mg base CX0 1 f fd ["ring"] kD:=by
 refine F.ok kE (λvs H Q E h =>?_) (λcdv A outer s H vs Q E hr h =>?_)
 ·obtain ⟨_,_,rfl,_⟩:=gG.mp h
  rfl
 obtain ⟨p,Z,rfl,ep,C,l2,q⟩:=gG.mp h
 refine ⟨_,(@ai _ _ _ _ _ (@aM _ _ 1 _ _ _ _ kE.nd rfl (Or.inl rfl) (@bX _ _ _ _ ah) rfl (by first | exact .inl rfl | exact .inr rfl | assumption))
  (@ai _ _ _ _ _ (@bN _ _ _ _ _ _ _ _ DE rfl (bA rfl B.b_range (@aa _ _ _ _ _ (az aY rfl B.b_len eU (@aa _ _ _ _ _ (pv 0) ah rfl)) ah rfl)) (aq (i:=2) kE.nd rfl (Or.inl rfl))
   (@ai _ _ _ _ _ (@aM _ _ 3 _ _ _ _ kE.nd rfl (Or.inl rfl) (@aT _ _ _ _ _ _ _ _ kh (aJ cS rfl B.b_list dJ (@aa _ _ _ _ _ (du gQ (pv 0) (dG (pv 2)) fI) ah rfl)) (aJ cS rfl B.b_list dJ (@aa _ _ _ _ _ (du gQ (pv 0) fI (dG (pv 2))) ah rfl))) rfl (by first | exact .inl rfl | exact .inr rfl | assumption))
   (@ai _ _ _ _ _ (bI (cU Dq DK DL bD (pv 1) (@aa _ _ _ _ _ (aJ aX rfl B.b_tuple dA (@aa _ _ _ _ _ (pv 3) ah rfl)) ah rfl)))
   (@au _ _ _ (bI (cU Dq DK DL bD (pv 1) (@aa _ _ _ _ _ (aJ aX rfl B.b_tuple dA (@aa _ _ _ _ _ (@aT _ _ _ _ _ _ _ _ kh (@bX _ _ _ _ (@aa _ _ _ _ _ (@aH _ _ _ _ _ _ _ b8 (pv 3) ak (λ_ _=>rfl)) ah rfl)) (sV hr.hd rfl B.b_list rfl B.b_reversed (du t6 (pv 3) (dG ak) fI))) ah rfl)) ah rfl)))))) (λ_=>rfl))
  (@au _ _ _ (@aL _ _ _ _ (az (tm rfl (hu8 hr)) rfl B.b_min eV (@aa _ _ _ _ _ (pv 1) ah rfl)))))),?_⟩
 have lz:(Z.map V.int).length=Z.length:=CG _
 refine ⟨(by show 0<=C6;decide),λl hl =>?_⟩
 have g1:=af hl (.lst [])
 have el:upd H l (.lst []) l=some (.lst (([]:List (Addr×List Int)).map λu =>.ref u.1)):=ag
 have ep1:=g1 _ _ ep
 generalize upd H l (.lst [])=H1 at g1 el ep1
 refine ⟨_,rfl,p,_,rfl,.inr (SqT.of ep1),_,rfl,by lia,by lia,?_⟩
 rw[lz]
 let W0:Nat->St->Hp->Prop:=λk σ H'=>(∃c2 c3,σ=[some (.ref p),some (.ref l),c2,c3])/\aE H H'/\∃us,H' l=some (.lst (us.map λu =>.ref u.1))/\TT H' us/\us.map (·.2)=alt Z k
 refine bL (n:=Z.length) W0 ⟨⟨_,_,rfl⟩,g1,[],el,λu h=>(by cases h),rfl⟩ ?_ ?_
 ·rintro k σ H2 hk ⟨⟨c2,c3,rfl⟩,s2,us,el2,tu,eu⟩
  have ep2:=s2 _ _ ep
  refine ⟨_,rfl,_,rfl,_,rfl,p,_,rfl,ep2,λp1 H3 s3 e3=>⟨p1,_,rfl,.inr (SqT.of e3),λa1 ha1 =>?_⟩⟩
  rw[GX,mw _ (by rw[lz];lia), <- G5] at e3
  have g3:=af ha1 (.lst ((Z.drop k).map V.int))
  have ea1:upd H3 a1 (.lst ((Z.drop k).map V.int)) a1=some (.lst ((Z.drop k).map V.int)):=ag
  rw[GX,mw _ (by rw[lz];lia), <- G5]
  have s23:=s3.trans g3
  generalize upd H3 a1 (.lst ((Z.drop k).map V.int))=H4 at g3 ea1 s23
  refine ⟨_,rfl,_,rfl,_,rfl,p,_,rfl,s23 _ _ ep2,λp2 H5 s5 e5=>⟨p2,_,rfl,.inr (SqT.of e5),λa2 ha2 =>?_⟩⟩
  rw[tJ _ (by rw[lz];lia), <- Io]
  have g5:=af ha2 (.lst ((Z.take k).map V.int))
  have ea2:upd H5 a2 (.lst ((Z.take k).map V.int)) a2=some (.lst ((Z.take k).map V.int)):=ag
  have s25:=s23.trans (s5.trans g5)
  have ea1':=g5 _ _ (s5 _ _ ea1)
  generalize upd H5 a2 (.lst ((Z.take k).map V.int))=H6 at g5 ea2 s25 ea1'
  have lr:(rot Z k).length=Z.length:=z4 Z k
  refine ⟨a1,a2,_,_,rfl,rfl,SqL.of ea1',SqL.of ea2,by rw[CG,CG,Es,Eb];exact small (by lia),λtu1 htu =>?_⟩
  rw[<- C2,show Z.drop k++Z.take k=rot Z k from rfl]
  have g7:=af htu (.lst ((rot Z k).map V.int))
  have etu:upd H6 tu1 (.lst ((rot Z k).map V.int)) tu1=some (.lst ((rot Z k).map V.int)):=ag
  have s27:=s25.trans g7
  generalize upd H6 tu1 (.lst ((rot Z k).map V.int))=H7 at g7 etu s27
  have el7:=s27 _ _ el2
  have hl7:H l=none:=hl
  refine ⟨_,rfl,.inl ⟨rfl,_,SqL.of el7⟩,_,rfl,tu1,_,rfl,.inl ⟨SqL.of etu,λt1 ht1 =>?_⟩⟩
  have g8:=af ht1 (.tup ((rot Z k).map V.int))
  have et1:upd H7 t1 (.tup ((rot Z k).map V.int)) t1=some (.tup ((rot Z k).map V.int)):=ag
  have s28:=s27.trans g8
  have el8:=g8 _ _ el7
  have etu8:=g8 _ _ etu
  generalize upd H7 t1 (.tup ((rot Z k).map V.int))=H8 at g8 et1 s28 el8 etu8
  have lus:us.length=2*k:=by rw[<- pO Z k, <- eu,CG]
  refine ⟨l,_,_,rfl,rfl,el8,by rw[CG];exact bE (by lia),?_⟩
  have tu8:TT (upd H8 l (.lst (us.map (λu=>V.ref u.1)++[.ref t1]))) (us++[(t1,rot Z k)]):=((tu.same s28).snoc et1).put el8
  have el9:upd H8 l (.lst (us.map (λu=>V.ref u.1)++[.ref t1])) l=some (.lst ((us++[(t1,rot Z k)]).map λu =>.ref u.1)):=by rw[ag,C2];rfl
  have s9:=aE.bG (s2.trans s28) hl7 (.lst (us.map (λu=>V.ref u.1)++[.ref t1]))
  have etu9:upd H8 l (.lst (us.map (λu=>V.ref u.1)++[.ref t1])) tu1=some (.lst ((rot Z k).map V.int)):=by rw[aD (D8 (aB (s25 _ _ el2) htu))];exact etu8
  generalize upd H8 l (.lst (us.map (λu=>V.ref u.1)++[.ref t1]))=H9 at tu8 el9 s9 etu9
  have er:=mz (CI hk)
  generalize Z.drop (k+1)++Z.take k=rest at er
  rw[er] at etu9 lr
  have lrest:rest.length+1=Z.length:=lr
  refine ⟨_,rfl,.inl ⟨rfl,_,SqL.of el9⟩,_,rfl,tu1,_,0,.int Z[k],rfl,rfl,SqL.of etu9,cD (j:=0) rfl,(by show 1<=C6;decide),λb1 hb1 =>?_⟩
  have g10:=af hb1 (.lst [.int Z[k]])
  have eb1:upd H9 b1 (.lst [.int Z[k]]) b1=some (.lst [.int Z[k]]):=ag
  have etu10:=g10 _ _ etu9
  generalize upd H9 b1 (.lst [.int Z[k]])=H10 at g10 eb1 etu10
  refine ⟨_,rfl,1,rfl,tu1,_,rfl,SqL.of etu10,λb2 hb2 =>?_⟩
  rw[show fX ((Z[k] :: rest).map V.int) (some 1) none=((Z[k] :: rest).map V.int).drop 1 from mw (k:=1) _ (by simp), <- G5,show (Z[k] :: rest).drop 1=rest from rfl]
  have g11:=af hb2 (.lst (rest.map V.int))
  have eb2:upd H10 b2 (.lst (rest.map V.int)) b2=some (.lst (rest.map V.int)):=ag
  have eb1':=g11 _ _ eb1
  generalize upd H10 b2 (.lst (rest.map V.int))=H11 at g11 eb2 eb1'
  refine ⟨b2,_,rfl,SqL.of eb2,by rw[CG];lia,λb3 hb3 =>?_⟩
  rw[<- Lp]
  have g12:=af hb3 (.lst (rest.reverse.map V.int))
  have eb3:upd H11 b3 (.lst (rest.reverse.map V.int)) b3=some (.lst (rest.reverse.map V.int)):=ag
  have eb1'':=g12 _ _ eb1'
  generalize upd H11 b3 (.lst (rest.reverse.map V.int))=H12 at g12 eb3 eb1''
  refine ⟨b1,b3,_,_,rfl,rfl,SqL.of eb1'',SqL.of eb3,by rw[CG,EM];exact small (by show 1+_<=_;lia),λb4 hb4 =>?_⟩
  rw[show ([V.int Z[k]]++rest.reverse.map V.int:List V)=(turn (rot Z k)).map V.int by rw[er];rfl]
  have g13:=af hb4 (.lst ((turn (rot Z k)).map V.int))
  have eb4:upd H12 b4 (.lst ((turn (rot Z k)).map V.int)) b4=some (.lst ((turn (rot Z k)).map V.int)):=ag
  generalize upd H12 b4 (.lst ((turn (rot Z k)).map V.int))=H13 at g13 eb4
  refine ⟨b4,_,rfl,.inl ⟨SqL.of eb4,λt2 ht2 =>?_⟩⟩
  have g14:=af ht2 (.tup ((turn (rot Z k)).map V.int))
  have et2:upd H13 t2 (.tup ((turn (rot Z k)).map V.int)) t2=some (.tup ((turn (rot Z k)).map V.int)):=ag
  have s14:=g10.trans (g11.trans (g12.trans (g13.trans g14)))
  generalize upd H13 t2 (.tup ((turn (rot Z k)).map V.int))=H14 at g14 et2 s14
  have el14:=s14 _ _ el9
  refine ⟨l,_,_,rfl,rfl,el14,by rw[CG,CL];exact bE (by show _+1<=_;lia),⟨_,_,rfl⟩,aE.bG (s9.trans s14) hl7 _,us++[(t1,rot Z k)]++[(t2,turn (rot Z k))],by rw[ag,C2,C2,C2];rfl,((tu8.same s14).snoc et2).put el14,?_⟩
  rw[C2,C2,eu,rJ,DD];rfl
 ·rintro σ H2 ⟨⟨c2,c3,rfl⟩,s2,us,el2,tu,eu⟩
  have lus:us.length=2*Z.length:=by rw[<- pO Z Z.length, <- eu,CG]
  refine ⟨_,rfl,l,us,rfl,SqL.of el2,λu hu=>SqT.of (tu u hu),λz =>?_,λu hu mn =>?_⟩
  ·have:=FA.mpr C.ne
   rw[z] at lus;simp at lus;lia
  ·have:u.2=Z:=yz C (by rw[<- eu];exact Ep (f:=(·.2)) hu) λq hq=>by
    rw[<- eu] at hq
    obtain ⟨v,hv,rfl⟩:=Du.mp hq
    exact mn v hv
   exact q u.1 H2 s2 (by rw[<- this];exact tu u hu)
end
open PySem L2
abbrev u3:Sp:=λvs H Q _=>∃(r:Addr) (m:Nat) (ts:List (Addr×List Int)),vs=[.ref r]/\Wb H r m ts/\m<=200/\∀(l:Addr) (H':Hp) (G:List Int),aE H H'->H l=none->H' l=some (.lst (G.map V.int))->Pld (ts.map (·.2)) G->(∀v∈G,0<=v/\v<m)->(∀v:Int,0<=v/\v<m->v∉G->2<=aP ((ts.map (·.2)).filter (off G)) v)->oF m (ts.map (·.2)) G->Q (.ref l) H'
@[irreducible] def pP:Sp:=u3
theorem iG {vs:List V}{H:Hp}{Q:VK}{E:XK}:pP vs H Q E↔u3 vs H Q E:=by
 delta pP
 exact Fd
def dsl (R:List Int):List (Int×V):=R.map λk=>(k,V.bl true)
theorem rP (R:List Int):(dsl R).map (·.1)=R:=by unfold dsl;rw[FJ];exact List.map_id' R
theorem yH (R:List Int)(v:Int):dsl (R++[v])=dsl R++[(v,.bl true)]:=by unfold dsl;rw[C2];rfl
theorem pQ (R:List Int):(mp (dsl R)).length=R.length:=by unfold mp dsl;rw[CG,CG]
theorem BH (R:List Int):(mp (dsl R)).map (·.1)=R.map Sum.inl:=by unfold mp dsl;rw[FJ,FJ];rfl
theorem tO {m:Nat}{i:Nat}(h:i<m):(rgI m)[i]? = some (i:Int):=by unfold rgI;rw[CU,GB h];rfl
theorem pS (m:Nat):(rgI m).length=m:=by unfold rgI;simp
def PA (H H1:Hp)(r n cl rl gd:Addr)(m:Nat)(ts os:List (Addr×List Int))(σ:St)(H':Hp):Prop:=∃(c5 c6:Option V) (G Y C:List Int) (k:Nat),σ=[some (.ref r),some (.ref n),some (.ref cl),some (.ref rl),some (.ref gd),c5,c6]/\aE H H'/\aE H1 H'/\H' cl=some (.lst (C.map V.int))/\H' rl=some (.lst (Y.map V.int))/\H' gd=some (.dK (mp (dsl G)))/\PI m (ts.map (·.2)) G Y C/\itP (gC (os.map (·.2))) (rd0 (ts.map (·.2)) m,ct0 (ts.map (·.2)) m) k=((Y,C),G)/\∀j,j<k->(itP (gC (os.map (·.2))) (rd0 (ts.map (·.2)) m,ct0 (ts.map (·.2)) m) j).1.1≠[]
def PB (H H1:Hp)(r n cl rl gd:Addr)(m pn:Nat)(ts:List (Addr×List Int))(uu:Addr×List Int)(G Y' C:List Int)(j:Nat)(σ:St)(H':Hp):Prop:=∃(c6:Option V) (Y5 C5:List Int),σ=[some (.ref r),some (.ref n),some (.ref cl),some (.ref rl),some (.ref gd),some (.int pn),c6]/\aE H H'/\aE H1 H'/\H' cl=some (.lst (C5.map V.int))/\H' rl=some (.lst (Y5.map V.int))/\H' gd=some (.dK (mp (dsl (G++[(pn:Int)]))))/\PJ m (ts.map (·.2)) G pn (uu.2.take j) Y5 C5/\(uu.2.take j).foldl (pin (G++[(pn:Int)])) (Y',C)=(Y5,C5)
section
variable  {P:De}{w:DN}{K:CM}{mg:Str->Option CJ}{base:Heap}{f T:Addr}{fd:Eh}
theorem bO:aO ["web", "near", "counts", "ready", "gone", "place", "other"] ["web"] (aF dr):=⟨rfl,rfl,rfl,by decide +kernel,rfl,by decide +kernel,by decide +kernel⟩
theorem eY:(["place", "web"]:List Str).Nodup:=by decide +kernel
theorem dP:(["place", "counts"]:List Str).Nodup:=by decide +kernel
theorem mE (F:Fun K "peeled_places" "peeled_places" dr f fd)(B:Blt mg)(cNearLists:Cal P w K mg base 1 "near_lists" ["web"] gS)(cTiesAt:Cal P w K mg base 1 "ties_at" ["web", "place"] zN):bS P w K mg base CX0 2 f fd ["web"] pP:=by
 refine F.ok bO (λvs H Q E h =>?_) (λcdv A outer s H vs Q E hr h =>?_)
 ·obtain ⟨_,_,_,rfl,_⟩:=iG.mp h
  rfl
 obtain ⟨r,m,ts,rfl,W,m2,q⟩:=iG.mp h
 have hu:(oO CX0 P w K mg base ["web", "near", "counts", "ready", "gone", "place", "other"] "peeled_places" (aF dr) f cdv A outer s H E).nox.A.units+1<cLine:=qo hr
 refine ⟨_,(@ai _ _ _ _ _ (@aM _ _ 1 _ _ _ _ bO.nd rfl (Or.inl rfl) (aV cNearLists hr (by decide) rfl (@aa _ _ _ _ _ (pv 0) ah rfl)) rfl (by first | exact .inl rfl | exact .inr rfl | assumption))
  (@ai _ _ _ _ _ (@aM _ _ 2 _ _ _ _ bO.nd rfl (Or.inr rfl) (bT ["place", "web"] [none,some 0] rfl (bA rfl B.b_range (@aa _ _ _ _ _ (@aH _ _ _ _ _ _ _ aI (pv 0) ak (λ_ _=>rfl)) ah rfl)) rfl (λ_ _ _ _ _=>(aq (i:=0) eY rfl (Or.inl rfl))) (λ_ _ _ _ _=>cG) (λ_ _ _ _ _=>(aV cTiesAt hr (by decide) rfl (@aa _ _ _ _ _ (pv 1) (@aa _ _ _ _ _ (pv 0) ah rfl) rfl)))) rfl (by first | exact .inl rfl | exact .inr rfl | assumption))
  (@ai _ _ _ _ _ (dZ (i:=3) ["place", "counts"] [none,some 2] rfl bO.nd rfl rfl (bA rfl B.b_range (@aa _ _ _ _ _ (@aH _ _ _ _ _ _ _ aI (pv 0) ak (λ_ _=>rfl)) ah rfl)) rfl (λ_ _ _ _ _=>(aq (i:=0) dP rfl (Or.inl rfl))) (λ_ _ _ _ _=>(jC (aK Ae (@aH _ _ _ _ _ _ _ (lb (K:=K)) (pv 1) (pv 0) (λ_ _=>rfl)) ak (aS _)))) (λ_ _ _ _ _=>(pv 0)))
  (@ai _ _ _ _ _ (@aM _ _ 4 _ _ _ _ bO.nd rfl (Or.inl rfl) lR rfl (by first | exact .inl rfl | exact .inr rfl | assumption))
  (@ai _ _ _ _ _ (iM DE (kQ (pv 3) (λ_=>rfl))
   (@ai _ _ _ _ _ (@aM _ _ 5 _ _ _ _ bO.nd rfl (Or.inl rfl) (wR Dq GV GW wU (pv 3)) rfl (by first | exact .inl rfl | exact .inr rfl | assumption))
   (@ai _ _ _ _ _ (i7 hu (pv 4) (pv 5) hZ rfl)
   (@au _ _ _ (@bN _ _ _ _ _ _ _ _ DE rfl (@bR _ _ _ _ (@aH _ _ _ _ _ _ _ b8 (pv 1) (pv 5) (λ_ _=>rfl))) (aq (i:=6) bO.nd rfl (Or.inl rfl))
    (@au _ _ _ (@bC _ _ _ _ _ _ _ _ (fZ (dS hu (pv 6) (pv 4))) (@ai _ _ _ _ _ (yO (pv 2) (pv 6) vU ak AQ set_list)
     (@au _ _ _ (@bC _ _ _ _ _ _ _ _ (aK cQ (@aH _ _ _ _ _ _ _ b8 (pv 2) (pv 6) (λ_ _=>rfl)) ak (aS _)) (@au _ _ _ (bI (cU Dq DK DL bD (pv 3) (@aa _ _ _ _ _ (pv 6) ah rfl)))) aR))) aR)) (λ_=>rfl))))))
  (@au _ _ _ (@aL _ _ _ _ (aJ (sW hr.hd) rfl B.b_list dJ (@aa _ _ _ _ _ (pv 4) ah rfl))))))))),?_⟩
 obtain ⟨t,e1,e2⟩:=W.at'
 have O:=jj W
 refine ⟨_,rfl,dB.mpr ⟨r,m,ts,rfl,W,by lia,by lia,λn H1 os s1 en lo ro iso =>?_⟩⟩
 have RD:my m (ts.map (·.2)) (os.map (·.2)):=⟨by rw[CG,lo];lia,λj r e=>by
  rw[CU] at e
  obtain ⟨u,eu,rfl⟩:=Fu.mp e
  exact iso j u eu⟩
 refine ⟨_,rfl,r,_,0,_,rfl,rfl,SqT.of (s1 _ _ e1),rfl,m,rfl,by lia,by lia,cK (lo:=0) (n:=m) (λi ys H'=>aE H1 H'/\ys=(((rgI m).take i).map (aP (ts.map (·.2)))).map V.int) ⟨aE.refl _,rfl⟩ (small (by lia)) ?_ ?_⟩
 ·rintro i ys H2 hi hy ⟨s2,rfl⟩ R1 R0 r1 r0
  refine bF ⟨_,rfl,_,rfl,mh.mpr ⟨r,m,0+(i:Int),ts,rfl,(W.same s1).same s2,λH3 s3=>r1 _ _ ⟨s2.trans s3,?_⟩⟩⟩
  rw[take_snoc (f:=aP (ts.map (·.2))) (tO hi),C2,GX];rfl
 rintro ys H2 hy ⟨s2,rfl⟩ cl hcl
 rw[C7 (by rw[pS];exact CO _),show (rgI m).map (aP (ts.map (·.2)))=ct0 (ts.map (·.2)) m from rfl]
 have s12:=s1.trans s2
 have hcl0:=s12.free hcl
 have g3:=af hcl (.lst ((ct0 (ts.map (·.2)) m).map V.int))
 have ec:upd H2 cl (.lst ((ct0 (ts.map (·.2)) m).map V.int)) cl=some (.lst ((ct0 (ts.map (·.2)) m).map V.int)):=ag
 have s3:=s12.trans g3
 generalize upd H2 cl (.lst ((ct0 (ts.map (·.2)) m).map V.int))=H3 at g3 ec s3
 have en3:=g3 _ _ (s2 _ _ en)
 have lc0:(ct0 (ts.map (·.2)) m).length=m:=by unfold ct0;rw[CG,pS]
 let W0:Nat->List V->Hp->Prop:=λi ys H'=>H'=H3/\ys=(((rgI m).take i).filter λv=>decide (aP (ts.map (·.2)) v<=1)).map V.int
 refine ⟨_,rfl,r,_,0,_,rfl,rfl,SqT.of (s3 _ _ e1),rfl,m,rfl,by lia,by lia,cK (lo:=0) (n:=m) W0 ⟨rfl,rfl⟩ (small (by lia)) ?_ ?_⟩
 ·rintro i ys H4 hi hy ⟨eH,rfl⟩ R1 R0 r1 r0
  have at':atI ((ct0 (ts.map (·.2)) m).map V.int) (0+(i:Int))=some (.int (aP (ts.map (·.2)) (i:Int))):=by
   rw[GX]
   refine cD ?_
   unfold ct0
   rw[CU,CU,tO hi];rfl
  have tk:((rgI m).take (i+1)).filter (λv=>decide (aP (ts.map (·.2)) v<=1))=((rgI m).take i).filter (λv=>decide (aP (ts.map (·.2)) v<=1))++if aP (ts.map (·.2)) (i:Int)<=1 then [(i:Int)] else []:=by
   rw[Ee,tO hi,GO]
   congr 1
   by_cases c:aP (ts.map (·.2)) (i:Int)<=1
   ·rw[if_pos c];simp[c]
   ·rw[if_neg c];simp[c]
  refine ⟨_,rfl,_,rfl,cl,_,_,_,rfl,rfl,SqL.of (by rw[eH];exact ec),at',_,_,rfl,rfl,_,rfl,?_⟩
  by_cases c:aP (ts.map (·.2)) (i:Int)<=1
  ·rw[decide_eq_true c]
   exact bF ⟨_,rfl,r1 _ _ ⟨eH,by rw[tk,if_pos c,C2,GX];rfl⟩⟩
  ·rw[decide_eq_false c]
   exact bM (r0 _ ⟨eH,by rw[tk,if_neg c,DU]⟩)
 rintro ys H4 hy ⟨eH,rfl⟩ rl hrl
 rw[eH] at hrl ⊢
 rw[C7 (by rw[pS];exact CO _),show ((rgI m).filter λv=>decide (aP (ts.map (·.2)) v<=1))=rd0 (ts.map (·.2)) m from rfl]
 have hrl0:=s3.free hrl
 have g4:=af hrl (.lst ((rd0 (ts.map (·.2)) m).map V.int))
 have er:upd H3 rl (.lst ((rd0 (ts.map (·.2)) m).map V.int)) rl=some (.lst ((rd0 (ts.map (·.2)) m).map V.int)):=ag
 have ec4:=g4 _ _ ec
 have en4:=g4 _ _ en3
 have ncr:cl≠rl:=aB ec hrl
 have s4:=s3.trans g4
 have s14:aE H1 (upd H3 rl (.lst ((rd0 (ts.map (·.2)) m).map V.int))):=s2.trans (g3.trans g4)
 have hcl1:=s2.free hcl
 have hrl1:=(s2.trans g3).free hrl
 generalize upd H3 rl (.lst ((rd0 (ts.map (·.2)) m).map V.int))=H5 at g4 er ec4 en4 s4 s14
 refine λgd hgd =>?_
 have hgd0:=s4.free hgd
 have hgd1:=s14.free hgd
 have g6:=af hgd (.dK [])
 have eg:upd H5 gd (.dK []) gd=some (.dK (mp (dsl []))):=ag
 have er6:=g6 _ _ er
 have ec6:=g6 _ _ ec4
 have s6:=s14.trans g6
 have s06:=s4.trans g6
 generalize upd H5 gd (.dK [])=H6 at g6 eg er6 ec6 s6 s06
 have near:∀{H':Hp},aE H1 H'->∀{pn:Nat} {u:Addr×List Int},os[pn]? = some u->H' n=some (.lst (os.map λu =>.ref u.1))/\H' u.1=some (.lst (u.2.map V.int)):=λ{H'} s {pn u} eu=>⟨s _ _ en,s _ _ (ro u (CT eu))⟩
 have kl:∀{G Y C:List Int},PI m (ts.map (·.2)) G Y C->G.length<=m:=λI=>bZ I.pld.1 I.rg
 dsimp only[eZ,yN]
 refine iN (PA H H1 r n cl rl gd m ts os)
  (λ_ H'=>m+1-j9 H' gd) ⟨_,_,[],_,_,0,rfl,s06,s6,ec6,er6,eg,PI.start _ m,rfl,λj hj=>absurd hj (Gs _)⟩ ?_ ?mono
 case mono=>rintro σ H Q Q' h ⟨v,e,k,t,q⟩;exact ⟨v,e,k,t,h _ _ q⟩
 rintro σ H7 ⟨c5,c6,G,Y,C,kk,rfl,s7,s17,ec7,er7,eg7,I,ekk,nst⟩
 have kG:=kl I
 refine ⟨_,rfl, !(Y.map V.int).isEmpty,.inl ⟨_,SqL.of er7,rfl⟩,?_⟩
 rcases Ge Y with hY | ⟨Y',p,hY⟩
 ·subst hY
  refine bM ⟨_,rfl,gd,_,G,rfl,eg7,BH G,λl hl =>?_⟩
  refine q l _ G (s7.trans (af hl _)) (s7.free hl) ag I.pld I.rg (λv hv nv =>?_) ⟨_,RD,kk,by rw[ekk],by rw[ekk],nst⟩
  rcases Int.lt_or_le (aP ((ts.map (·.2)).filter (off G)) v) 2 with z | z
  ·have:=(I.yiff v).mpr ⟨hv,nv,by lia⟩
   cases this
  ·exact z
 rw[Gf] at hY
 subst hY
 rw[show (!(List.map V.int (Y'++[p])).isEmpty)=true by simp]
 obtain ⟨rp,np,cp⟩:=(I.yiff p).mp (by simp)
 obtain ⟨pn,rfl⟩:∃k:Nat,p=k:=⟨p.toNat,by lia⟩
 refine bF ⟨_,rfl,.inl ⟨rfl,_,SqL.of er7⟩,rl,_,.int pn,rfl,rfl,er7,?_,?_⟩
 ·rw[C2,CL];simp
 rw[show (List.map V.int (Y'++[(pn:Int)])).dropLast=Y'.map V.int by rw[C2];exact J4]
 have er8:upd H7 rl (.lst (Y'.map V.int)) rl=some (.lst (Y'.map V.int)):=ag
 have ec8:upd H7 rl (.lst (Y'.map V.int)) cl=some (.lst (C.map V.int)):=by rw[aD ncr];exact ec7
 have eg8:upd H7 rl (.lst (Y'.map V.int)) gd=some (.dK (mp (dsl G))):=by rw[aD (eG eg7 er7 (by intro z;cases z))];exact eg7
 have s8:=aE.bG s7 hrl0 (.lst (Y'.map V.int))
 have s18:=aE.bG s17 hrl1 (.lst (Y'.map V.int))
 generalize upd H7 rl (.lst (Y'.map V.int))=H8 at er8 ec8 eg8 s8 s18
 have hput:lQ H8 gd (.int pn) (.bl true) (upd H8 gd (.dK (putK (mp (dsl G)) (Sum.inl (pn:Int)) (.bl true)))):=lQ.k (k:=Sum.inl (pn:Int)) eg8 (by rw[pQ];exact iE (by lia))
 rw[tI (by rw[rP];exact np), <- yH] at hput
 refine ⟨_,rfl,_,rfl,gd,_,rfl,hput,?_⟩
 have eg9:upd H8 gd (.dK (mp (dsl (G++[(pn:Int)])))) gd=some (.dK (mp (dsl (G++[(pn:Int)])))):=ag
 have er9:upd H8 gd (.dK (mp (dsl (G++[(pn:Int)])))) rl=some (.lst (Y'.map V.int)):=by rw[aD (eG er8 eg8 (by intro z;cases z))];exact er8
 have ec9:upd H8 gd (.dK (mp (dsl (G++[(pn:Int)])))) cl=some (.lst (C.map V.int)):=by rw[aD (eG ec8 eg8 (by intro z;cases z))];exact ec8
 have s9:=aE.bG s8 hgd0 (.dK (mp (dsl (G++[(pn:Int)]))))
 have s19:=aE.bG s18 hgd1 (.dK (mp (dsl (G++[(pn:Int)]))))
 generalize upd H8 gd (.dK (mp (dsl (G++[(pn:Int)]))))=H9 at eg9 er9 ec9 s9 s19
 have pl:pn<os.length:=by lia
 obtain ⟨uu,eu⟩:∃u,os[pn]? = some u:=⟨_,CI pl⟩
 have isu:=iso pn _ eu
 have enb:gC (os.map (·.2)) (pn:Int)=uu.2:=by unfold gC;rw[Ej,C0,CU,eu];rfl
 have gl:G.length<m:=by
  have:=bZ (df I.pld.1 np) (m:=m) λv hv=>by
   rcases CW.mp hv with z | z
   ·exact I.rg v z
   ·rw[CQ] at z;subst z;exact rp
  rw[CL] at this
  exact this
 refine ⟨_,rfl,_,rfl,n,_,(pn:Int),_,rfl,rfl,SqL.of (near s19 eu).1,cD (by rw[CU,eu];rfl),uu.1,rfl,⟨_,SqL.of (near s19 eu).2⟩,dY (xs:=uu.2.map V.int) (PB H H1 r n cl rl gd m pn ts uu G Y' C)
   ⟨_,Y',C,rfl,s9,s19,ec9,er9,eg9,I.pop,rfl⟩ (λj σ H' _ z =>?_) ?_ ?_⟩
 ·obtain ⟨_,_,_,_,_,s',_⟩:=z
  exact SqL.of (near s' eu).2
 ·rintro j x σ H10 hx ⟨c6,Y5,C5,rfl,s10,s110,ec10,er10,eg10,J,fo⟩
  obtain ⟨o,eo,rfl⟩:=fV hx
  have oin:o∈nbs (ts.map (·.2)) (pn:Int):=(isu.2 o).mp (CT eo)
  have ao:Adj (ts.map (·.2)) pn o:=oin
  have oro:=(ko O ao).2
  obtain ⟨on,rfl⟩:∃k:Nat,o=k:=⟨o.toNat,by lia⟩
  have tk:uu.2.take (j+1)=uu.2.take j++[(on:Int)]:=by rw[Ee,eo];rfl
  refine ⟨_,rfl,_,rfl,gd,_,rfl,fv.k (k:=Sum.inl (on:Int)) eg10,_,rfl,?_⟩
  rw[oB,rP]
  by_cases ho:(on:Int)∈G++[(pn:Int)]
  ·rw[decide_eq_true ho]
   exact bM ⟨_,Y5,C5,rfl,s10,s110,ec10,er10,eg10,by rw[tk];exact J.skip ho,by rw[cP eo,fo];unfold pin;rw[if_pos ho]⟩
  rw[decide_eq_false ho]
  have nD:(on:Int)∉uu.2.take j:=λz=>by
   obtain ⟨i,ei⟩:=DC.mp z
   rw[Eu] at ei
   split at ei
   ·rename_i hij
    have nd:uu.2.Nodup:=isu.1.imp λ{a b} h=>by lia
    have:=(Gu (by have:=(CP.mp ei).1;lia) nd).mp (ei.trans eo.symm)
    lia
   ·cases ei
  have nG:(on:Int)∉G:=λz=>ho (Dn _ z)
  have c1:1<=aP ((ts.map (·.2)).filter (off G)) on:=by
   obtain ⟨ne,td⟩:=(eX O).mp ao
   refine gZ (t:=nrm on pn) (eL _ _) (DX.mpr ⟨by rw[cu];exact td,?_⟩)
   rcases IS (on:Int) pn with y | y
   ·rw[b7 y];unfold off;simp[np,nG]
   ·rw[cu,b7 y];unfold off;simp[np,nG]
  have J2:=J.take oro ho nD c1
  have lC5:=J.clen
  have eC:(C5.map V.int)[on]? = some (.int (gt C5 on)):=by
   have:=Ay lC5 oro
   rw[Ej] at this
   rw[CU,this];rfl
  have lY5:Y5.length<=m:=bZ J.ynd λv hv=>((J.yiff v).mp hv).1
  have ix:ixN (C5.map V.int).length (on:Int)=some on:=by
   rw[CG];unfold ixN;simp;lia
  have fo2:(uu.2.take (j+1)).foldl (pin (G++[(pn:Int)])) (Y',C)=(if gt C5 on-1=1 then Y5++[(on:Int)] else Y5,C5.set on (gt C5 on-1)):=by
   rw[cP eo,fo];unfold pin;rw[if_neg ho,Ej]
  rw[Ej] at J2
  refine bF ⟨_,rfl,_,rfl,cl,_,on,_,rfl,rfl,SqL.of ec10,eC,_,_,rfl,rfl,cl,_,_,on,rfl,rfl,ec10,ix,?_⟩
  have ec11:upd H10 cl (.lst ((C5.map V.int).set on (.int (gt C5 on-1)))) cl=some (.lst ((C5.set on (gt C5 on-1)).map V.int)):=by rw[ag,L5]
  have er11:upd H10 cl (.lst ((C5.map V.int).set on (.int (gt C5 on-1)))) rl=some (.lst (Y5.map V.int)):=by rw[aD (D8 ncr)];exact er10
  have eg11:upd H10 cl (.lst ((C5.map V.int).set on (.int (gt C5 on-1)))) gd=some (.dK (mp (dsl (G++[(pn:Int)])))):=by rw[aD (eG eg10 ec10 (by intro z;cases z))];exact eg10
  have s11:=aE.bG s10 hcl0 (.lst ((C5.map V.int).set on (.int (gt C5 on-1))))
  have s111:=aE.bG s110 hcl1 (.lst ((C5.map V.int).set on (.int (gt C5 on-1))))
  generalize upd H10 cl (.lst ((C5.map V.int).set on (.int (gt C5 on-1))))=H11 at ec11 er11 eg11 s11 s111
  have e11:atI ((C5.set on (gt C5 on-1)).map V.int) (on:Int)=some (.int (gt C5 on-1)):=cD (by rw[CU,Ey (by lia)];rfl)
  refine ⟨_,rfl,_,rfl,cl,_,(on:Int),_,rfl,rfl,SqL.of ec11,e11,rfl,_,rfl,?_⟩
  by_cases c:gt C5 on-1=1
  ·rw[decide_eq_true (by rw[c])]
   rw[if_pos c] at J2 fo2
   exact bF ⟨_,rfl,.inl ⟨rfl,_,SqL.of er11⟩,_,rfl,rl,_,_,rfl,rfl,er11,by rw[CG];exact iE (by lia),_,Y5++[(on:Int)],_,rfl,aE.bG s11 hrl0 _,aE.bG s111 hrl1 _,by rw[aD ncr];exact ec11,by rw[ag,C2];rfl,by rw[aD (eG eg11 er11 (by intro z;cases z))];exact eg11,by rw[tk];exact J2,fo2⟩
  ·rw[decide_eq_false (by intro z;injection z with z;exact c z)]
   rw[if_neg c] at J2 fo2
   exact bM ⟨_,Y5,_,rfl,s11,s111,ec11,er11,eg11,by rw[tk];exact J2,fo2⟩
 ·rintro σ H10 ⟨c6,Y5,C5,rfl,s10,s110,ec10,er10,eg10,J,fo⟩
  rw[CG,C7 (CO _)] at J fo
  have I2:=J.done O I.pld I.rg rp np cp λx=>isu.2 x
  refine ⟨⟨_,_,G++[(pn:Int)],Y5,C5,kk+1,rfl,s10,s110,ec10,er10,eg10,I2,?_,λj hj =>?_⟩,?_⟩
  ·show ((gC (os.map (·.2)) ((itP _ _ kk).1.1.getLastD 0)).foldl (pin ((itP _ _ kk).2++[(itP _ _ kk).1.1.getLastD 0])) ((itP _ _ kk).1.1.dropLast,(itP _ _ kk).1.2),(itP _ _ kk).2++[(itP _ _ kk).1.1.getLastD 0])=_
   rw[ekk]
   have e1:(Y'++[(pn:Int)]).getLastD 0=pn:=by simp
   have e2:(Y'++[(pn:Int)]).dropLast=Y':=by simp
   dsimp only
   rw[e1,e2,enb,fo]
  ·rcases Fq j kk with z | z
   ·exact nst j z
   ·rw[show j=kk by lia,ekk];simp
  ·rw[ku eg10,ku eg7,pQ,pQ,CL]
   show m+1-(G.length+1)<m+1-G.length
   lia
end
open PySem L2
structure Grp (m:Nat)(ns:List (List Int))(G:List Int):Prop where
 len:G.length=m
 iff:∀u v:Int,0<=u/\u<m->0<=v/\v<m->(gt G u=gt G v↔Con ns u v)
theorem yI {m:Nat}{u:Int}(h:0<=u/\u<m):gt (rgI m) u=u:=by
 unfold gt rgI
 rw[C0,CU,GB (by lia)]
 show ((u.toNat:Nat):Int)=u
 lia
theorem Grp.start (m:Nat):Grp m [] (rgI m):=by
 refine ⟨by unfold rgI;simp,λu v hu hv =>?_⟩
 rw[yI hu,yI hv]
 refine ⟨λe=>e ▸ .refl _,λc =>?_⟩
 induction c with
 | refl=>rfl
 | step _ a _=>exact absurd a (by unfold Adj nbs;simp)
theorem Con.mono {ns ns':List (List Int)}(h:∀t∈ns,t∈ns'){u v:Int}(c:Con ns u v):Con ns' u v:=by
 induction c with
 | refl=>exact .refl _
 | step _ a ih =>
  obtain ⟨p,hp,hx⟩:=cF.mp a
  exact .step ih (cF.mpr ⟨p,h p hp,hx⟩)
def mrg (G:List Int)(a b:Int):List Int:=G.map λx=>if x=gt G b then gt G a else x
theorem pW {m:Nat}{G:List Int}(h:G.length=m){a b u:Int}(hu:0<=u/\u<m):gt (mrg G a b) u=if gt G u=gt G b then gt G a else gt G u:=by
 have e:G[u.toNat]? = some (gt G u):=by
  unfold gt
  rw[CI (by lia),C0,CI (by lia)];rfl
 show (mrg G a b).getD u.toNat 0=_
 unfold mrg
 rw[C0,CU,e];rfl
theorem z6 {m:Nat}{ns:List (List Int)}(O:Ok m ns){a b:Int}(a0:0<=a)(ab:a<=b)(bm:b<m):Ok m (ns++[[a,b]]):=λp hp=>by
 rcases CW.mp hp with z | z
 ·exact O p z
 ·rw[CQ] at z;exact ⟨a,b,z,a0,ab,bm⟩
theorem Grp.add {m:Nat}{ns:List (List Int)}(O:Ok m ns){G:List Int}(h:Grp m ns G){a b:Int}(a0:0<=a)(ab:a<=b)(bm:b<m):Grp m (ns++[[a,b]]) (mrg G a b):=by
 have O':=z6 O a0 ab bm
 have up:∀{u v:Int},Con ns u v->Con (ns++[[a,b]]) u v:=λc=>c.mono λt ht=>Dn _ ht
 have ha:0<=a/\a<m:=⟨a0,by lia⟩
 have hb:0<=b/\b<m:=⟨by lia,bm⟩
 have tie:Con (ns++[[a,b]]) a b:=by
  by_cases c:a=b
  ·subst c;exact .refl _
  ·exact .one ((cW O').mpr ⟨a,b,Dt _ (by simp),c,.inl ⟨rfl,rfl⟩⟩)
 refine ⟨by unfold mrg;rw[CG];exact h.len,λu v hu hv=>⟨λe =>?_,λc =>?_⟩⟩
 ·rw[pW h.len hu,pW h.len hv] at e
  by_cases c1:gt G u=gt G b
  ·have u1:=up ((h.iff u b hu hb).mp c1)
   rw[if_pos c1] at e
   by_cases c2:gt G v=gt G b
   ·exact u1.trans ((up ((h.iff v b hv hb).mp c2)).symm O')
   ·rw[if_neg c2] at e
    exact (u1.trans (tie.symm O')).trans (up ((h.iff a v ha hv).mp e))
  ·rw[if_neg c1] at e
   by_cases c2:gt G v=gt G b
   ·rw[if_pos c2] at e
    exact ((up ((h.iff u a hu ha).mp e)).trans tie).trans ((up ((h.iff v b hv hb).mp c2)).symm O')
   ·rw[if_neg c2] at e
    exact up ((h.iff u v hu hv).mp e)
 ·clear hv
  induction c with
  | refl=>rfl
  | step c1 aj ih =>
   rename_i x y
   have rx:=ko O' aj
   refine (ih).trans ?_
   obtain ⟨c,d,hp,ne,hx⟩:=(cW O').mp aj
   rw[pW h.len rx.1,pW h.len rx.2]
   rcases CW.mp hp with z | z
   ·have:gt G x=gt G y:=(h.iff x y rx.1 rx.2).mpr (.one ((cW O).mpr ⟨c,d,z,ne,hx⟩))
    rw[this]
   ·rw[CQ] at z
    cases z
    rcases hx with ⟨rfl,rfl⟩ | ⟨rfl,rfl⟩
    ·simp
    ·simp
theorem rQ:dO []:=λpre t post e=>by cases pre <;> cases e
theorem oH {E:List (List Int)}(w:dO E){a b:Int}(h:¬ Con E a b):dO (E++[[a,b]]):=λpre t post e x y et c=>by
 rcases Ge post with z | ⟨post',l,z⟩
 ·subst z
  obtain ⟨e1,e2⟩:=Lq e rfl
  cases e2
  cases et
  rw[e1] at h
  exact h c
 ·rw[Gf] at z
  subst z
  have e':E++[[a,b]]=(pre++t :: post')++[l]:=by rw[e];simp
  obtain ⟨e1,_⟩:=Lq e' rfl
  exact w pre t post' e1 x y et c
abbrev u5:Sp:=λvs H Q _=>∃(r:Addr) (m:Nat) (ts:List (Addr×List Int)),vs=[.ref r]/\Wb H r m ts/\m<=200/\∀(H':Hp) (b:Bool),aE H H'->(b=true↔dO (ts.map (·.2)))->Q (.bl b) H'
@[irreducible] def pX:Sp:=u5
theorem iH {vs:List V}{H:Hp}{Q:VK}{E:XK}:pX vs H Q E↔u5 vs H Q E:=by
 delta pX
 exact Fd
section
variable  {P:De}{w:DN}{K:CM}{mg:Str->Option CJ}{base:Heap}{f T:Addr}{fd:Eh}
theorem fE:aO ["web", "group", "one", "other"] ["web"] (aF ma):=⟨rfl,rfl,rfl,by decide +kernel,rfl,by decide +kernel,by decide +kernel⟩
theorem dh:(["mark", "group", "other", "one"]:List Str).Nodup:=by decide +kernel
theorem wm (F:Fun K "_law_is_wood" "_law_is_wood" ma f fd)(B:Blt mg):bS P w K mg base CX0 1 f fd ["web"] pX:=by
 refine F.ok fE (λvs H Q E h =>?_) (λcdv A outer s H vs Q E hr h =>?_)
 ·obtain ⟨_,_,_,rfl,_⟩:=iH.mp h
  rfl
 obtain ⟨r,m,ts,rfl,W,m2,q⟩:=iH.mp h
 refine ⟨_,(@ai _ _ _ _ _ (@aM _ _ 1 _ _ _ _ fE.nd rfl (Or.inr rfl) (aJ (lU hr.hd) rfl B.b_list dJ (@aa _ _ _ _ _ (aJ j1 rfl B.b_range qV (@aa _ _ _ _ _ (@aH _ _ _ _ _ _ _ aI (pv 0) ak (λ_ _=>rfl)) ah rfl)) ah rfl)) rfl (by first | exact .inl rfl | exact .inr rfl | assumption))
  (@ai _ _ _ _ _ (@bN _ _ _ _ _ _ _ _ DE rfl (@ik _ _ _ _ (@aH _ _ _ _ _ _ _ aI (pv 0) ak (λ_ _=>rfl))) (bj rfl (aA (aq (i:=2) fE.nd rfl (Or.inr rfl)) (aA (aq (i:=3) fE.nd rfl (Or.inr rfl)) aW)))
   (@ai _ _ _ _ _ (@bC _ _ _ _ _ _ _ _ (aK cQ (@aH _ _ _ _ _ _ _ b8 (pv 1) (pv 2) (λ_ _=>rfl)) (@aH _ _ _ _ _ _ _ b8 (pv 1) (pv 3) (λ_ _=>rfl)) (aS _)) (@au _ _ _ (@aL _ _ _ _ hZ)) aR)
   (@au _ _ _ (@aM _ _ 1 _ _ _ _ fE.nd rfl (Or.inr rfl) (bT ["mark", "group", "other", "one"] [none,some 1,some 3,some 2] rfl (@bR _ _ _ _ (pv 1)) rfl (λ_ _ _ _ _=>(aq (i:=0) dh rfl (Or.inl rfl))) (λ_ _ _ _ _=>cG) (λ_ _ _ _ _=>(wB (aK cQ (pv 0) (@aH _ _ _ _ _ _ _ (lb (K:=K)) (pv 1) (pv 2) (λ_ _=>rfl)) (aS _)) (@aH _ _ _ _ _ _ _ (lb (K:=K)) (pv 1) (pv 3) (λ_ _=>rfl)) (pv 0)))) rfl (by first | exact .inl rfl | exact .inr rfl | assumption)))) (λ_=>rfl))
  (@au _ _ _ (@aL _ _ _ _ hZ)))),?_⟩
 obtain ⟨t,e1,e2⟩:=W.at'
 have O:=jj W
 refine ⟨_,rfl,r,_,0,_,rfl,rfl,SqT.of e1,rfl,m,rfl,λra hra=>⟨ra,m,rfl,ag,by lia,λgl hgl =>?_⟩⟩
 have g1:=(af hra (.rng 0 m)).trans (af hgl (.lst ((Ei m).map λi:Nat=>V.int (i:Int))))
 have egl:upd (upd H ra (.rng 0 m)) gl (.lst ((Ei m).map λi:Nat=>V.int (i:Int))) gl=some (.lst ((rgI m).map V.int)):=by rw[ag];unfold rgI;rw[FJ];rfl
 generalize upd (upd H ra (.rng 0 m)) gl (.lst ((Ei m).map λi:Nat=>V.int (i:Int)))=H1 at g1 egl
 let W0:Nat->St->Hp->Prop:=λi σ H'=>∃(gl:Addr) (G:List Int) (c2 c3:Option V),σ=[some (.ref r),some (.ref gl),c2,c3]/\aE H H'/\H' gl=some (.lst (G.map V.int))/\Grp m ((ts.take i).map (·.2)) G/\dO ((ts.take i).map (·.2))
 refine ⟨_,rfl,r,_,1,_,rfl,rfl,SqT.of (g1 _ _ e1),rfl,t,rfl,⟨_,SqT.of (g1 _ _ e2)⟩,tR (xs:=ts.map λu =>.ref u.1) W0 ⟨gl,_,_,_,rfl,g1,egl,Grp.start m,rQ⟩ (λi σ H' _ z =>?_) ?_ ?_⟩
 ·obtain ⟨_,_,_,_,_,s',_⟩:=z
  exact SqT.of (s' _ _ e2)
 ·rintro i x σ H2 hx ⟨gl,G,c2,c3,rfl,s2,eg,hG,wd⟩
  obtain ⟨u,eu,rfl⟩:=item hx
  have mu:=CT eu
  obtain ⟨a,b,ab2,a0,ab,bm⟩:=W.pr u mu
  have hu:=W.tup u mu
  rw[ab2] at hu
  have hu':=s2 _ _ hu
  have lG:G.length=m:=hG.len
  have tk:(ts.take (i+1)).map (·.2)=(ts.take i).map (·.2)++[[a,b]]:=by rw[take_snoc (f:=(·.2)) eu,ab2]
  have at':∀v:Int,0<=v/\v<m->atI (G.map V.int) v=some (.int (gt G v)):=λv hv=>by
   obtain ⟨k,rfl⟩:∃k:Nat,v=k:=⟨v.toNat,by lia⟩
   have:=Ay lG hv
   rw[Ej] at this
   exact cD (by rw[CU,this];rfl)
  have ra:0<=a/\a<m:=⟨a0,by lia⟩
  have rb:0<=b/\b<m:=⟨by lia,bm⟩
  refine ⟨u.1,_,rfl,SqT.of hu',rfl,_,_,rfl,_,_,rfl,rfl,_,rfl,_,rfl,gl,_,a,_,rfl,rfl,SqL.of eg,at' a ra,_,rfl,_,rfl,gl,_,b,_,rfl,rfl,SqL.of eg,at' b rb,rfl,_,rfl,?_⟩
  by_cases c:gt G a=gt G b
  ·rw[decide_eq_true (by rw[c])]
   refine bF (q H2 false s2 ⟨λh=>by (cases h),λw =>?_⟩)
   refine (w ((ts.take i).map (·.2)) [a,b] ((ts.drop (i+1)).map (·.2)) ?_ a b rfl ((hG.iff a b ra rb).mp c)).elim
   have ei:i<ts.length:=(CP.mp eu).1
   have gi:ts[i]=u:=(CP.mp eu).2
   have:=congrArg (List.map (λu:Addr×List Int=>u.2)) (EF i ts)
   rw[Gh ei,gi,C2,Dy,ab2] at this
   exact this.symm
  ·rw[decide_eq_false (by intro z;injection z with z;exact c z)]
   refine bM ⟨_,rfl,gl,rfl,⟨_,SqL.of eg⟩,cf (xs:=G.map V.int) (λj ys H'=>H'=H2/\ys=(((G.take j).map λx=>if x=gt G b then gt G a else x)).map V.int) ⟨rfl,rfl⟩ (by rw[CG];exact small (by lia)) (λj ys H' _ z=>by rw[z.1];exact SqL.of eg) ?_ ?_⟩
   ·rintro j x ys H' hx hy ⟨eH,rfl⟩ R1 R0 r1 r0
    obtain ⟨v,ev,rfl⟩:=fV hx
    have eg4:SqL K H' gl (G.map V.int):=by rw[eH];exact SqL.of eg
    refine bF ⟨_,rfl,_,rfl,_,rfl,gl,_,b,_,rfl,rfl,eg4,at' b rb,rfl,_,rfl,?_⟩
    by_cases d:v=gt G b
    ·rw[decide_eq_true (by rw[d])]
     refine bF ⟨_,rfl,_,rfl,gl,_,a,_,rfl,rfl,eg4,at' a ra,r1 _ _ ⟨eH,?_⟩⟩
     rw[take_snoc (f:=λx=>if x=gt G b then gt G a else x) ev,C2,if_pos d];rfl
    ·rw[decide_eq_false (by intro z;injection z with z;exact d z)]
     refine bM ⟨_,rfl,r1 _ _ ⟨eH,?_⟩⟩
     rw[take_snoc (f:=λx=>if x=gt G b then gt G a else x) ev,C2,if_neg d];rfl
   ·rintro ys H' hy ⟨eH,rfl⟩ l hl
    rw[eH] at hl ⊢
    rw[CG,C7 (CO _)]
    have g5:=af hl (.lst ((mrg G a b).map V.int))
    refine ⟨l,mrg G a b,_,_,rfl,s2.trans g5,ag,?_,?_⟩
    ·rw[tk]
     refine hG.add (λt ht=>O t ?_) a0 ab bm
     obtain ⟨v,hv,rfl⟩:=Du.mp ht
     exact Ep (f:=(·.2)) (Fp hv)
    ·rw[tk]
     exact oH wd λz=>c ((hG.iff a b ra rb).mpr z)
 ·rintro σ H2 ⟨gl,G,c2,c3,rfl,s2,eg,hG,wd⟩
  rw[CG,C7 (CO _)] at wd
  exact q H2 true s2 ⟨λ_=>wd,λ_=>rfl⟩
end
abbrev oI:Sp:=λvs H Q _=>∃(p:Addr) (Z:List Int),vs=[.ref p]/\(H p=some (.lst (Z.map V.int))\/H p=some (.tup (Z.map V.int)))/\Z.length<=500/\∀H',aE H H'->Q (.bl true) H'
@[irreducible] def js:Sp:=oI
theorem dQ {vs:List V}{H:Hp}{Q:VK}{E:XK}:js vs H Q E↔oI vs H Q E:=by
 delta js
 exact Fd
section
variable  {P:De}{w:DN}{K:CM}{mg:Str->Option CJ}{base:Heap}{f T:Addr}{fd:Eh}
theorem wo:aO ["found"] ["found"] (aF me):=⟨rfl,rfl,rfl,by decide +kernel,rfl,by decide +kernel,by decide +kernel⟩
theorem m5:(["one"]:List Str).Nodup:=by decide +kernel
theorem wq (F:Fun K "_law_wholes" "_law_wholes" me f fd)(B:Blt mg):bS P w K mg base CX0 1 f fd ["found"] js:=by
 refine F.ok wo (λvs H Q E h =>?_) (λcdv A outer s H vs Q E hr h =>?_)
 ·obtain ⟨_,_,rfl,_⟩:=dQ.mp h
  rfl
 obtain ⟨p,Z,rfl,ep,l2,q⟩:=dQ.mp h
 refine ⟨_,(@au _ _ _ (@aL _ _ _ _ (az (k8 rfl) rfl B.b_all tH (@aa _ _ _ _ _ (bT ["one"] [none] rfl (Bj (pv 0)) rfl (λ_ _ _ _ _=>(aq (i:=0) m5 rfl (Or.inl rfl))) (λ_ _ _ _ _=>cG) (λ_ _ _ _ _=>(oN (az (ja (K:=K)) rfl B.b_isinstance cx (@aa _ _ _ _ _ (pv 0) (@aa _ _ _ _ _ (gH (v :=.ty "int") rfl B.b_int mf rfl) ah rfl) rfl)) (rZ (AK (az (ja (K:=K)) rfl B.b_isinstance cx (@aa _ _ _ _ _ (pv 0) (@aa _ _ _ _ _ (gH (v :=.ty "bool") rfl B.b_bool uG rfl) ah rfl) rfl))))))) ah rfl)))),?_⟩
 refine ⟨_,rfl,p,rfl,vD (xs:=Z.map V.int) (λi ys H'=>H'=H/\ys=((Z.take i).map λ_=>true).map V.bl) ep ⟨rfl,rfl⟩ (by rw[CG];exact small (by lia)) (λi ys H' z=>by rw[z.1]) ?_ ?_⟩
 ·rintro i x ys H3 hx hy ⟨eH,rfl⟩ R1 R0 r1 r0
  obtain ⟨v,ev,rfl⟩:=fV hx
  refine bF ⟨_,rfl,.int v, "int",_,true,rfl,.int v,rfl,_,rfl,bF ⟨_,rfl,.int v, "bool",_,false,rfl,.int v,rfl,_,rfl,r1 _ _ ⟨eH,?_⟩⟩⟩
  rw[take_snoc (f:=λ_:Int=>true) ev,C2];rfl
 rintro ys H3 hy ⟨eH,rfl⟩ l hl
 rw[eH] at hl ⊢
 rw[CG,C7 (CO _)]
 have g4:=af hl (.lst ((Z.map λ_=>true).map V.bl))
 refine ⟨l,_,rfl,SqL.of ag,?_⟩
 rw[show (Z.map λ_=>true).all id=true by simp]
 exact q _ g4
end
open PySem L2
theorem Pld.cnt {m:Nat}{E:List (List Int)}(O:Ok m E){G:List Int}(h:Pld E G)(cov:∀a b,[a,b]∈E->a∈G/\b∈G):(∀a,[a,a]∉E)/\∀i,i<G.length->(E.map (mi G)).count i<=1:=by
 have nt:∀{v:Int} {i:Nat},G[cA G v]? = some v->i<=cA G v->v∉G.take i:=λ{v i} gv le hv=>by
  obtain ⟨j,ej⟩:=DC.mp hv
  rw[Eu] at ej
  split at ej
  ·rename_i hj
   have:=(Gu (by have:=(CP.mp ej).1;lia) h.1).mp (ej.trans gv.symm)
   lia
  ·cases ej
 refine ⟨λa ha =>?_,λi hi =>?_⟩
 ·have ga:=dM (cov a a ha).1
  have h1:=h.2 _ _ ga
  have na:=nt ga (CO _)
  have:=rK (k:=a) (b:=E.filter (off (G.take (cA G a)))) (DX.mpr ⟨ha,by unfold off;simp[na]⟩)
  lia
 ·have eg:G[i]? = some (G[i]'hi):=CI hi
  have:=h.2 i _ eg
  suffices ∀l:List (List Int),(∀t∈l,t∈E)->(((l.map (mi G)).count i:Nat):Int)<=aP (l.filter (off (G.take i))) (G[i]'hi) by
   have:=this E λt ht=>ht
   lia
  intro l hl
  induction l with
  | nil=>exact Kh _
  | cons t l ih =>
   have ih:=ih λt ht=>hl t (Dj _ ht)
   obtain ⟨a,b,rfl,a0,ab,bm⟩:=O t (hl t Di)
   obtain ⟨ca,cb⟩:=cov a b (hl _ Di)
   have ga:=dM ca
   have gb:=dM cb
   rw[Dy,Gr]
   by_cases e:mi G [a,b]=i
   ·rw[if_pos (by simpa using e)]
    have e':(if cA G b<cA G a then cA G b else cA G a)=i:=e
    have hoff:off (G.take i) [a,b]=true:=by
     have n1:a∉G.take i:=nt ga (by split at e' <;> lia)
     have n2:b∉G.take i:=nt gb (by split at e' <;> lia)
     unfold off
     show (!decide (a∈G.take i) && !decide (b∈G.take i))=true
     rw[decide_eq_false n1,decide_eq_false n2];rfl
    rw[En hoff,cnt_cons]
    have:(G[i]'hi)∈([a,b]:List Int):=by
     split at e'
     ·rw[e',eg] at gb;rw[Dk gb];simp
     ·rw[e',eg] at ga;rw[Dk ga];simp
    have:=EE.mpr this
    lia
   ·rw[if_neg (by simpa using e),JL]
    by_cases hq:off (G.take i) [a,b]=true
    ·rw[En hq,cnt_cons];lia
    ·rw[EZ hq];exact ih
def rk (G:List Int):List (Int×V):=G.zipIdx.map λe=>(e.1,V.int (e.2:Int))
theorem kF (G:List Int):(rk G).map (·.1)=G:=by
 unfold rk
 rw[FJ]
 have:=List.zipIdx_map_fst 0 G
 exact this
theorem z7 (G:List Int)(v:Int):rk (G++[v])=rk G++[(v,.int (G.length:Int))]:=by
 unfold rk
 rw[List.zipIdx_append,C2];simp
theorem yJ {G:List Int}(nd:G.Nodup){v:Int}(hv:v∈G):de (mp (rk G)) (Sum.inl v)=some (.int (cA G v:Int)):=by
 obtain ⟨x,hx,e⟩:=yh (v:=v) (C:=rk G) (by rw[kF];exact hv)
 unfold rk at hx
 obtain ⟨ek,hk,z⟩:=Du.mp hx
 have z1:ek.1=v:=congrArg (·.1) z
 have z2:V.int (ek.2:Int)=x:=congrArg (·.2) z
 have h1:G[ek.2]? = some ek.1:=List.mem_zipIdx_iff_getElem?.mp hk
 rw[z1] at h1
 have:ek.2=cA G v:=(Gu (CP.mp h1).1 nd).mp (h1.trans (dM hv).symm)
 rw[e, <- z2,this]
theorem z8 {n k:Nat}(h:k<n):ixN n (k:Int)=some k:=by
 unfold ixN
 simp
 omega
abbrev Az:Sp:=λvs H Q _=>∃(b o e:Addr) (m:Nat) (ts:List (Addr×List Int)) (G R:List Int),vs=[.ref b,.ref o,.ref e]/\Wb H b m ts/\m<=200/\H o=some (.lst (G.map V.int))/\H e=some (.tup (R.map V.int))/\(G++R).Perm (rgI m)/\(∀a,[a,a]∉(ts.map (·.2)).filter (off R))/\(∀i,i<G.length->(((ts.map (·.2)).filter (off R)).map (mi G)).count i<=1)/\∀H',aE H H'->Q (.bl true) H'
@[irreducible] def z9:Sp:=Az
theorem mF {vs:List V}{H:Hp}{Q:VK}{E:XK}:z9 vs H Q E↔Az vs H Q E:=by
 delta z9
 exact Fd
def RA (H:Hp)(b o e0 d ow:Addr)(c4 c5:Option V)(ts:List (Addr×List Int))(G R:List Int)(j:Nat)(σ:St)(H4:Hp):Prop:=(∃c7 c8 c9,σ=[some (.ref b),some (.ref o),some (.ref e0),some (.ref d),c4,c5,some (.ref ow),c7,c8,c9])/\aE H H4/\H4 d=some (.dK (mp (rk G)))/\H4 ow=some (.lst ((onw G G.length (((ts.take j).map (·.2)).filter (off R))).map V.int))
def RB (H:Hp)(b o e0 d:Addr)(G:List Int)(i:Nat)(σ:St)(H4:Hp):Prop:=(∃c3 c4,σ=[some (.ref b),some (.ref o),some (.ref e0),some (.ref d),c3,c4,none,none,none,none])/\aE H H4/\H4 d=some (.dK (mp (rk (G.take i))))
section
variable  {P:De}{w:DN}{K:CM}{mg:Str->Option CJ}{base:Heap}{f T:Addr}{fd:Eh}
theorem bV:aO ["web", "order", "places", "rank", "at", "place", "onward", "one", "other", "first"] ["web", "order", "places"] (aF eJ):=⟨rfl,rfl,rfl,by decide +kernel,rfl,by decide +kernel,by decide +kernel⟩
theorem iI:(["count"]:List Str).Nodup:=by decide +kernel
theorem pZ (F:Fun K "_law_peel_right" "_law_peel_right" eJ f fd)(B:Blt mg):bS P w K mg base CX0 1 f fd ["web", "order", "places"] z9:=by
 refine F.ok bV (λvs H Q E h =>?_) (λcdv A outer s H vs Q E hr h =>?_)
 ·obtain ⟨_,_,_,_,_,_,_,rfl,_⟩:=mF.mp h
  rfl
 obtain ⟨b,o,e0,m,ts,G,R,rfl,W,m2,hO,hE,pm,nl,c1,q⟩:=mF.mp h
 have hu:(oO CX0 P w K mg base ["web", "order", "places", "rank", "at", "place", "onward", "one", "other", "first"] "_law_peel_right" (aF eJ) f cdv A outer s H E).nox.A.units+1<cLine:=qo hr
 refine ⟨_,(@ai _ _ _ _ _ (@bC _ _ _ _ _ _ _ _ (aK (zG hr) (az i4 rfl B.b_sorted cN (@aa _ _ _ _ _ (@aT _ _ _ _ _ _ _ _ kh (aJ cS rfl B.b_list dJ (@aa _ _ _ _ _ (pv 1) ah rfl)) (aJ cS rfl B.b_list dJ (@aa _ _ _ _ _ (pv 2) ah rfl))) ah rfl)) (aJ (lU hr.hd) rfl B.b_list dJ (@aa _ _ _ _ _ (aJ j1 rfl B.b_range qV (@aa _ _ _ _ _ (@aH _ _ _ _ _ _ _ aI (pv 0) ak (λ_ _=>rfl)) ah rfl)) ah rfl)) (aS _)) cX aR)
  (@ai _ _ _ _ _ (@aM _ _ 3 _ _ _ _ bV.nd rfl (Or.inl rfl) lR rfl (by first | exact .inl rfl | exact .inr rfl | assumption))
  (@ai _ _ _ _ _ (@bN _ _ _ _ _ _ _ _ DE rfl (zc rfl B.b_enumerate (@aa _ _ _ _ _ (pv 1) ah rfl)) (bj rfl (aA (aq (i:=4) bV.nd rfl (Or.inl rfl)) (aA (aq (i:=5) bV.nd rfl (Or.inl rfl)) aW)))
   (@au _ _ _ (i7 hu (pv 3) (pv 5) (pv 4) rfl)) (λ_=>rfl))
  (@ai _ _ _ _ _ (@aM _ _ 6 _ _ _ _ bV.nd rfl (Or.inl rfl) (@aT _ _ _ _ _ _ _ _ wV (@bX _ _ _ _ (@aa _ _ _ _ _ ak ah rfl)) (az aY rfl B.b_len eU (@aa _ _ _ _ _ (pv 1) ah rfl))) rfl (by first | exact .inl rfl | exact .inr rfl | assumption))
  (@ai _ _ _ _ _ (@bN _ _ _ _ _ _ _ _ DE rfl (@ik _ _ _ _ (@aH _ _ _ _ _ _ _ aI (pv 0) ak (λ_ _=>rfl))) (bj rfl (aA (aq (i:=7) bV.nd rfl (Or.inl rfl)) (aA (aq (i:=8) bV.nd rfl (Or.inl rfl)) aW)))
   (@au _ _ _ (@bC _ _ _ _ _ _ _ _ (PW.pt (kM (fZ (xD hu (pv 7) (pv 3))) (iL (fZ (xD hu (pv 8) (pv 3)))))) (@ai _ _ _ _ _ (@aM _ _ 9 _ _ _ _ bV.nd rfl (Or.inl rfl) (az (gK rfl) rfl B.b_min eV (@aa _ _ _ _ _ (o8 hu (pv 3) (pv 7) (λ_ _=>rfl)) (@aa _ _ _ _ _ (o8 hu (pv 3) (pv 8) (λ_ _=>rfl)) ah rfl) rfl)) rfl (by first | exact .inl rfl | exact .inr rfl | assumption))
    (@au _ _ _ (@bz _ _ _ _ _ _ (@aT _ _ _ _ _ _ _ _ cB (@aT _ _ _ _ _ _ _ _ cB (@aH _ _ _ _ _ _ _ b8 (pv 6) (pv 9) (λ_ _=>rfl)) ak) (aJ gL rfl B.b_int mf (@aa _ _ _ _ _ (di cQ (pv 7) (pv 8) (aS _)) ah rfl))) (AN (pv 6) (pv 9) set_list) rfl rfl rfl))) aR)) (λ_=>rfl))
  (@au _ _ _ (@aL _ _ _ _ (az (k8 rfl) rfl B.b_all tH (@aa _ _ _ _ _ (bT ["count"] [none] rfl (@bR _ _ _ _ (pv 6)) rfl (λ_ _ _ _ _=>(aq (i:=0) iI rfl (Or.inl rfl))) (λ_ _ _ _ _=>cG) (λ_ _ _ _ _=>(di qi (pv 0) ak (aS _)))) ah rfl))))))))),?_⟩
 obtain ⟨t,e1,e2⟩:=W.at'
 have lGR:G.length+R.length=m:=by have:=pm.length_eq;rw[CL] at this;rw[this];unfold rgI;simp
 have ndGR:(G++R).Nodup:=pm.nodup_iff.mpr (cO m)
 have ndG:=(Fc.mp ndGR).1
 have dis:∀v∈G,v∉R:=λv h1 h2=>(Fc.mp ndGR).2.2 v h1 v h2 rfl
 have cov:∀v:Int,0<=v/\v<m->v∉R->v∈G:=λv hv nv=>(CW.mp (pm.mem_iff.mpr (cq.mpr hv))).resolve_right nv
 refine ⟨_,rfl,o,_,rfl,.inl (SqL.of hO),λl1 hl1 =>?_⟩
 have k1:=af hl1 (.lst (G.map V.int))
 refine ⟨_,rfl,e0,_,rfl,.inr (SqT.of (k1 _ _ hE)),λl2 hl2 =>?_⟩
 have k2:=af hl2 (.lst (R.map V.int))
 refine ⟨l1,l2,G.map V.int,R.map V.int,rfl,rfl,SqL.of (k2 _ _ ag),SqL.of ag,(by rw[CG,CG];exact small (by lia)),λl3 hl3 =>?_⟩
 rw[<- C2]
 have k3:=af hl3 (.lst ((G++R).map V.int))
 have g0:=k1.trans (k2.trans k3)
 refine ⟨l3,G++R,rfl,.inl (SqL.of ag),λl out hl po ps =>?_⟩
 generalize upd (upd (upd H l1 (.lst (G.map V.int))) l2 (.lst (R.map V.int))) l3 (.lst ((G++R).map V.int))=H0 at g0 hl
 have g1:=g0.trans (af hl (.lst (out.map V.int)))
 have eo:out=rgI m:=(zY po ps).mpr pm
 have el:upd H0 l (.lst (out.map V.int)) l=some (.lst (out.map V.int)):=ag
 generalize upd H0 l (.lst (out.map V.int))=H1 at g1 el
 refine ⟨_,rfl,b,_,0,_,rfl,rfl,SqT.of (g1 _ _ e1),rfl,_,rfl,λa2 ha2=>⟨a2,m,rfl,ag,by lia,λl4 hl4 =>?_⟩⟩
 have er:((Ei m).map λi=>V.int (i:Nat))=(rgI m).map V.int:=by unfold rgI;rw[FJ];rfl
 rw[er] at *
 have g2:=(af ha2 (.rng 0 m)).trans (af hl4 (.lst ((rgI m).map V.int)))
 refine ⟨l,l4,out,rgI m,rfl,rfl,SqL.of (g2 _ _ el),SqL.of ag,_,rfl,kX eo ?_⟩
 have s3:=g1.trans g2
 generalize upd (upd H1 a2 (.rng 0 m)) l4 (.lst ((rgI m).map V.int))=H3 at s3
 refine λd hd =>?_
 have hd0:=s3.free hd
 have s5:=s3.trans (af hd (.dK []))
 have ed5:upd H3 d (.dK []) d=some (.dK (mp (rk (G.take 0)))):=ag
 generalize upd H3 d (.dK [])=H5 at s5 ed5
 dsimp only[eZ,yN]
 refine ⟨_,rfl,o,rfl,.inl ⟨⟨_,SqL.of (s5 _ _ hO)⟩,vt (xs:=G.map V.int) (RB H b o e0 d G) ⟨⟨_,_,rfl⟩,s5,ed5⟩ (λi σ H4 _ z=>SqL.of (z.2.1 _ _ hO)) ?_ ?_⟩⟩
 ·rintro i x σ H4 T hx hT ⟨⟨c3,c4,rfl⟩,s4,ed4⟩
  obtain ⟨y,ey,rfl⟩:=fV hx
  have hi:i<G.length:=(CP.mp ey).1
  have g:=af hT (.tup [.int i,.int y])
  have ny:y∉G.take i:=λz=>by
   obtain ⟨j,ej⟩:=DC.mp z
   rw[Eu] at ej
   split at ej
   ·have:=(Gu (by have:=(CP.mp ej).1;lia) ndG).mp (ej.trans ey.symm);lia
   ·cases ej
  have lt:(G.take i).length=i:=by rw[Eb];lia
  have hp:=lQ.k (k:=Sum.inl y) (v :=.int (i:Int)) (g _ _ ed4) (by rw[pG,show (rk (G.take i)).length=i by unfold rk;rw[CG,List.length_zipIdx,lt]];exact iE (by lia))
  rw[tI (by rw[kF];exact ny),show (.int (i:Int):V) = .int ((G.take i).length:Int) by rw[lt], <- z7] at hp
  refine ⟨T,_,rfl,SqT.of ag,rfl,_,_,rfl,_,_,rfl,rfl,_,rfl,_,rfl,_,rfl,d,_,rfl,lt ▸ hp,⟨_,_,rfl⟩,aE.bG (s4.trans g) hd0 _,by rw[ag,Ee,ey];rfl⟩
 rintro σ H6 ⟨⟨c4,c5,rfl⟩,s6,ed⟩
 rw[CG,C7 (CO _)] at ed
 have lG:(G.map V.int).length=G.length:=CG _
 refine ⟨(by show 1<=C6;decide),λz hz=>⟨_,rfl,o,_,rfl,.inl (SqL.of ((af hz _) _ _ (s6 _ _ hO))),z,((G.map V.int).length:Int),[.int 0],rfl,rfl,ag,by rw[lG];lia,by rw[lG];lia,?_,λow how =>?_⟩⟩
 ·rw[lG]
  show 1*(G.length:Int).toNat<=C6
  exact small (by lia)
 have g7:=(af hz (.lst [.int 0])).trans (af how (.lst (DV ((G.map V.int).length:Int).toNat [V.int 0]).flatten))
 have how0:H ow=none:=(s6.trans (af hz (.lst [.int 0]))).free how
 have eow:upd (upd H6 z (.lst [.int 0])) ow (.lst (DV ((G.map V.int).length:Int).toNat [V.int 0]).flatten) ow=some (.lst ((onw G G.length []).map V.int)):=by
  rw[ag,Ej,pA,lG]
  unfold onw
  rw[FJ]
  congr 2
  symm
  rw[List.eq_replicate_iff]
  refine ⟨by rw[CG,EY],λx hx =>?_⟩
  obtain ⟨i,_,rfl⟩:=Du.mp hx
  rfl
 have s7:=s6.trans g7
 have ed7:=g7 _ _ ed
 generalize upd (upd H6 z (.lst [.int 0])) ow (.lst (DV ((G.map V.int).length:Int).toNat [V.int 0]).flatten)=H7 at eow s7 ed7
 refine ⟨_,rfl,b,_,1,_,rfl,rfl,SqT.of (s7 _ _ e1),rfl,t,rfl,⟨_,SqT.of (s7 _ _ e2)⟩,tR (xs:=ts.map λu =>.ref u.1) (RA H b o e0 d ow c4 c5 ts G R) ⟨⟨_,_,_,rfl⟩,s7,ed7,eow⟩ (λj σ H4 _ z=>SqT.of (z.2.1 _ _ e2)) ?_ ?_⟩
 ·rintro j x σ H8 hx ⟨⟨c7,c8,c9,rfl⟩,s8,ed8,eo8⟩
  obtain ⟨u,eu,rfl⟩:=item hx
  have mu:=CT eu
  obtain ⟨a,c,ac,a0,le,cm⟩:=W.pr u mu
  have hu':=s8 _ _ (W.tup u mu)
  rw[ac] at hu'
  have tk:((ts.take (j+1)).map (·.2)).filter (off R)=((ts.take j).map (·.2)).filter (off R)++if off R [a,c]=true then [[a,c]] else []:=by
   rw[take_snoc (f:=(·.2)) eu,GO,ac]
   congr 1
   by_cases y:off R [a,c]=true
   ·rw[if_pos y,En y];rfl
   ·rw[if_neg y,EZ y];rfl
  refine ⟨u.1,_,rfl,SqT.of hu',rfl,_,_,rfl,_,_,rfl,rfl,_,rfl,_,rfl,d,_,rfl,fv.k (k:=Sum.inl a) ed8,_,rfl,?_⟩
  rw[oB,kF]
  have stay:off R [a,c]≠true->RA H b o e0 d ow c4 c5 ts G R (j+1) [some (.ref b),some (.ref o),some (.ref e0),some (.ref d),c4,c5,some (.ref ow),some (.int a),some (.int c),c9] H8:=λy=>⟨⟨_,_,_,rfl⟩,s8,ed8,by rw[tk,if_neg y,DU];exact eo8⟩
  by_cases ha:a∈G
  ·rw[decide_eq_true ha]
   refine bF ⟨_,rfl,_,rfl,d,_,rfl,fv.k (k:=Sum.inl c) ed8,_,rfl,?_⟩
   rw[oB,kF]
   by_cases hc:c∈G
   ·rw[decide_eq_true hc]
    have ho:off R [a,c]=true:=by
     have n1:=dis a ha
     have n2:=dis c hc
     unfold off
     simp[n1,n2]
    have ne:a≠c:=λz=>by
     subst z
     exact nl a (DX.mpr ⟨ac ▸ Ep (f:=(·.2)) mu,ho⟩)
    have ga:=dM ha
    have gc:=dM hc
    have la:=(CP.mp ga).1
    have lc:=(CP.mp gc).1
    have hmi:mi G [a,c]<G.length:=by
     show (if cA G c<cA G a then cA G c else cA G a)<_
     split <;> lia
    have emi:(if (cA G c:Int)<(cA G a:Int) then (cA G c:Int) else (cA G a:Int))=((mi G [a,c]:Nat):Int):=by
     show _=(((if cA G c<cA G a then cA G c else cA G a):Nat):Int)
     by_cases y:cA G c<cA G a
     ·rw[if_pos (by lia),if_pos y]
     ·rw[if_neg (by lia),if_neg y]
    have da:=fv.k (k:=Sum.inl a) ed8
    rw[yJ ndG ha] at da
    have dc:=fv.k (k:=Sum.inl c) ed8
    rw[yJ ndG hc] at dc
    refine bF ⟨_,rfl,_,rfl,d,_,rfl,da,_,rfl,_,rfl,d,_,rfl,dc,_,_,rfl,?_⟩
    rw[emi]
    have at8:atI ((onw G G.length (((ts.take j).map (·.2)).filter (off R))).map V.int) ((mi G [a,c]:Nat):Int)=some (.int (((((((ts.take j).map (·.2)).filter (off R)).map (mi G)).count (mi G [a,c]):Nat)):Int)):=cD (by rw[CU,tN hmi];rfl)
    refine ⟨_,rfl,_,rfl,ow,_,_,_,rfl,rfl,SqL.of eo8,at8,_,_,rfl,rfl,_,rfl,_,rfl,rfl,?_⟩
    rw[decide_eq_false (by intro z;injection z with z;exact ne z)]
    refine .inr ⟨_,rfl,_,_,rfl,rfl,_,rfl,_,rfl,ow,_,_,mi G [a,c],rfl,rfl,eo8,by rw[CG,jl];exact z8 hmi,⟨_,_,_,rfl⟩,aE.bG s8 how0 _,by rw[aD (eG ed8 eo8 (by intro z;cases z))];exact ed8,?_⟩
    rw[ag,tk,if_pos ho, <- yB hmi,L5]
    congr 3
   ·rw[decide_eq_false hc]
    refine bM (stay λy=>hc (cov c ⟨by lia,cm⟩ ?_))
    unfold off at y;simp at y;exact y.2
  ·rw[decide_eq_false ha]
   refine bM (bM (stay λy=>ha (cov a ⟨a0,by lia⟩ ?_)))
   unfold off at y;simp at y;exact y.1
 ·rintro σ H8 ⟨⟨c7,c8,c9,rfl⟩,s8,ed8,eo8⟩
  rw[CG,C7 (CO _)] at eo8
  have le:∀v∈onw G G.length ((ts.map (·.2)).filter (off R)),v<2:=λv hv=>by
   unfold onw at hv
   obtain ⟨i,hi,rfl⟩:=Du.mp hv
   have:=c1 i (Eg.mp hi)
   lia
  have ll:(onw G G.length ((ts.map (·.2)).filter (off R))).length=G.length:=jl _ _ _
  generalize onw G G.length ((ts.map (·.2)).filter (off R))=X at eo8 le ll
  refine ⟨_,rfl,ow,rfl,⟨_,SqL.of eo8⟩,cf (xs:=X.map V.int) (λj ys H'=>H'=H8/\ys=((X.take j).map λ_=>true).map V.bl) ⟨rfl,rfl⟩ (by rw[CG];exact small (by lia)) (λj ys H' _ z=>by rw[z.1];exact SqL.of eo8) ?_ ?_⟩
  ·rintro j x ys H' hx hy ⟨eH,rfl⟩ R1 R0 r1 r0
   obtain ⟨v,ev,rfl⟩:=fV hx
   refine bF ⟨_,rfl,_,_,rfl,rfl,?_⟩
   dsimp only
   rw[decide_eq_true (le v (CT ev))]
   refine r1 _ _ ⟨eH,?_⟩
   rw[take_snoc (f:=λ_:Int=>true) ev,C2];rfl
  ·rintro ys H' hy ⟨eH,rfl⟩ al hal
   rw[eH] at hal ⊢
   rw[CG,C7 (CO _)]
   have g9:=af hal (.lst ((X.map λ_=>true).map V.bl))
   refine ⟨al,_,rfl,SqL.of ag,?_⟩
   rw[show (X.map λ_=>true).all id=true by simp]
   exact q _ (s8.trans g9)
end
open PySem L2
abbrev AA:Sp:=λvs H Q _=>∃(r:Addr) (m:Nat) (ts:List (Addr×List Int)),vs=[.ref r]/\Wb H r m ts/\m<=200/\(∀(p l:Addr) (H':Hp) (G:List Int),aE H H'->H' p=some (.tup [.str "wood",.ref l])->H l=none->H' l=some (.lst (G.map V.int))->dO (ts.map (·.2))->Pld (ts.map (·.2)) G->(∀v∈G,0<=v/\v<m)->G.length=m->oF m (ts.map (·.2)) G->Q (.ref p) H')/\∀(p z:Addr) (H':Hp) (F:List Int),aE H H'->H' p=some (.tup [.str "ring",.ref z])->H' z=some (.tup (F.map V.int))->¬ dO (ts.map (·.2))->Ring m (ts.map (·.2)) F->we F->iF m (ts.map (·.2)) (ts.map (·.2)) F->Q (.ref p) H'
@[irreducible] def Aa:Sp:=AA
theorem mG {vs:List V}{H:Hp}{Q:VK}{E:XK}:Aa vs H Q E↔AA vs H Q E:=by
 delta Aa
 exact Fd
section
variable  {P:De}{w:DN}{K:CM}{mg:Str->Option CJ}{base:Heap}{f T:Addr}{fd:Eh}
theorem j5:aO ["web", "order"] ["web"] (aF ir):=⟨rfl,rfl,rfl,by decide +kernel,rfl,by decide +kernel,by decide +kernel⟩
theorem rT (F:Fun K "peeled_web" "peeled_web" ir f fd)(B:Blt mg)(cPeeledPlaces:Cal P w K mg base 2 "peeled_places" ["web"] pP)(cLeastRing:Cal P w K mg base 5 "least_ring" ["web"] kB):bS P w K mg base CX0 6 f fd ["web"] Aa:=by
 refine F.ok j5 (λvs H Q E h =>?_) (λcdv A outer s H vs Q E hr h =>?_)
 ·obtain ⟨_,_,_,rfl,_⟩:=mG.mp h
  rfl
 obtain ⟨r,m,ts,rfl,W,m2,q0,q1⟩:=mG.mp h
 refine ⟨_,(@ai _ _ _ _ _ (@aM _ _ 1 _ _ _ _ j5.nd rfl (Or.inl rfl) (aV cPeeledPlaces hr (by decide) rfl (@aa _ _ _ _ _ (pv 0) ah rfl)) rfl (by first | exact .inl rfl | exact .inr rfl | assumption))
  (@ai _ _ _ _ _ (@bC _ _ _ _ _ _ _ _ (aK cQ (az aY rfl B.b_len eU (@aa _ _ _ _ _ (pv 1) ah rfl)) (@aH _ _ _ _ _ _ _ aI (pv 0) ak (λ_ _=>rfl)) (aS _)) (@au _ _ _ (@aL _ _ _ _ (@bo _ _ _ _ _ (@aa _ _ _ _ _ ig (@aa _ _ _ _ _ (pv 1) ah rfl) rfl)))) aR)
  (@au _ _ _ (@aL _ _ _ _ (@bo _ _ _ _ _ (@aa _ _ _ _ _ ig (@aa _ _ _ _ _ (aV cLeastRing hr (by decide) rfl (@aa _ _ _ _ _ (pv 0) ah rfl)) ah rfl) rfl)))))),?_⟩
 obtain ⟨t,e1,e2⟩:=W.at'
 have O:=jj W
 refine ⟨_,rfl,iG.mpr ⟨r,m,ts,rfl,W,m2,λl H1 G s1 hl el pd rg hc pe =>?_⟩⟩
 have lm:(G.map V.int).length=G.length:=CG _
 have gm:=bZ pd.1 rg
 refine ⟨_,rfl,l,_,rfl,.inl (SqL.of el),_,rfl,r,_,0,_,rfl,rfl,SqT.of (s1 _ _ e1),rfl,rfl,_,rfl,?_⟩
 rw[lm]
 by_cases h:G.length=m
 ·rw[decide_eq_true (by rw[h])]
  have gd:=pd.good O rg h
  refine bF ⟨_,rfl,(by show 2<=C6;decide),λp hp=>q0 p l _ G (s1.trans (af hp _)) ag hl ((af hp _) _ _ el) (pd.CA O λv hv=>gd.1.mem_iff.mpr (cq.mpr hv)) pd rg h pe⟩
 ·rw[decide_eq_false (by intro z;injection z with z;lia)]
  have nw:¬ dO (ts.map (·.2)):=λw=>by
   apply Gk
   intro _
   have all:∀u:Int,0<=u/\u<m->u∈G:=λu hu=>Gk λnu=>stuck O w hu nu hc
   have:=EG (cO m) (l₂:=G) λv hv=>all v (cq.mp hv)
   rw[show (rgI m).length=m by unfold rgI;simp] at this
   lia
  refine bM ⟨_,rfl,gF.mpr ⟨r,m,ts,rfl,W.same s1,by lia,λH2 s2 no =>?_,λz H2 Z M s2 ez hM mM hx hn ld =>?_⟩⟩
  ·obtain ⟨a,b,hab,na⟩:=zZ O nw
   exact absurd (no a b hab) na
  ·obtain ⟨x,y,hxy,al⟩:=hx
   have rgz:=al.ring O hxy
   exact ⟨(by show 2<=C6;decide),λp hp=>q1 p z _ _ (s1.trans (s2.trans (af hp _))) ag ((af hp _) _ _ ez) nw (rgz.frm hM) (yy rgz.nd hM mM) ld⟩
end
theorem Ab {m:Nat}{E:List (List Int)}{a b:Int}(O:Ok m (E++[[a,b]]))[Decidable (Con E a b)]:(E++[[a,b]]).length+(a9 (E++[[a,b]]) m m).length=E.length+(a9 E m m).length+if Con E a b then 1 else 0:=by
 have er:(E++[[a,b]]).reverse=[a,b] :: E.reverse:=by rw[GA];rfl
 have O':Ok m ([a,b] :: E.reverse):=λt ht=>O t (by rw[<- er] at ht;exact Ii.mp ht)
 have c:=zT O'
 rw[<- er,yg,EM,EM,yg] at c
 rw[c]
 have cc:Con E.reverse a b↔Con E a b:=⟨λz=>z.up λt ht=>Ii.mp ht,λz=>z.up λt ht=>Ii.mpr ht⟩
 by_cases h:Con E a b
 ·rw[if_pos h,if_pos (cc.mpr h)]
 ·rw[if_neg h,if_neg λz=>h (cc.mp z)]
open Classical in
theorem u6 {m:Nat}:∀(n:Nat) (E:List (List Int)),E.length=n->Ok m E->m<=E.length+(a9 E m m).length/\(dO E↔E.length+(a9 E m m).length=m)
 | 0,E,hn,_=>by
  have:=FW.mp hn
  subst this
  have:=BD m
  exact ⟨by rw[this];show m<=0+m;lia,λ_=>by rw[this];show 0+m=m;lia,λ_=>rQ⟩
 | n+1,E,hn,O=>by
  rcases Ge E with h | ⟨E',t,h⟩
  ·rw[h] at hn;cases hn
  rw[Gf] at h
  subst h
  obtain ⟨a,b,rfl,a0,ab,bm⟩:=O t (by simp)
  have O':Ok m E':=λt ht=>O t (Dn _ ht)
  obtain ⟨ge,iff⟩:=u6 n E' (by rw[CL] at hn;exact L4 hn) O'
  have s:=Ab O
  have down:dO (E'++[[a,b]])->dO E'/\¬ Con E' a b:=λw=>⟨λpre t post e a' b' et=>w pre t (post++[[a,b]]) (by rw[e];simp) a' b' et,w E' [a,b] [] rfl a b rfl⟩
  by_cases c:Con E' a b
  ·rw[if_pos c] at s
   exact ⟨by lia,λw=>absurd c (down w).2,λz=>by lia⟩
  ·rw[if_neg c] at s
   refine ⟨by lia,λw =>?_,λz=>oH (iff.mpr (by lia)) c⟩
   have:=iff.mp (down w).1
   lia
abbrev yK:Sp:=λvs H Q _=>∃(r p:Addr) (m:Nat) (ts:List (Addr×List Int)) (R:List Int),vs=[.ref r,.ref p]/\Wb H r m ts/\m<=200/\H p=some (.tup (R.map V.int))/\∀(H':Hp) (b:Bool),aE H H'->(b=true↔dO ((ts.map (·.2)).filter (off R)))->Q (.bl b) H'
@[irreducible] def u7:Sp:=yK
theorem jR {vs:List V}{H:Hp}{Q:VK}{E:XK}:u7 vs H Q E↔yK vs H Q E:=by
 delta u7
 exact Fd
section
variable  {P:De}{w:DN}{K:CM}{mg:Str->Option CJ}{base:Heap}{f T:Addr}{fd:Eh}
theorem rV:aO ["web", "places"] ["web", "places"] (aF iu):=⟨rfl,rfl,rfl,by decide +kernel,rfl,by decide +kernel,by decide +kernel⟩
theorem rW (F:Fun K "clears_web" "clears_web" iu f fd)(B:Blt mg)(cSpareTies:Cal P w K mg base 3 "spare_ties" ["web"] kr)(cCutWeb:Cal P w K mg base 1 "cut_web" ["web", "places"] mv):bS P w K mg base CX0 4 f fd ["web", "places"] u7:=by
 refine F.ok rV (λvs H Q E h =>?_) (λcdv A outer s H vs Q E hr h =>?_)
 ·obtain ⟨_,_,_,_,_,rfl,_⟩:=jR.mp h
  rfl
 obtain ⟨r,p,m,ts,R,rfl,W,m4,hp,q⟩:=jR.mp h
 refine ⟨_,(@au _ _ _ (@aL _ _ _ _ (di cQ (aV cSpareTies hr (by decide) rfl (@aa _ _ _ _ _ (aV cCutWeb hr (by decide) rfl (@aa _ _ _ _ _ (pv 0) (@aa _ _ _ _ _ (pv 1) ah rfl) rfl)) ah rfl)) ak (aS _)))),?_⟩
 refine ⟨_,rfl,_,rfl,dg.mpr ⟨r,p,m,ts,R,rfl,W,.inr hp,λz us H1 s1 W1 e1 =>?_⟩⟩
 refine gA.mpr ⟨z,m,us,rfl,W1,by lia,λH2 s2=>⟨rfl,?_⟩⟩
 have l1:us.length=((ts.map (·.2)).filter (off R)).length:=by rw[<- e1,CG]
 rw[e1,l1]
 have ws:=(u6 _ ((ts.map (·.2)).filter (off R)) rfl (fT (jj W) R)).2
 refine q _ _ (s1.trans s2) ?_
 rw[ws,decide_eq_true_iff]
 refine ⟨λh =>?_,λh =>?_⟩
 ·injection h with h;lia
 ·congr 1;lia
end
open PySem L2
section
variable  {P:De}{w:DN}{K:CM}{mg:Str->Option CJ}{base:Heap}{f T:Addr}{fd:Eh}
theorem BI:aO ["web", "places"] ["web", "places"] (aF xX):=⟨rfl,rfl,rfl,by decide +kernel,rfl,by decide +kernel,by decide +kernel⟩
theorem BJ (F:Fun K "_law_cut" "_law_cut" xX f fd)(B:Blt mg):bS P w K mg base CX0 1 f fd ["web", "places"] mv:=by
 refine F.ok BI (λvs H Q E h =>?_) (λcdv A outer s H vs Q E hr h =>?_)
 ·obtain ⟨a,b,c,d,e,rfl,_⟩:=dg.mp h
  rfl
 obtain ⟨r,p,m,ts,ps,rfl,W,hp,q⟩:=dg.mp h
 obtain ⟨t,e1,e2⟩:=W.at'
 refine ⟨_,au (aL (bo (aa (aH aI (pv 0) ak (λ_ _=>rfl)) (aa (aJ aX rfl B.b_tuple FC (aa (bT ["tie", "places"] [none,some 1] rfl (ik (aH aI (pv 0) ak (λ_ _=>rfl))) rfl (λ_ _ _ _ _=>aq (i:=0) Av rfl (Or.inl rfl))
  (λ_ _ _ _ _=>jC (PW.pt (kM (aK (fe (K:=K)) (aH (iT (K:=K)) (pv 0) ak (λ_ _=>rfl)) (pv 1) rfl) (iL (aK (fe (K:=K)) (aH (iT (K:=K)) (pv 0) ak (λ_ _=>rfl)) (pv 1) rfl)))))
  (λ_ _ _ _ _=>pv 0)) ah)) ah)))),?_⟩
 refine ⟨_,rfl,r,_,0,_,rfl,rfl,SqT.of e1,rfl,_,rfl,r,_,1,_,rfl,rfl,SqT.of e1,rfl,t,rfl,⟨_,SqT.of e2⟩,dR (xs:=ts.map λu =>.ref u.1) (λi ys H'=>H'=H/\ys=((ts.take i).filter λu=>off ps u.2).map λu =>.ref u.1) ⟨rfl,rfl⟩ (by rw[CG];exact small (by have:=W.len;lia)) (λi ys H' _ z=>by rw[z.1];exact SqT.of e2) ?_ ?_⟩
 ·rintro i x ys H3 hx hy ⟨rfl,ey⟩ R1 R0 r1 r0
  obtain ⟨u,eu,rfl⟩:=item hx
  have hu:=W.tup u (CT eu)
  obtain ⟨a,b,e3,_⟩:=W.pr u (CT eu)
  rw[e3] at hu
  have bb:off ps u.2=(!decide (a∈ps) && !decide (b∈ps)):=by rw[e3];rfl
  have g1:off ps u.2=true->R1 (.ref u.1) H3:=λec=>r1 _ _ ⟨rfl,by rw[dW eu,if_pos ec,ey]⟩
  have g0:off ps u.2=false->R0 H3:=λec=>r0 _ ⟨rfl,by rw[dW eu,if_neg (by rw[ec];exact C8),ey,DU]⟩
  refine ⟨_,rfl,u.1,_,0,_,rfl,rfl,SqT.of hu,rfl,_,rfl,p,_,rfl,(hp.elim (λz =>.inl (SqL.of z)) (λz =>.inr (SqT.of z))),rfl,dU ps,_,rfl,?_⟩
  show if (if true=true then !inV (.int a) (ps.map V.int) else _)=true then _ else _
  rw[if_pos rfl,d9]
  by_cases ha:a∈ps
  ·rw[decide_eq_true ha] at bb ⊢
   exact bM (bM (g0 bb))
  ·rw[decide_eq_false ha] at bb ⊢
   refine bF ⟨_,rfl,u.1,_,1,_,rfl,rfl,SqT.of hu,rfl,_,rfl,p,_,rfl,(hp.elim (λz =>.inl (SqL.of z)) (λz =>.inr (SqT.of z))),rfl,dU ps,_,rfl,?_⟩
   show if (if true=true then !inV (.int b) (ps.map V.int) else _)=true then _ else _
   rw[if_pos rfl,d9]
   by_cases hb:b∈ps
   ·rw[decide_eq_true hb] at bb ⊢
    exact bM (g0 bb)
   ·rw[decide_eq_false hb] at bb ⊢
    exact bF ⟨_,rfl,g1 bb⟩
 ·rintro ys H3 hy ⟨rfl,ey⟩ l hl
  rw[CG,C7 (CO _)] at ey
  refine ⟨l,_,rfl,.inl ⟨SqL.of ag,λl2 hl2=>⟨(by show 2<=C6;decide),λz hz =>?_⟩⟩⟩
  subst ey
  have g1:=af hl (.lst ((ts.filter λu=>off ps u.2).map λu=>V.ref u.1))
  have g2:=af hl2 (.tup ((ts.filter λu=>off ps u.2).map λu=>V.ref u.1))
  have g3:=af hz (.tup [.int m,.ref l2])
  have g:=(g1.trans g2).trans g3
  refine q z (ts.filter λu=>off ps u.2) _ g ⟨⟨l2,ag,g3 _ _ ag⟩,λu hu=>g _ _ (W.tup u (DX.mp hu).1),λu hu=>W.pr u (DX.mp hu).1,?_⟩ ?_
  ·exact DT (HZ _ _) W.len
  ·rw[LC];rfl
end
abbrev u9:Sp:=λvs H Q _=>∃(n:Int) (r:Addr) (m:Nat) (ts:List (Addr×List Int)),vs=[.int n,.ref r]/\0<=n/\Wb H r m ts/\m<=200/\∀(p q:Addr) (n':Int) (ps:List Int) (H':Hp),aE H H'->H' p=some (.tup [.ref q,.int n'])->H' q=some (.tup (ps.map V.int))->(∀v∈ps,0<=v/\v<m)->ps.Nodup->Q (.ref p) H'
@[irreducible] def p8:Sp:=u9
theorem iJ {vs:List V}{H:Hp}{Q:VK}{E:XK}:p8 vs H Q E↔u9 vs H Q E:=by
 delta p8
 exact Fd
theorem CB {d:Int}(h0:0<=d)(h1:d<4):∃e:Int,0<e/\e<=4/\atI [V.int 2,.int 4,.int 2,.int 3] d=some (.int e):=by
 rcases (show d=0\/d=1\/d=2\/d=3 by lia) with z | z | z | z <;> subst z <;> exact ⟨_,by decide,by decide,rfl⟩
section
variable  {P:De}{w:DN}{K:CM}{mg:Str->Option CJ}{base:Heap}{f T:Addr}{fd:Eh}
theorem fU:aO ["number", "web", "way", "places", "place", "bit"] ["number", "web"] (aF tG):=⟨rfl,rfl,rfl,by decide +kernel,rfl,by decide +kernel,by decide +kernel⟩
theorem Ac (F:Fun K "_law_some" "_law_some" tG f fd)(B:Blt mg):bS P w K mg base CX0 1 f fd ["number", "web"] p8:=by
 refine F.ok fU (λvs H Q E h =>?_) (λcdv A outer s H vs Q E hr h =>?_)
 ·obtain ⟨_,_,_,_,rfl,_⟩:=iJ.mp h
  rfl
 obtain ⟨n,r,m,ts,rfl,n0,W,m4,q⟩:=iJ.mp h
 refine ⟨_,(@ai _ _ _ _ _ (@bz _ _ _ _ _ _ (az aG rfl B.b_divmod aU (@aa _ _ _ _ _ (pv 0) (@aa _ _ _ _ _ ak ah rfl) rfl)) (bj rfl (aA (aq (i:=0) fU.nd rfl (Or.inl rfl)) (aA (aq (i:=2) fU.nd rfl (Or.inl rfl)) aW))) rfl rfl rfl)
  (@ai _ _ _ _ _ (@aM _ _ 3 _ _ _ _ fU.nd rfl (Or.inl rfl) (@bX _ _ _ _ ah) rfl (by first | exact .inl rfl | exact .inr rfl | assumption))
  (@ai _ _ _ _ _ (@bN _ _ _ _ _ _ _ _ DE rfl (bA rfl B.b_range (@aa _ _ _ _ _ (@aH _ _ _ _ _ _ _ aI (pv 1) ak (λ_ _=>rfl)) ah rfl)) (aq (i:=4) fU.nd rfl (Or.inl rfl))
   (@ai _ _ _ _ _ (@bz _ _ _ _ _ _ (az aG rfl B.b_divmod aU (@aa _ _ _ _ _ (pv 0) (@aa _ _ _ _ _ (@aH _ _ _ _ _ _ _ b8 (@bX _ _ _ _ (@aa _ _ _ _ _ ak (@aa _ _ _ _ _ ak (@aa _ _ _ _ _ ak (@aa _ _ _ _ _ ak ah rfl) rfl) rfl) rfl)) (pv 2) (λ_ _=>rfl)) ah rfl) rfl)) (bj rfl (aA (aq (i:=0) fU.nd rfl (Or.inl rfl)) (aA (aq (i:=5) fU.nd rfl (Or.inl rfl)) aW))) rfl rfl rfl)
   (@au _ _ _ (@bC _ _ _ _ _ _ _ _ (aK cQ (pv 5) ak (aS _)) (@au _ _ _ (bI (cU Dq DK DL bD (pv 3) (@aa _ _ _ _ _ (pv 4) ah rfl)))) aR))) (λ_=>rfl))
  (@au _ _ _ (@aL _ _ _ _ (@bo _ _ _ _ _ (@aa _ _ _ _ _ (aJ aX rfl B.b_tuple dA (@aa _ _ _ _ _ (pv 3) ah rfl)) (@aa _ _ _ _ _ (pv 0) ah rfl) rfl))))))),?_⟩
 obtain ⟨t,e1,e2⟩:=W.at'
 obtain ⟨q0,x0,x1⟩:=dmN (j:=4) n0 (by decide)
 refine ⟨_,rfl,n,4,rfl,⟨by decide,by decide⟩,λp hp=>⟨p,_,rfl,SqT.of ag,rfl,_,_,rfl,_,_,rfl,rfl,?_⟩⟩
 have s1:=af hp (.tup [.int (n/4),.int (n%4)])
 generalize upd H p (.tup [.int (n/4),.int (n%4)])=H1 at s1
 generalize n/4=n1 at q0
 generalize n%4=wy at x0 x1
 refine ⟨(by show 0<=C6;decide),λl hl =>?_⟩
 have hl0:=s1.free hl
 have s2:=s1.trans (af hl (.lst []))
 have el:upd H1 l (.lst []) l=some (.lst (([]:List Int).map V.int)):=ag
 generalize upd H1 l (.lst [])=H2 at s2 el
 obtain ⟨e,e0,e4,ae⟩:=CB x0 x1
 refine ⟨_,rfl,r,_,0,_,rfl,rfl,SqT.of (s2 _ _ e1),rfl,m,rfl,by lia,by lia,?_⟩
 let W0:Nat->St->Hp->Prop:=λk σ H'=>∃(nn:Int) (c5 c6:Option V) (ps:List Int),σ=[some (.int nn),some (.ref r),some (.int wy),some (.ref l),c5,c6]/\0<=nn/\aE H H'/\H' l=some (.lst (ps.map V.int))/\(∀v∈ps,0<=v/\v<k)/\ps.Nodup/\ps.length<=k
 refine bL (n:=m) W0 ⟨n1,_,_,[],rfl,q0,s2,el,λv h=>(by cases h),Gj,CO _⟩ ?_ ?_
 ·rintro k σ H3 hk ⟨nn,c5,c6,ps,rfl,nn0,s3,el3,rg,nd,lp⟩
  obtain ⟨q1,y0,y1⟩:=dmN nn0 e0
  refine ⟨_,rfl,(by show 4<=C6;decide),λl4 hl4 =>?_⟩
  have g4:=af hl4 (.lst [.int 2,.int 4,.int 2,.int 3])
  have el4:upd H3 l4 (.lst [.int 2,.int 4,.int 2,.int 3]) l4=some (.lst [.int 2,.int 4,.int 2,.int 3]):=ag
  generalize upd H3 l4 (.lst [.int 2,.int 4,.int 2,.int 3])=H4 at g4 el4
  refine ⟨_,rfl,l4,_,wy,_,rfl,rfl,SqL.of el4,ae,nn,e,rfl,⟨e0,by lia⟩,λp hp=>⟨p,_,rfl,SqT.of ag,rfl,_,_,rfl,_,_,rfl,rfl,?_⟩⟩
  have g5:=af hp (.tup [.int (nn/e),.int (nn%e)])
  have s5:=s3.trans (g4.trans g5)
  have el5:=g5 _ _ (g4 _ _ el3)
  generalize upd H4 p (.tup [.int (nn/e),.int (nn%e)])=H5 at s5 el5
  refine ⟨_,rfl,rfl,_,rfl,iS (λz =>?_) λz =>?_⟩
  ·refine ⟨_,rfl,.inl ⟨rfl,_,SqL.of el5⟩,_,rfl,l,_,_,rfl,rfl,el5,by rw[CG];exact bE (by lia),nn/e,_,_,ps++[(k:Int)],rfl,q1,aE.bG s5 hl0 _,by rw[ag,C2,GX];rfl,λv hv =>?_,df nd (λh=>by have:=rg _ h;lia),by rw[CL];show _+1<=_;lia⟩
   rcases CW.mp hv with z | z
   ·have:=rg v z;lia
   ·rw[CQ] at z;subst z;lia
  ·exact ⟨nn/e,_,_,ps,rfl,q1,s5,el5,λv hv=>by have:=rg v hv;lia,nd,by lia⟩
 ·rintro σ H3 ⟨nn,c5,c6,ps,rfl,nn0,s3,el3,rg,nd,lp⟩
  refine ⟨_,rfl,l,_,rfl,.inl ⟨SqL.of el3,λq1 hq1=>⟨_,rfl,(by show 2<=C6;decide),λp1 hp1 =>?_⟩⟩⟩
  have g4:=af hq1 (.tup (ps.map V.int))
  have g5:=af hp1 (.tup [.ref q1,.int nn])
  exact q p1 q1 nn ps _ (s3.trans (g4.trans g5)) ag (g5 _ _ ag) rg nd
end
section
variable  {P:De}{w:DN}{K:CM}{mg:Str->Option CJ}{base:Heap}{f T:Addr}{fd:Eh}
theorem jS:aO ["number", "way"] ["number"] (aF l6):=⟨rfl,rfl,rfl,by decide +kernel,rfl,by decide +kernel,by decide +kernel⟩
theorem wt (F:Fun K "_law_any_web" "_law_any_web" l6 f fd)(B:Blt mg)(cLWeb:Cal P w K mg base 1 "_law_web" ["number", "most"] pB)(cLWide:Cal P w K mg base 1 "_law_wide" ["number"] gx)(cLDense:Cal P w K mg base 1 "_law_dense" ["number"] gx):bS P w K mg base CX0 2 f fd ["number"] gx:=by
 refine F.ok jS (λvs H Q E h =>?_) (λcdv A outer s H vs Q E hr h =>?_)
 ·obtain ⟨_,rfl,_⟩:=ck.mp h
  rfl
 obtain ⟨n,rfl,n0,q⟩:=ck.mp h
 refine ⟨_,(@ai _ _ _ _ _ (@bz _ _ _ _ _ _ (az aG rfl B.b_divmod aU (@aa _ _ _ _ _ (pv 0) (@aa _ _ _ _ _ ak ah rfl) rfl)) (bj rfl (aA (aq (i:=0) jS.nd rfl (Or.inl rfl)) (aA (aq (i:=1) jS.nd rfl (Or.inl rfl)) aW))) rfl rfl rfl)
  (@ai _ _ _ _ _ (@bC _ _ _ _ _ _ _ _ (aK cQ (pv 1) ak (aS _)) (@au _ _ _ (@aL _ _ _ _ (aV cLWide hr (by decide) rfl (@aa _ _ _ _ _ (pv 0) ah rfl)))) aR)
  (@ai _ _ _ _ _ (@bC _ _ _ _ _ _ _ _ (aK cQ (pv 1) ak (aS _)) (@au _ _ _ (@aL _ _ _ _ (aV cLDense hr (by decide) rfl (@aa _ _ _ _ _ (pv 0) ah rfl)))) aR)
  (@au _ _ _ (@aL _ _ _ _ (aV cLWeb hr (by decide) rfl (@aa _ _ _ _ _ (pv 0) (@aa _ _ _ _ _ ak ah rfl) rfl))))))),?_⟩
 obtain ⟨q0,x0,x1⟩:=dmN (j:=8) n0 (by decide)
 refine ⟨_,rfl,n,8,rfl,⟨by decide,by decide⟩,λp hp=>⟨p,_,rfl,SqT.of ag,rfl,_,_,rfl,_,_,rfl,rfl,?_⟩⟩
 have s1:=af hp (.tup [.int (n/8),.int (n%8)])
 generalize upd H p (.tup [.int (n/8),.int (n%8)])=H1 at s1
 generalize n/8=n1 at q0
 generalize n%8=wy at x0 x1
 refine ⟨_,rfl,rfl,_,rfl,iS (λz =>?_) λz =>?_⟩
 ·exact ⟨_,rfl,ck.mpr ⟨n1,rfl,q0,λp b n' m ts H' s=>q p b n' m ts H' (s1.trans s)⟩⟩
 refine ⟨_,rfl,rfl,_,rfl,iS (λz =>?_) λz =>?_⟩
 ·exact ⟨_,rfl,ck.mpr ⟨n1,rfl,q0,λp b n' m ts H' s=>q p b n' m ts H' (s1.trans s)⟩⟩
 exact ⟨_,rfl,iz.mpr ⟨n1,7,rfl,q0,by decide,by decide,λp b n' m ts H' s ep Wb m0 m7=>q p b n' m ts H' (s1.trans s) ep Wb m0 (by lia)⟩⟩
end
open PySem L2
theorem p9 {q:Int->Bool}:∀{l:List Int} {i:Nat} {p:Int},(l.filter q)[i]? = some p->∃j,l[j]? = some p/\(l.take j).filter q=(l.filter q).take i
 | [],i,p,e=>by simp at e
 | a :: l,i,p,e=>by
  by_cases c:q a=true
  ·rw[En c] at e ⊢
   cases i with
   | zero=>exact ⟨0,e,rfl⟩
   | succ i =>
    obtain ⟨j,h1,h2⟩:=p9 (l:=l) (i:=i) (p:=p) e
    exact ⟨j+1,h1,by rw[Iy,En c,Iy,h2]⟩
  ·rw[EZ c] at e ⊢
   obtain ⟨j,h1,h2⟩:=p9 (l:=l) (i:=i) (p:=p) e
   exact ⟨j+1,h1,by rw[Iy,EZ c,h2]⟩
def rest (R G:List Int):List Int:=G.filter λv => !decide (v∈R)
theorem fY {R G:List Int}{v:Int}:v∈rest R G↔v∈G/\v∉R:=by unfold rest;rw[DX];simp
theorem wx {m:Nat}{R G:List Int}(pm:G.Perm (rgI m))(nR:R.Nodup)(rR:∀v∈R,0<=v/\v<m):(rest R G++R).Perm (rgI m):=by
 have nG:G.Nodup:=pm.nodup_iff.mpr (cO m)
 have nd:(rest R G++R).Nodup:=by
  rw[Fc]
  exact ⟨IT Ho nG,nR,λx hx y hy e=>(fY.mp hx).2 (e ▸ hy)⟩
 rw[G9 nd (cO m)]
 intro v
 rw[CW,fY,cq]
 constructor
 ·rintro (h | h)
  ·exact cq.mp (pm.mem_iff.mp h.1)
  ·exact rR v h
 ·intro h
  by_cases c:v∈R
  ·exact .inr c
  ·exact .inl ⟨pm.mem_iff.mpr (cq.mpr h),c⟩
theorem fF {R:List Int}{a b:Int}:off R [a,b]=true↔a∉R/\b∉R:=by unfold off;simp
theorem Pld.rest {m:Nat}{ns:List (List Int)}(O:Ok m ns){R G:List Int}(h:Pld (ns.filter (off R)) G):Pld (ns.filter (off R)) (rest R G):=by
 refine ⟨IT Ho h.1,λi p e =>?_⟩
 obtain ⟨j,h1,h2⟩:=p9 (q:=λv => !decide (v∈R)) e
 have:=h.2 j p h1
 rw[show (ns.filter (off R)).filter (off ((_root_.K13.rest R G).take i))=(ns.filter (off R)).filter (off (G.take j)) from G7 λt ht=>by
  obtain ⟨hn,ho⟩:=DX.mp ht
  obtain ⟨a,b,rfl,_⟩:=O t hn
  obtain ⟨na,nb⟩:=fF.mp ho
  have k:∀v:Int,v∉R->(v∈(_root_.K13.rest R G).take i↔v∈G.take j):=λv nv=>by
   show v∈(G.filter λv => !decide (v∈R)).take i↔_
   rw[<- h2,DX]
   simp[nv]
  rw[Fh,fF,fF,k a na,k b nb]]
 exact this
abbrev rX:Sp:=λvs H Q _=>∃(r p:Addr) (m:Nat) (ts:List (Addr×List Int)) (R:List Int),vs=[.ref r,.ref p]/\Wb H r m ts/\m<=200/\H p=some (.tup (R.map V.int))/\(∀v∈R,0<=v/\v<m)/\R.Nodup/\(∀(q l:Addr) (H':Hp) (G:List Int),aE H H'->H' q=some (.tup [.str "clears",.ref l])->H l=none->H' l=some (.lst ((rest R G).map V.int))->dO ((ts.map (·.2)).filter (off R))->G.Perm (rgI m)->Pld ((ts.map (·.2)).filter (off R)) G->oF m ((ts.map (·.2)).filter (off R)) G->Q (.ref q) H')/\∀(q z:Addr) (H':Hp) (F:List Int),aE H H'->H' q=some (.tup [.str "ring",.ref z])->H' z=some (.tup (F.map V.int))->¬ dO ((ts.map (·.2)).filter (off R))->Ring m ((ts.map (·.2)).filter (off R)) F->we F->iF m ((ts.map (·.2)).filter (off R)) ((ts.map (·.2)).filter (off R)) F->Q (.ref q) H'
@[irreducible] def kI:Sp:=rX
theorem dC {vs:List V}{H:Hp}{Q:VK}{E:XK}:kI vs H Q E↔rX vs H Q E:=by
 delta kI
 exact Fd
section
variable  {P:De}{w:DN}{K:CM}{mg:Str->Option CJ}{base:Heap}{f T:Addr}{fd:Eh}
theorem jt:aO ["web", "places", "shown"] ["web", "places"] (aF gw):=⟨rfl,rfl,rfl,by decide +kernel,rfl,by decide +kernel,by decide +kernel⟩
theorem eE:(["place", "places"]:List Str).Nodup:=by decide +kernel
theorem qa (F:Fun K "shown_clear" "shown_clear" gw f fd)(B:Blt mg)(cPeeledWeb:Cal P w K mg base 6 "peeled_web" ["web"] Aa)(cCutWeb:Cal P w K mg base 1 "cut_web" ["web", "places"] mv):bS P w K mg base CX0 7 f fd ["web", "places"] kI:=by
 refine F.ok jt (λvs H Q E h =>?_) (λcdv A outer s H vs Q E hr h =>?_)
 ·obtain ⟨_,_,_,_,_,rfl,_⟩:=dC.mp h
  rfl
 obtain ⟨r,p,m,ts,R,rfl,W,m2,hp,rR,nR,q0,q1⟩:=dC.mp h
 refine ⟨_,(@ai _ _ _ _ _ (@aM _ _ 2 _ _ _ _ jt.nd rfl (Or.inl rfl) (aV cPeeledWeb hr (by decide) rfl (@aa _ _ _ _ _ (aV cCutWeb hr (by decide) rfl (@aa _ _ _ _ _ (pv 0) (@aa _ _ _ _ _ (pv 1) ah rfl) rfl)) ah rfl)) rfl (by first | exact .inl rfl | exact .inr rfl | assumption))
  (@ai _ _ _ _ _ (@bC _ _ _ _ _ _ _ _ (aK cQ (@aH _ _ _ _ _ _ _ aI (pv 2) ak (λ_ _=>rfl)) ig (aS _)) (@au _ _ _ (@aL _ _ _ _ (pv 2))) aR)
  (@au _ _ _ (@aL _ _ _ _ (@bo _ _ _ _ _ (@aa _ _ _ _ _ ig (@aa _ _ _ _ _ (bT ["place", "places"] [none,some 1] rfl (@bR _ _ _ _ (@aH _ _ _ _ _ _ _ aI (pv 2) ak (λ_ _=>rfl))) rfl (λ_ _ _ _ _=>(aq (i:=0) eE rfl (Or.inl rfl))) (λ_ _ _ _ _=>(jC (aK (fe (K:=K)) (pv 0) (pv 1) rfl))) (λ_ _ _ _ _=>(pv 0))) ah rfl) rfl)))))),?_⟩
 have O:=jj W
 refine ⟨_,rfl,_,rfl,dg.mpr ⟨r,p,m,ts,R,rfl,W,.inr hp,λc us H1 s1 Wc eu =>?_⟩⟩
 refine mG.mpr ⟨c,m,us,rfl,Wc,m2,λsh l H2 G s2 es hl el wd pd rg lG pe =>?_,λsh z H2 F s2 es ez nw rgf cn ld =>?_⟩
 ·rw[eu] at wd pd pe
  have s12:=s1.trans s2
  refine ⟨_,rfl,sh,_,0,_,rfl,rfl,SqT.of es,rfl,rfl,_,rfl,?_⟩
  rw[decide_eq_false (by intro z;injection z with z;exact absurd z (by decide))]
  refine bM ⟨_,rfl,sh,_,1,_,rfl,rfl,SqT.of es,rfl,l,rfl,⟨_,SqL.of el⟩,cf (xs:=G.map V.int) (λi ys H'=>H'=H2/\ys=(rest R (G.take i)).map V.int) ⟨rfl,rfl⟩ (by rw[CG];exact small (by lia)) (λi ys H' _ z=>by rw[z.1];exact SqL.of el) ?_ ?_⟩
  ·rintro i x ys H3 hx hy ⟨eH,rfl⟩ R1 R0 r1 r0
   obtain ⟨v,ev,rfl⟩:=fV hx
   refine ⟨_,rfl,_,rfl,p,_,rfl,.inr (SqT.of (by rw[eH];exact s12 _ _ hp)),rfl,dU R,_,rfl,?_⟩
   show if (if true=true then !inV (.int v) (R.map V.int) else _)=true then _ else _
   rw[if_pos rfl,d9]
   by_cases d:v∈R
   ·rw[decide_eq_true d]
    exact bM (r0 _ ⟨eH,by unfold rest;rw[dW ev,if_neg (by simp[d]),DU]⟩)
   ·rw[decide_eq_false d]
    exact bF ⟨_,rfl,r1 _ _ ⟨eH,by unfold rest;rw[dW ev,if_pos (by simp[d])]⟩⟩
  ·rintro ys H3 hy ⟨eH,rfl⟩ l2 hl2
   rw[eH] at hl2 ⊢
   rw[CG,C7 (CO _)]
   have g3:=af hl2 (.lst ((rest R G).map V.int))
   refine ⟨(by show 2<=C6;decide),λq2 hq2=>q0 q2 l2 _ G (s12.trans (g3.trans (af hq2 _))) ag (s12.free hl2) ((af hq2 _) _ _ ag) wd (pd.good (fT O R) rg lG).1 pd pe⟩
 ·rw[eu] at nw rgf ld
  refine ⟨_,rfl,sh,_,0,_,rfl,rfl,SqT.of es,rfl,rfl,_,rfl,bF ⟨_,rfl,q1 sh z H2 F (s1.trans s2) es ez nw rgf cn ld⟩⟩
end
open PySem L2
abbrev AB:Sp:=λvs H Q _=>∃(b pl to:Addr) (m:Nat) (ts:List (Addr×List Int)) (R:List Int) (cl:Bool),vs=[.ref b,.ref pl,.ref to,.bl cl]/\Wb H b m ts/\m<=200/\H pl=some (.tup (R.map V.int))/\((cl=true/\∃(l:Addr) (G:List Int),H to=some (.tup [.str "clears",.ref l])/\H l=some (.lst (G.map V.int))/\(G++R).Perm (rgI m)/\(∀a,[a,a]∉(ts.map (·.2)).filter (off R))/\∀i,i<G.length->(((ts.map (·.2)).filter (off R)).map (mi G)).count i<=1)\/(cl=false/\∃(z:Addr) (F:List Int),H to=some (.tup [.str "ring",.ref z])/\H z=some (.tup (F.map V.int))/\Ring m ((ts.map (·.2)).filter (off R)) F/\we F))/\∀H',aE H H'->Q (.bl true) H'
@[irreducible] def Ad:Sp:=AB
theorem ju {vs:List V}{H:Hp}{Q:VK}{E:XK}:Ad vs H Q E↔AB vs H Q E:=by
 delta Ad
 exact Fd
section
variable  {P:De}{w:DN}{K:CM}{mg:Str->Option CJ}{base:Heap}{f T:Addr}{fd:Eh}
theorem m6:aO ["web", "places", "told", "clear"] ["web", "places", "told", "clear"] (aF fQ):=⟨rfl,rfl,rfl,by decide +kernel,rfl,by decide +kernel,by decide +kernel⟩
theorem eB:(["place", "places"]:List Str).Nodup:=by decide +kernel
theorem m8 (F:Fun K "_law_shown_right" "_law_shown_right" fQ f fd)(B:Blt mg)(cLWholes:Cal P w K mg base 1 "_law_wholes" ["found"] js)(cLPeelRight:Cal P w K mg base 1 "_law_peel_right" ["web", "order", "places"] z9)(cLIsRing:Cal P w K mg base 2 "_law_is_ring" ["web", "ring"] uZ)(cLForm:Cal P w K mg base 1 "_law_form" ["ring"] kD):bS P w K mg base CX0 3 f fd ["web", "places", "told", "clear"] Ad:=by
 refine F.ok m6 (λvs H Q E h =>?_) (λcdv A outer s H vs Q E hr h =>?_)
 ·obtain ⟨_,_,_,_,_,_,_,rfl,_⟩:=ju.mp h
  rfl
 obtain ⟨b,pl,to,m,ts,R,cl,rfl,W,m2,hp,cs,q⟩:=ju.mp h
 refine ⟨_,(@ai _ _ _ _ _ (@bC _ _ _ _ _ _ _ _ (PW.pt (jT (ij (fG (az dy rfl B.b_isinstance cx (@aa _ _ _ _ _ (pv 2) (@aa _ _ _ _ _ (gH (v :=.ty "tuple") rfl B.b_tuple dA rfl) ah rfl) rfl)))) (jT (aK kO (az aY rfl B.b_len eU (@aa _ _ _ _ _ (pv 2) ah rfl)) ak (aS _)) (kK (ij (fG (aV cLWholes hr (by decide) rfl (@aa _ _ _ _ _ (@aH _ _ _ _ _ _ _ aI (pv 2) ak (λ_ _=>rfl)) ah rfl)))))))) cX aR)
  (@ai _ _ _ _ _ (@bC _ _ _ _ _ _ _ _ (fG (pv 3)) (@au _ _ _ (@aL _ _ _ _ (oN (di cQ (@aH _ _ _ _ _ _ _ aI (pv 2) ak (λ_ _=>rfl)) ig (aS _)) (oN (az dy rfl B.b_isinstance cx (@aa _ _ _ _ _ (@aH _ _ _ _ _ _ _ aI (pv 2) ak (λ_ _=>rfl)) (@aa _ _ _ _ _ (gH (v :=.ty "list") rfl B.b_list dJ rfl) ah rfl) rfl)) (rZ (aV cLPeelRight hr (by decide) rfl (@aa _ _ _ _ _ (pv 0) (@aa _ _ _ _ _ (@aH _ _ _ _ _ _ _ aI (pv 2) ak (λ_ _=>rfl)) (@aa _ _ _ _ _ (pv 1) ah rfl) rfl) rfl))))))) aR)
  (@ai _ _ _ _ _ (@bC _ _ _ _ _ _ _ _ (PW.pt (jT (aK kO (@aH _ _ _ _ _ _ _ aI (pv 2) ak (λ_ _=>rfl)) ig (aS _)) (jT (ij (fG (az dy rfl B.b_isinstance cx (@aa _ _ _ _ _ (@aH _ _ _ _ _ _ _ aI (pv 2) ak (λ_ _=>rfl)) (@aa _ _ _ _ _ (gH (v :=.ty "tuple") rfl B.b_tuple dA rfl) ah rfl) rfl)))) (kK (ij (fG (aV cLIsRing hr (by decide) rfl (@aa _ _ _ _ _ (pv 0) (@aa _ _ _ _ _ (@aH _ _ _ _ _ _ _ aI (pv 2) ak (λ_ _=>rfl)) ah rfl) rfl)))))))) cX aR)
  (@au _ _ _ (@aL _ _ _ _ (oN (di (zI hr) (@aH _ _ _ _ _ _ _ aI (pv 2) ak (λ_ _=>rfl)) (aV cLForm hr (by decide) rfl (@aa _ _ _ _ _ (@aH _ _ _ _ _ _ _ aI (pv 2) ak (λ_ _=>rfl)) ah rfl)) (aS _)) (rZ (di (zL hr) (bT ["place", "places"] [none,some 1] rfl (@ik _ _ _ _ (@aH _ _ _ _ _ _ _ aI (pv 2) ak (λ_ _=>rfl))) rfl (λ_ _ _ _ _=>(aq (i:=0) eB rfl (Or.inl rfl))) (λ_ _ _ _ _=>(jC (aK (A7 (K:=K)) (pv 0) (pv 1) rfl))) (λ_ _ _ _ _=>(pv 0))) (@bX _ _ _ _ ah) (aS _))))))))),?_⟩
 have O:=jj W
 rcases cs with ⟨rfl,l,G,et,el,pm,nl,c1⟩ | ⟨rfl,z,F,et,ez,rgf,cn⟩
 ·have lG:G.length+R.length=m:=by have:=pm.length_eq;rw[CL] at this;rw[this];unfold rgI;simp
  refine ⟨_,rfl,.ref to, "tuple",_,true,rfl,.tup et,rfl,_,rfl,bM ?_⟩
  refine ⟨_,rfl,to,_,rfl,.inr (SqT.of et),rfl,_,rfl,kX rfl ?_⟩
  refine ⟨_,rfl,to,_,1,_,rfl,rfl,SqT.of et,rfl,dQ.mpr ⟨l,G,rfl,.inl el,by lia,λH2 s2=>⟨_,rfl,bM ?_⟩⟩⟩
  have et2:=s2 _ _ et
  have el2:=s2 _ _ el
  refine ⟨_,rfl,_,rfl,bF ⟨_,rfl,to,_,0,_,rfl,rfl,SqT.of et2,rfl,rfl,_,rfl,bF ?_⟩⟩
  refine ⟨_,rfl,to,_,1,_,rfl,rfl,SqT.of et2,rfl,.ref l, "list",_,true,rfl,.lst el2,rfl,_,rfl,bF ?_⟩
  refine ⟨_,rfl,_,rfl,to,_,1,_,rfl,rfl,SqT.of et2,rfl,_,rfl,mF.mpr ⟨b,l,pl,m,ts,G,R,rfl,W.same s2,m2,el2,s2 _ _ hp,pm,nl,c1,λH3 s3=>q H3 (s2.trans s3)⟩⟩
 ·have lF:=bZ rgf.nd rgf.rng
  refine ⟨_,rfl,.ref to, "tuple",_,true,rfl,.tup et,rfl,_,rfl,bM ?_⟩
  refine ⟨_,rfl,to,_,rfl,.inr (SqT.of et),rfl,_,rfl,kX rfl ?_⟩
  refine ⟨_,rfl,to,_,1,_,rfl,rfl,SqT.of et,rfl,dQ.mpr ⟨z,F,rfl,.inr ez,by lia,λH2 s2=>⟨_,rfl,bM ?_⟩⟩⟩
  have et2:=s2 _ _ et
  have ez2:=s2 _ _ ez
  refine ⟨_,rfl,_,rfl,bM ⟨_,rfl,to,_,0,_,rfl,rfl,SqT.of et2,rfl,rfl,_,rfl,kX rfl ?_⟩⟩
  refine ⟨_,rfl,to,_,1,_,rfl,rfl,SqT.of et2,rfl,.ref z, "tuple",_,true,rfl,.tup ez2,rfl,_,rfl,bM ?_⟩
  refine ⟨_,rfl,_,rfl,to,_,1,_,rfl,rfl,SqT.of et2,rfl,jQ.mpr ⟨b,z,m,ts,F,rfl,W.same s2,m2,ez2,rgf.mono (tM _ _),λH3 s3=>⟨_,rfl,bM ?_⟩⟩⟩
  have s23:=s2.trans s3
  have et3:=s23 _ _ et
  have ez3:=s23 _ _ ez
  refine ⟨_,rfl,to,_,1,_,rfl,rfl,SqT.of et3,rfl,_,rfl,to,_,1,_,rfl,rfl,SqT.of et3,rfl,gG.mpr ⟨z,F,rfl,ez3,cn,by lia,λz2 H4 s4 ez4=>⟨z,z2,F,F,rfl,rfl,SqT.of (s4 _ _ ez3),SqT.of ez4,_,rfl,?_⟩⟩⟩
  rw[decide_eq_true (rfl:F=F)]
  have et4:=s4 _ _ et3
  have ez4':=s4 _ _ ez3
  have hp4:=s4 _ _ (s23 _ _ hp)
  refine bF ⟨_,rfl,to,_,1,_,rfl,rfl,SqT.of et4,rfl,z,rfl,⟨_,SqT.of ez4'⟩,dR (xs:=F.map V.int) (λi ys H'=>H'=H4/\ys=[]) ⟨rfl,rfl⟩ (by rw[CG];exact small (by lia)) (λi ys H' _ y=>by rw[y.1];exact SqT.of ez4') ?_ ?_⟩
  ·rintro i x ys H5 hx hy ⟨eH,rfl⟩ R1 R0 r1 r0
   obtain ⟨v,ev,rfl⟩:=fV hx
   refine ⟨_,rfl,_,rfl,pl,_,rfl,.inr (SqT.of (by rw[eH];exact hp4)),rfl,dU R,_,rfl,?_⟩
   show if (if false=true then _ else inV (.int v) (R.map V.int))=true then _ else _
   rw[if_neg C8,d9]
   have nv:v∉R:=by
    obtain ⟨u,hu⟩:=rgf.tied (CT ev)
    obtain ⟨_,h2⟩:=DX.mp hu
    rcases IS u v with y | y
    ·rw[b7 y] at h2;exact (fF.mp h2).2
    ·rw[cu,b7 y] at h2;exact (fF.mp h2).1
   rw[decide_eq_false nv]
   exact bM (r0 _ ⟨eH,rfl⟩)
  ·rintro ys H5 hy ⟨eH,rfl⟩ l hl
   rw[eH] at hl ⊢
   have g5:=af hl (.lst [])
   have el:upd H4 l (.lst []) l=some (.lst (([]:List Int).map V.int)):=ag
   generalize upd H4 l (.lst [])=H6 at g5 el
   refine ⟨(by show 0<=C6;decide),λl2 hl2 =>?_⟩
   have g6:=af hl2 (.lst [])
   have:=q (upd H6 l2 (.lst [])) (s23.trans (s4.trans (g5.trans g6)))
   exact ⟨l,l2,[],[],rfl,rfl,SqL.of (g6 _ _ el),SqL.of ag,by rw[decide_eq_true (rfl:([]:List Int)=[])];exact this⟩
end
open PySem L2
def rY (K:CM):Sp:=λvs H Q _=>∃(a:Addr) (ns:List Int),vs=[.ref a]/\SqL K H a (ns.map V.int)/\ns.length<=63/\∀H',Q (.bl true) H'
theorem oJ {K:CM}{vs:List V}{H:Hp}{Q:VK}{E:XK}:rY K vs H Q E↔∃(a:Addr) (ns:List Int),vs=[.ref a]/\SqL K H a (ns.map V.int)/\ns.length<=63/\∀H',Q (.bl true) H':=Fd
theorem mH {K:CM}{H:Hp}{n:Nat}:∀ns:List Int,Paired (EqS K H (n+1)) (ns.map V.int) (ns.map V.int)
 | [] =>.nil
 | a :: t =>.cons (.inl ⟨a,rfl,rfl⟩) (mH t)
section
variable  {P:De}{w:DN}{K:CM}{mg:Str->Option CJ}{base:Heap}{f T:Addr}{fd:Eh}
theorem ie:aO ["script", "web", "number", "cell", "places", "clear", "told", "kept"] ["script"] (aF wa):=⟨rfl,rfl,rfl,by decide +kernel,rfl,by decide +kernel,by decide +kernel⟩
theorem CC (F:Fun K "law" "law" wa f fd)(B:Blt mg)(cLAnyWeb:Cal P w K mg base 2 "_law_any_web" ["number"] gx)(cLDeal:Cal P w K mg base 1 "_law_deal" ["cell", "salt"] pz)(cLSome:Cal P w K mg base 1 "_law_some" ["number", "web"] p8)(cLIsWood:Cal P w K mg base 1 "_law_is_wood" ["web"] pX)(cClearsWeb:Cal P w K mg base 4 "clears_web" ["web", "places"] u7)(cShownClear:Cal P w K mg base 7 "shown_clear" ["web", "places"] kI)(cLCell:Cal P w K mg base 1 "_law_cell" ["script", "k"] (pq K))(cLCut:Cal P w K mg base 1 "_law_cut" ["web", "places"] mv)(cLShownRight:Cal P w K mg base 3 "_law_shown_right" ["web", "places", "told", "clear"] Ad):bS P w K mg base CX0 8 f fd ["script"] (rY K):=by
 refine F.ok ie (λvs H Q E h =>?_) (λcdv A outer s H vs Q E hr h =>?_)
 ·obtain ⟨_,_,rfl,_⟩:=oJ.mp h
  rfl
 obtain ⟨a,nn,rfl,hS,h63,q⟩:=oJ.mp h
 refine ⟨_,(@ai _ _ _ _ _ (@bz _ _ _ _ _ _ (aV cLAnyWeb hr (by decide) rfl (@aa _ _ _ _ _ (aV cLDeal hr (by decide) rfl (@aa _ _ _ _ _ (aV cLCell hr (by decide) rfl (@aa _ _ _ _ _ (pv 0) (@aa _ _ _ _ _ ak ah rfl) rfl)) (@aa _ _ _ _ _ ak ah rfl) rfl)) ah rfl)) (bj rfl (aA (aq (i:=1) ie.nd rfl (Or.inl rfl)) (aA (aq (i:=2) ie.nd rfl (Or.inl rfl)) aW))) rfl rfl rfl)
  (@ai _ _ _ _ _ (@bN _ _ _ _ _ _ _ _ DE rfl (@bR _ _ _ _ (@aT _ _ _ _ _ _ _ _ kh (@bX _ _ _ _ (@aa _ _ _ _ _ ak ah rfl)) (du t6 (pv 0) (dG ak) (dG (@aH _ _ _ _ _ _ _ b8 (@bX _ _ _ _ (@aa _ _ _ _ _ ak (@aa _ _ _ _ _ ak ah rfl) rfl)) (aJ gL rfl B.b_int mf (@aa _ _ _ _ _ (di Af (@aH _ _ _ _ _ _ _ aI (pv 1) ak (λ_ _=>rfl)) ak (aS _)) ah rfl)) (λ_ _=>rfl)))))) (aq (i:=3) ie.nd rfl (Or.inl rfl))
   (@ai _ _ _ _ _ (@bz _ _ _ _ _ _ (aV cLSome hr (by decide) rfl (@aa _ _ _ _ _ (aV cLDeal hr (by decide) rfl (@aa _ _ _ _ _ (pv 3) (@aa _ _ _ _ _ ak ah rfl) rfl)) (@aa _ _ _ _ _ (pv 1) ah rfl) rfl)) (bj rfl (aA (aq (i:=4) ie.nd rfl (Or.inl rfl)) (aA (aq (i:=2) ie.nd rfl (Or.inl rfl)) aW))) rfl rfl rfl)
   (@ai _ _ _ _ _ (@aM _ _ 5 _ _ _ _ ie.nd rfl (Or.inl rfl) (aV cLIsWood hr (by decide) rfl (@aa _ _ _ _ _ (aV cLCut hr (by decide) rfl (@aa _ _ _ _ _ (pv 1) (@aa _ _ _ _ _ (pv 4) ah rfl) rfl)) ah rfl)) rfl (by first | exact .inl rfl | exact .inr rfl | assumption))
   (@ai _ _ _ _ _ (@aM _ _ 6 _ _ _ _ ie.nd rfl (Or.inl rfl) (aV cClearsWeb hr (by decide) rfl (@aa _ _ _ _ _ (pv 1) (@aa _ _ _ _ _ (pv 4) ah rfl) rfl)) rfl (by first | exact .inl rfl | exact .inr rfl | assumption))
   (@ai _ _ _ _ _ (@bC _ _ _ _ _ _ _ _ (PW.pt (jT (ij (fG (az dy rfl B.b_isinstance cx (@aa _ _ _ _ _ (pv 6) (@aa _ _ _ _ _ (gH (v :=.ty "bool") rfl B.b_bool uG rfl) ah rfl) rfl)))) (kK (aK kO (pv 6) (pv 5) (aS _))))) cX aR)
   (@ai _ _ _ _ _ (@aM _ _ 6 _ _ _ _ ie.nd rfl (Or.inl rfl) (aV cShownClear hr (by decide) rfl (@aa _ _ _ _ _ (pv 1) (@aa _ _ _ _ _ (pv 4) ah rfl) rfl)) rfl (by first | exact .inl rfl | exact .inr rfl | assumption))
   (@ai _ _ _ _ _ (@bC _ _ _ _ _ _ _ _ (ij (fG (aV cLShownRight hr (by decide) rfl (@aa _ _ _ _ _ (pv 1) (@aa _ _ _ _ _ (pv 4) (@aa _ _ _ _ _ (pv 6) (@aa _ _ _ _ _ (pv 5) ah rfl) rfl) rfl) rfl)))) cX aR)
   (@au _ _ _ (@bC _ _ _ _ _ _ _ _ (fG (pv 5)) (@ai _ _ _ _ _ (@aM _ _ 7 _ _ _ _ ie.nd rfl (Or.inl rfl) (aJ cS rfl B.b_list dJ (@aa _ _ _ _ _ (@aH _ _ _ _ _ _ _ aI (pv 6) ak (λ_ _=>rfl)) ah rfl)) rfl (by first | exact .inl rfl | exact .inr rfl | assumption))
    (@ai _ _ _ _ _ (bI (cU Dq DK DL bD (@aH _ _ _ _ _ _ _ aI (pv 6) ak (λ_ _=>rfl)) (@aa _ _ _ _ _ ak ah rfl)))
    (@au _ _ _ (@bC _ _ _ _ _ _ _ _ (aK (uB hr) (aV cShownClear hr (by decide) rfl (@aa _ _ _ _ _ (pv 1) (@aa _ _ _ _ _ (pv 4) ah rfl) rfl)) (@bo _ _ _ _ _ (@aa _ _ _ _ _ ig (@aa _ _ _ _ _ (pv 7) ah rfl) rfl)) (aS _)) cX aR)))) (@au _ _ _ (@bC _ _ _ _ _ _ _ _ (aK (uB hr) (aV cShownClear hr (by decide) rfl (@aa _ _ _ _ _ (pv 1) (@aa _ _ _ _ _ (pv 4) ah rfl) rfl)) (pv 6) (aS _)) cX aR)))))))))) (λ_=>rfl))
  (@au _ _ _ (@aL _ _ _ _ hZ)))),?_⟩
 refine ⟨_,rfl,iw.mpr ⟨a,nn,0,rfl,hS,by decide,λc0 =>?_⟩⟩
 refine fR.mpr ⟨c0,1,rfl,by decide,by decide,λn n0=>ck.mpr ⟨n,rfl,n0,λp b n' mI ts H1 s1 ep W mI0 m40 n'0 =>?_⟩⟩
 obtain ⟨m,rfl⟩:∃m:Nat,mI=m:=⟨mI.toNat,by lia⟩
 obtain ⟨t,e1,e2⟩:=W.at'
 have O:=jj W
 refine ⟨p,_,rfl,SqT.of ep,rfl,_,_,rfl,_,_,rfl,rfl,(by show 1<=C6;decide),λl0 hl0 =>?_⟩
 have g2:=af hl0 (.lst [.int 0])
 have el0:upd H1 l0 (.lst [.int 0]) l0=some (.lst [.int 0]):=ag
 generalize upd H1 l0 (.lst [.int 0])=H2 at g2 el0
 refine ⟨_,rfl,1,rfl,(by show 2<=C6;decide),λl1 hl1 =>?_⟩
 have g3:=af hl1 (.lst [.int 21,.int 6])
 have el1:upd H2 l1 (.lst [.int 21,.int 6]) l1=some (.lst [.int 21,.int 6]):=ag
 generalize upd H2 l1 (.lst [.int 21,.int 6])=H3 at g3 el1
 have g13:=g2.trans g3
 obtain ⟨v,ev⟩:∃v:Int,atI [V.int 21,V.int 6] (if decide (8<(m:Int))=true then 1 else 0)=some (.int v):=by
  cases decide (8<(m:Int)) <;> exact ⟨_,rfl⟩
 refine ⟨_,rfl,b,_,0,_,rfl,rfl,SqT.of (g13 _ _ e1),rfl,_,_,rfl,rfl,.inr ⟨_,rfl,l1,_,_,_,rfl,rfl,SqL.of el1,ev,v,rfl,a,_,rfl,(s1.trans g13).seq hS,λl2 hl2 =>?_⟩⟩
 obtain ⟨cs,ecs,lcs⟩:∃cs:List Int,fX (nn.map V.int) (some 1) (some v)=cs.map V.int/\cs.length<=63:=by
  unfold fX
  refine ⟨(nn.drop _).take _,(by rw[Io,G5]),?_⟩
  rw[Eb,Es];lia
 rw[ecs]
 have g4:=af hl2 (.lst (cs.map V.int))
 have el2:upd H3 l2 (.lst (cs.map V.int)) l2=some (.lst (cs.map V.int)):=ag
 generalize upd H3 l2 (.lst (cs.map V.int))=H4 at g4 el2
 refine ⟨l0,l2,_,_,rfl,rfl,SqL.of (g4 _ _ (g3 _ _ el0)),SqL.of el2,by rw[CG];exact small (by show 1+_<=_;lia),λS hS =>?_⟩
 rw[show ([V.int 0]++cs.map V.int:List V)=(0 :: cs).map V.int from rfl]
 have g5:=af hS (.lst ((0 :: cs).map V.int))
 have eS:upd H4 S (.lst ((0 :: cs).map V.int)) S=some (.lst ((0 :: cs).map V.int)):=ag
 have s5:=g13.trans (g4.trans g5)
 generalize upd H4 S (.lst ((0 :: cs).map V.int))=H5 at g5 eS s5
 refine ⟨S,rfl,⟨_,SqL.of eS⟩,dY (xs:=(0 :: cs).map V.int) (λi σ H'=>(∃c2 c3 c4 c5 c6 c7,σ=[some (.ref a),some (.ref b),c2,c3,c4,c5,c6,c7])/\aE H5 H') ⟨⟨_,_,_,_,_,_,rfl⟩,aE.refl _⟩ (λi σ H' _ z=>SqL.of (z.2 _ _ eS)) ?_ (λσ H' _=>q _)⟩
 rintro i x σ H6 hx ⟨⟨c2,c3,c4,c5,c6,c7,rfl⟩,s6⟩
 obtain ⟨cell,ec,rfl⟩:=fV hx
 have W6:=W.same (s5.trans s6)
 refine ⟨_,rfl,fR.mpr ⟨cell,2,rfl,by decide,by decide,λn2 n20=>⟨_,rfl,iJ.mpr ⟨n2,b,m,ts,rfl,n20,W6,by lia,λp2 q2 n3 R H7 s7 ep2 eq2 rR nR =>?_⟩⟩⟩⟩
 have W7:=W6.same s7
 have OE:=fT O R
 refine ⟨p2,_,rfl,SqT.of ep2,rfl,_,_,rfl,_,_,rfl,rfl,_,rfl,_,rfl,dg.mpr ⟨b,q2,m,ts,R,rfl,W7,.inr eq2,λcw us H8 s8 Wc eu =>?_⟩⟩
 refine iH.mpr ⟨cw,m,us,rfl,Wc,by lia,λH9 cl s9 hcl =>?_⟩
 rw[eu] at hcl
 have s79:=s8.trans s9
 refine ⟨_,rfl,_,rfl,jR.mpr ⟨b,q2,m,ts,R,rfl,W7.same s79,by lia,s79 _ _ eq2,λH10 b2 s10 hb2 =>?_⟩⟩
 have eb:b2=cl:=by rw[Fh,hb2,hcl]
 subst eb
 have s710:=s79.trans s10
 have W10:=W7.same s710
 refine ⟨_,rfl,.bl b2, "bool",_,true,rfl,.bl b2,rfl,_,rfl,bM ⟨_,rfl,_,rfl,rfl,_,rfl,kX rfl ?_⟩⟩
 refine ⟨_,rfl,_,rfl,dC.mpr ⟨b,q2,m,ts,R,rfl,W10,by lia,s710 _ _ eq2,rR,nR,λto l H11 G s11 et hl el wd pm pd pe =>?_,λto z H11 F s11 et ez nw rgf cn ld =>?_⟩⟩
 ·rw[hcl.mpr wd]
  have pdr:=Pld.rest O pd
  have prm:=wx pm nR rR
  have rG:=λv=>(pm.mem_iff (a:=v)).trans cq
  obtain ⟨nl,c1⟩:=pdr.cnt OE λx y hxy=>by
   obtain ⟨hn,ho⟩:=DX.mp hxy
   obtain ⟨nx,ny⟩:=fF.mp ho
   obtain ⟨_,_,e,a0,ab,bm⟩:=O _ hn
   cases e
   exact ⟨fY.mpr ⟨(rG x).mpr ⟨a0,by lia⟩,nx⟩,fY.mpr ⟨(rG y).mpr ⟨by lia,bm⟩,ny⟩⟩
  have s711:=s710.trans s11
  refine ⟨_,rfl,_,rfl,_,rfl,_,rfl,ju.mpr ⟨b,q2,to,m,ts,R,true,rfl,W10.same s11,by lia,s711 _ _ eq2,.inl ⟨rfl,l,rest R G,et,el,prm,nl,c1⟩,λH12 s12 =>?_⟩⟩
  have et12:=s12 _ _ et
  have el12:=s12 _ _ el
  have s1012:=s11.trans s12
  have lr:(rest R G).length<=40:=by
   have h1:=prm.length_eq
   rw[CL,show (rgI m).length=m by unfold rgI;simp] at h1
   lia
  refine ⟨_,rfl,bM ⟨_,rfl,_,rfl,bF ⟨_,rfl,to,_,1,_,rfl,rfl,SqT.of et12,rfl,l,_,rfl,.inl (SqL.of el12),λkp hkp =>?_⟩⟩⟩
  have g13:=af hkp (.lst ((rest R G).map V.int))
  have ekp:upd H12 kp (.lst ((rest R G).map V.int)) kp=some (.lst ((rest R G).map V.int)):=ag
  have nkl:kp≠l:=D8 (aB el12 hkp)
  have et13:=g13 _ _ et12
  have el13:=g13 _ _ el12
  have s13:=s1012.trans g13
  generalize upd H12 kp (.lst ((rest R G).map V.int))=H13 at g13 ekp et13 el13 s13
  refine ⟨_,rfl,to,_,1,_,rfl,rfl,SqT.of et13,rfl,.inl ⟨rfl,_,SqL.of el13⟩,l,_,_,rfl,rfl,el13,by rw[CG];exact iE (by lia),?_⟩
  have s14:=aE.bG s13 hl (.lst ((rest R G).map V.int++[.int 0]))
  have ekp14:upd H13 l (.lst ((rest R G).map V.int++[.int 0])) kp=some (.lst ((rest R G).map V.int)):=by rw[aD nkl];exact ekp
  generalize upd H13 l (.lst ((rest R G).map V.int++[.int 0]))=H14 at s14 ekp14
  refine ⟨_,rfl,_,rfl,dC.mpr ⟨b,q2,m,ts,R,rfl,W10.same s14,by lia,s14 _ _ (s710 _ _ eq2),rR,nR,λto2 l2 H15 G2 s15 et15 hl15 el15 wd15 _ _ pe15 =>?_,λ_ _ _ _ _ _ _ nw15 _ _ _=>absurd wd nw15⟩⟩
  rw[pe15.uniq pe] at el15
  refine ⟨_,rfl,(by show 2<=C6;decide),λtp htp =>?_⟩
  have g16:=af htp (.tup [.str "clears",.ref kp])
  refine ⟨to2,tp,_,_,rfl,rfl,SqT.of (g16 _ _ et15),SqT.of ag,.cons (.inr (.inl ⟨_,rfl,rfl⟩)) (.cons (.inr (.inr (.inr ⟨l2,kp,_,_,rfl,rfl,.inr ⟨SqL.of (g16 _ _ el15),SqL.of (g16 _ _ (s15 _ _ ekp14))⟩,mH _⟩))) .nil),_,rfl,bM ⟨⟨_,_,_,_,_,_,rfl⟩,s6.trans (s7.trans (s710.trans (s14.trans (s15.trans g16))))⟩⟩
 ·have ebb:b2=false:=by
   cases b2 with
   | false=>rfl
   | true=>exact absurd (hcl.mp rfl) nw
  rw[ebb]
  have s711:=s710.trans s11
  refine ⟨_,rfl,_,rfl,_,rfl,_,rfl,ju.mpr ⟨b,q2,to,m,ts,R,false,rfl,W10.same s11,by lia,s711 _ _ eq2,.inr ⟨rfl,z,F,et,ez,rgf,cn⟩,λH12 s12 =>?_⟩⟩
  have s1012:=s11.trans s12
  refine ⟨_,rfl,bM ⟨_,rfl,_,rfl,bM ?_⟩⟩
  refine ⟨_,rfl,_,rfl,dC.mpr ⟨b,q2,m,ts,R,rfl,W10.same s1012,by lia,s1012 _ _ (s710 _ _ eq2),rR,nR,λ_ _ _ _ _ _ _ _ wd15 _ _ _=>absurd wd15 nw,λto2 z2 H15 F2 s15 et15 ez15 _ _ _ ld15 =>?_⟩⟩
  have eF:F2=F:=ld15.uniq (λt ht=>by obtain ⟨x,y,e,_⟩:=OE t ht;exact ⟨x,y,e⟩) ld
  rw[eF] at ez15
  refine ⟨_,rfl,to2,to,_,_,rfl,rfl,SqT.of et15,SqT.of (s15 _ _ (s12 _ _ et)),.cons (.inr (.inl ⟨_,rfl,rfl⟩)) (.cons (.inr (.inr (.inr ⟨z2,z,_,_,rfl,rfl,.inl ⟨SqT.of ez15,SqT.of (s15 _ _ (s12 _ _ ez))⟩,mH F⟩))) .nil),_,rfl,bM ⟨⟨_,_,_,_,_,_,rfl⟩,s6.trans (s7.trans (s710.trans (s1012.trans s15)))⟩⟩
end
open PySem L2
theorem all_mk {l:PySem.W.OpenLaw}{w:DN}{K:CM}{h:Heap}{mg:Str->Option CJ}{fa:Addr}(X:K.In h)(G:h.Ns Ea mg)(hfa:mg "law" = some (.ref fa))
  (h1:cj K "tie_of" xT) (h2:cj K "ties_at" uD) (h3:cj K "near_lists" lV) (h4:cj K "tied_times" lX) (h5:cj K "cut_web" uE) (h6:cj K "reached_from" jb) (h7:cj K "hanging_parts" ic) (h8:cj K "spare_ties" lY) (h9:cj K "ring_form" jI) (h10:cj K "way_about" fA) (h11:cj K "ring_along" ip) (h12:cj K "shortest_of" gs) (h13:cj K "least_along" gu) (h14:cj K "least_ring" iq) (h15:cj K "peeled_places" dr) (h16:cj K "peeled_web" ir) (h17:cj K "clears_web" iu) (h18:cj K "shown_clear" gw) (h19:cj K "_law_cell" xU) (h20:cj K "_law_deal" xV) (h21:cj K "_law_web" An) (h22:cj K "_law_wide" xW) (h23:cj K "_law_dense" uF) (h24:cj K "_law_any_web" l6) (h25:cj K "_law_times" pk) (h26:cj K "_law_is_ring" l8) (h27:cj K "_law_form" tF) (h28:cj K "_law_is_wood" ma) (h29:cj K "_law_cut" xX) (h30:cj K "_law_peel_right" eJ) (h31:cj K "_law_some" tG) (h32:cj K "_law_wholes" me) (h33:cj K "_law_shown_right" fQ) (h34:cj K "law" wa)
  (y_all:EJ K Ea "all" = some none) (y_bool:EJ K Ea "bool" = some none) (y_divmod:EJ K Ea "divmod" = some none) (y_enumerate:EJ K Ea "enumerate" = some none) (y_int:EJ K Ea "int" = some none) (y_isinstance:EJ K Ea "isinstance" = some none) (y_len:EJ K Ea "len" = some none) (y_list:EJ K Ea "list" = some none) (y_max:EJ K Ea "max" = some none) (y_min:EJ K Ea "min" = some none) (y_range:EJ K Ea "range" = some none) (y_reversed:EJ K Ea "reversed" = some none) (y_set:EJ K Ea "set" = some none) (y_sorted:EJ K Ea "sorted" = some none) (y_sum:EJ K Ea "sum" = some none) (y_tuple:EJ K Ea "tuple" = some none)
  : ∃fd:Eh,(∀(s:CN) (v:CJ),BindsTo s fd ⟨[v],[]⟩ [("script",v)])/\∀base:Heap,K.In base->base.Ns Ea mg->bS l.prog w K mg base CX0 8 fa fd ["script"] (rY K):=by
 obtain ⟨fl,od,an,sl,oc,kV,dc,pm,cd,ct,al,ll,cl,kl⟩:=h34
 have e:=hfa.symm.trans (LZ X G al)
 cases e
 have F34:=wX ll cl kl
 have z_all:=D9 X G y_all
 have z_bool:=D9 X G y_bool
 have z_divmod:=D9 X G y_divmod
 have z_enumerate:=D9 X G y_enumerate
 have z_int:=D9 X G y_int
 have z_isinstance:=D9 X G y_isinstance
 have z_len:=D9 X G y_len
 have z_list:=D9 X G y_list
 have z_max:=D9 X G y_max
 have z_min:=D9 X G y_min
 have z_range:=D9 X G y_range
 have z_reversed:=D9 X G y_reversed
 have z_set:=D9 X G y_set
 have z_sorted:=D9 X G y_sorted
 have z_sum:=D9 X G y_sum
 have z_tuple:=D9 X G y_tuple
 refine ⟨PySem.W.fnOf "law" "law" (eI wa) (cy wa) (aF wa) .none kV dc pm an cd ct,λs v =>.of_eq rfl,λbase kb nb =>?_⟩
 have B:Blt mg:=⟨z_all,z_bool,z_divmod,z_enumerate,z_int,z_isinstance,z_len,z_list,z_max,z_min,z_range,z_reversed,z_set,z_sorted,z_sum,z_tuple⟩
 have cLWeb:=h21.cal l.prog w base X G (λF=>By F B) λ_ _ _ _ _ _ us hl=>match us,hl with | [_,_],_=>rfl
 have cLWide:=h22.cal l.prog w base X G (λF=>Bz F B) λ_ _ _ _ _ _ us hl=>match us,hl with | [_],_=>rfl
 have cLDense:=h23.cal l.prog w base X G (λF=>zM F B) λ_ _ _ _ _ _ us hl=>match us,hl with | [_],_=>rfl
 have cLAnyWeb:=h24.cal l.prog w base X G (λF=>wt F B cLWeb cLWide cLDense) λ_ _ _ _ _ _ us hl=>match us,hl with | [_],_=>rfl
 have cLDeal:=h20.cal l.prog w base X G (λF=>Bw F B) λ_ _ _ _ _ _ us hl=>match us,hl with | [_,_],_=>rfl
 have cLSome:=h31.cal l.prog w base X G (λF=>Ac F B) λ_ _ _ _ _ _ us hl=>match us,hl with | [_,_],_=>rfl
 have cLIsWood:=h28.cal l.prog w base X G (λF=>wm F B) λ_ _ _ _ _ _ us hl=>match us,hl with | [_],_=>rfl
 have cNearLists:=h3.cal l.prog w base X G (λF=>zO F z_range z_set z_sorted) λ_ _ _ _ _ _ us hl=>match us,hl with | [_],_=>rfl
 have cReachedFrom:=h6.cal l.prog w base X G (λF=>zQ F z_sorted) λ_ _ _ _ _ _ us hl=>match us,hl with | [_,_],_=>rfl
 have cHangingParts:=h7.cal l.prog w base X G (λF=>BC F B cNearLists cReachedFrom) λ_ _ _ _ _ _ us hl=>match us,hl with | [_],_=>rfl
 have cSpareTies:=h8.cal l.prog w base X G (λF=>zS F B cHangingParts) λ_ _ _ _ _ _ us hl=>match us,hl with | [_],_=>rfl
 have cCutWeb:=h5.cal l.prog w base X G (λF=>Cv F B) λ_ _ _ _ _ _ us hl=>match us,hl with | [_,_],_=>rfl
 have cClearsWeb:=h17.cal l.prog w base X G (λF=>rW F B cSpareTies cCutWeb) λ_ _ _ _ _ _ us hl=>match us,hl with | [_,_],_=>rfl
 have cTiesAt:=h2.cal l.prog w base X G (λF=>okAt F z_sum) λ_ _ _ _ _ _ us hl=>match us,hl with | [_,_],_=>rfl
 have cPeeledPlaces:=h15.cal l.prog w base X G (λF=>mE F B cNearLists cTiesAt) λ_ _ _ _ _ _ us hl=>match us,hl with | [_],_=>rfl
 have cShortestOf:=h12.cal l.prog w base X G (λF=>pM F B) λ_ _ _ _ _ _ us hl=>match us,hl with | [_],_=>rfl
 have cRingForm:=h9.cal l.prog w base X G (λF=>tK F B) λ_ _ _ _ _ _ us hl=>match us,hl with | [_],_=>rfl
 have cWayAbout:=h10.cal l.prog w base X G (λF=>tL F B) λ_ _ _ _ _ _ us hl=>match us,hl with | [_,_,_],_=>rfl
 have cTieOf:=h1.cal l.prog w base X G (λF=>Cy F z_max z_min) λ_ _ _ _ _ _ us hl=>match us,hl with | [_,_],_=>rfl
 have cTiedTimes:=h4.cal l.prog w base X G (λF=>zV F cTieOf) λ_ _ _ _ _ _ us hl=>match us,hl with | [_,_,_],_=>rfl
 have cRingAlong:=h11.cal l.prog w base X G (λF=>rB F B cWayAbout cTiedTimes) λ_ _ _ _ _ _ us hl=>match us,hl with | [_,_,_],_=>rfl
 have cLeastAlong:=h13.cal l.prog w base X G (λF=>pN F B cNearLists cShortestOf cRingForm cRingAlong) λ_ _ _ _ _ _ us hl=>match us,hl with | [_,_],_=>rfl
 have cLeastRing:=h14.cal l.prog w base X G (λF=>rH F B cLeastAlong) λ_ _ _ _ _ _ us hl=>match us,hl with | [_],_=>rfl
 have cPeeledWeb:=h16.cal l.prog w base X G (λF=>rT F B cPeeledPlaces cLeastRing) λ_ _ _ _ _ _ us hl=>match us,hl with | [_],_=>rfl
 have cShownClear:=h18.cal l.prog w base X G (λF=>qa F B cPeeledWeb cCutWeb) λ_ _ _ _ _ _ us hl=>match us,hl with | [_,_],_=>rfl
 have cLCell:=h19.cal l.prog w base X G (λF=>Bv F B) λ_ _ _ _ _ _ us hl=>match us,hl with | [_,_],_=>rfl
 have cLCut:=h29.cal l.prog w base X G (λF=>BJ F B) λ_ _ _ _ _ _ us hl=>match us,hl with | [_,_],_=>rfl
 have cLWholes:=h32.cal l.prog w base X G (λF=>wq F B) λ_ _ _ _ _ _ us hl=>match us,hl with | [_],_=>rfl
 have cLPeelRight:=h30.cal l.prog w base X G (λF=>pZ F B) λ_ _ _ _ _ _ us hl=>match us,hl with | [_,_,_],_=>rfl
 have cLTimes:=h25.cal l.prog w base X G (λF=>yF F B) λ_ _ _ _ _ _ us hl=>match us,hl with | [_,_,_],_=>rfl
 have cLIsRing:=h26.cal l.prog w base X G (λF=>wj F B cLTimes) λ_ _ _ _ _ _ us hl=>match us,hl with | [_,_],_=>rfl
 have cLForm:=h27.cal l.prog w base X G (λF=>z5 F B) λ_ _ _ _ _ _ us hl=>match us,hl with | [_],_=>rfl
 have cLShownRight:=h33.cal l.prog w base X G (λF=>m8 F B cLWholes cLPeelRight cLIsRing cLForm) λ_ _ _ _ _ _ us hl=>match us,hl with | [_,_,_,_],_=>rfl
 exact CC F34 B cLAnyWeb cLDeal cLSome cLIsWood cClearsWeb cShownClear cLCell cLCut cLShownRight
theorem walk {l:PySem.W.OpenLaw}{q:De}{loose:List Str}{XP:(Str->Option CJ)->Heap->Prop}{YP:DN->Heap->Prop}{d:DefRec}{K:Params->CM}(hn:l.most=some 63)(hdf:d.params.defaults=[])
  (hY:∀(w:DN) (h:Heap),YP w h->(K w.params).In h)
  (F:∀(w:DN) (mg:Str->Option CJ) (fa:Addr) (h:Heap),(K w.params).In h->h.Ns Ea mg->mg d.name=some (.ref fa) →
   ∃fd:Eh,(∀(s:CN) (u:CJ),BindsTo s fd ⟨[u],[]⟩ [("script",u)])/\∀base:Heap,(K w.params).In base->base.Ns Ea mg->bS l.prog w (K w.params) mg base CX0 8 fa fd ["script"] (rY (K w.params))) :
  PySem.W.WalkO q loose XP YP l.row.toRowW d [] (λf vs=>PySem.call f vs) :=
 L2.y7 (n:=63) (k:=8) (x := "script") (CX:=λ_=>CX0) (sp:=λw=>rY (K w.params)) hn (by decide) hdf ⟨rfl,by decide,by decide⟩ hY F (λ_ _ a ns hl _ hS=>⟨a,ns,rfl,hS,hl,λ_=>rfl⟩) λ_ _ _ _ _ z=>z
end K13
def PySem.W.Fast.tw8081005575167339435:Nat:=0
def PySem.W.Fast.tw3487637185254118843:Nat:=0
def PySem.W.Fast.tw11355880222839605207:Nat:=0
def PySem.W.Fast.tw11936487103611448361:Nat:=0
def PySem.W.Fast.tw510161118311844869:Nat:=0
def PySem.W.Fast.tw4726790472492599131:Nat:=0
def PySem.W.Fast.tw5613521321576669424:Nat:=0
def PySem.W.Fast.tw11101336652101373774:Nat:=0
def PySem.W.Fast.tw6366601394032489490:Nat:=0
def PySem.W.Fast.tw11789899722588911869:Nat:=0
def PySem.W.Fast.tw11264581240096533395:Nat:=0
def PySem.W.Fast.tw16178073754492722506:Nat:=0
def PySem.W.Fast.tw15122936470933205940:Nat:=0
def PySem.W.Fast.tw5139219535293628361:Nat:=0
def PySem.W.Fast.tw21407314645730021:Nat:=0
def PySem.W.Fast.tw6351287571371887588:Nat:=0
def PySem.W.Fast.tw3308665261940066091:Nat:=0
def PySem.W.Fast.tw13073553867823611879:Nat:=0
def PySem.W.Fast.tw12844039350658748943:Nat:=0
def PySem.W.Fast.tw17803222033224458175:Nat:=0
def PySem.W.Fast.tw10251655082748714914:Nat:=0
def PySem.W.Fast.tw17530089459215038632:Nat:=0
def PySem.W.Fast.tw17779812674281988852:Nat:=0
def PySem.W.Fast.tw7062289818949841558:Nat:=0
def PySem.W.Fast.tw17385170140307471216:Nat:=0
def PySem.W.Fast.tw6549886441374383204:Nat:=0
def PySem.W.Fast.tw10889247884747270518:Nat:=0
def PySem.W.Fast.tw2209396824779350905:Nat:=0
def PySem.W.Fast.tw14859885844009076088:Nat:=0
def PySem.W.Fast.tw3451634375262095034:Nat:=0
def PySem.W.Fast.tw16738750818964700281:Nat:=0
def PySem.W.Fast.tw11055294235332430553:Nat:=0
def PySem.W.Fast.tw4140053261549904607:Nat:=0
def PySem.W.Fast.tw17179714998596276744:Nat:=0
def PySem.W.Fast.tw16604350118400019061:Nat:=0
def PySem.W.Fast.tw5926294291986118373:Nat:=0
def PySem.W.Fast.tw9254983190992553275:Nat:=0
def PySem.W.Fast.tw10116213872571648046:Nat:=0
def PySem.W.Fast.tw5629714268111472641:Nat:=0
def PySem.W.Fast.tw13570011943453615569:Nat:=0
def PySem.W.Fast.tw6378234339673389334:Nat:=0
def PySem.W.Fast.tw1185468339189717126:Nat:=0
def PySem.W.Fast.tw2328837522121519527:Nat:=0
def PySem.W.Fast.tw12263819594027624198:Nat:=0
def PySem.W.Fast.tw13654585183406487830:Nat:=0
def PySem.W.Fast.tw15658063628364919064:Nat:=0
def PySem.W.Fast.tw12330094575218363162:Nat:=0
def PySem.W.Fast.tw7390104064098296801:Nat:=0
def PySem.W.Fast.tw3511097814205644595:Nat:=0
def PySem.W.Fast.tw16903974565605318058:Nat:=0
def PySem.W.Fast.tw6025726514070393114:Nat:=0
def PySem.W.Fast.tw2947488310969779928:Nat:=0
def PySem.W.Fast.tw4442399185403340059:Nat:=0
def PySem.W.Fast.tw4281210821448863968:Nat:=0
def PySem.W.Fast.tw8915098075481110033:Nat:=0
def PySem.W.Fast.tw17691327582313209049:Nat:=0
def PySem.W.Fast.tw8136442939997090285:Nat:=0
def PySem.W.Fast.tw4937786453212393165:Nat:=0
def PySem.W.Fast.tw4248847073612527487:Nat:=0
def PySem.W.Fast.tw5543667246036169506:Nat:=0
def PySem.W.Fast.tw11617978287444401647:Nat:=0
def PySem.W.Fast.tw10361507547324901807:Nat:=0
def PySem.W.Fast.tw14480515069727632370:Nat:=0
def PySem.W.Fast.tw11341090646605789108:Nat:=0
def PySem.W.Fast.tw8866819972895379903:Nat:=0
def PySem.W.Fast.tw14150871843208468262:Nat:=0
def PySem.W.Fast.tw1822101650567551183:Nat:=0
def PySem.W.Fast.tw8364916149120000218:Nat:=0
def PySem.W.Fast.tw15403379799909403959:Nat:=0
def PySem.W.Fast.tw15572103179935989796:Nat:=0
def PySem.W.Fast.tw2441951733396060117:Nat:=0
def PySem.W.Fast.tw11590439251674545689:Nat:=0
def PySem.W.Fast.tw7880214409282414480:Nat:=0
def PySem.W.Fast.tw9368069814779564983:Nat:=0
def PySem.W.Fast.tw3069397873204988792:Nat:=0
def PySem.W.Fast.tw9918397757996850068:Nat:=0
def PySem.W.Fast.tw10026913959531996093:Nat:=0
def PySem.W.Fast.tw17633146345240842367:Nat:=0
def PySem.W.Fast.tw5691788887950738377:Nat:=0
def PySem.W.Fast.tw1081019653739665374:Nat:=0
def PySem.W.Fast.tw15635493475262342693:Nat:=0
def PySem.W.Fast.tw6862326759291464641:Nat:=0
def PySem.W.Fast.tw14578557983990815354:Nat:=0
def PySem.W.Fast.tw10558828094807562224:Nat:=0
def PySem.W.Fast.tw18207233911825983539:Nat:=0
def PySem.W.Fast.tw12308386762602108492:Nat:=0
def PySem.W.Fast.tw2225315255716838408:Nat:=0
def PySem.W.Fast.tw9358340519006472566:Nat:=0
def PySem.W.Fast.tw11675250356915476997:Nat:=0
def PySem.W.Fast.tw16452640865615245722:Nat:=0
def PySem.W.Fast.tw14205455626230670093:Nat:=0
def PySem.W.Fast.tw10762167944627763483:Nat:=0
def PySem.W.Fast.tw16343139417307693551:Nat:=0
def PySem.W.Fast.tw11285952509178750812:Nat:=0
def PySem.W.Fast.tw3099066015446043856:Nat:=0
def PySem.W.Fast.tw6986119827175078268:Nat:=0
def PySem.W.Fast.tw9145834512076694976:Nat:=0
def PySem.W.Fast.tw9142688084084393922:Nat:=0
def PySem.W.Fast.tw3148945701180582162:Nat:=0
def PySem.W.Fast.tw17611517547410328823:Nat:=0
def PySem.W.Fast.tw14006166169999193287:Nat:=0
def PySem.W.Fast.tw13397510487760623921:Nat:=0
def PySem.W.Fast.tw15142112351954227782:Nat:=0
def PySem.W.Fast.tw6107482801727019120:Nat:=0
def PySem.W.Fast.tw16405091490523820026:Nat:=0
def PySem.W.Fast.tw12236189757639951595:Nat:=0
def PySem.W.Fast.tw9815740318557248532:Nat:=0
def PySem.W.Fast.tw7760093280850058676:Nat:=0
def PySem.W.Fast.tw3784016827691532898:Nat:=0
def PySem.W.Fast.tw12627630305528039829:Nat:=0
def PySem.W.Fast.tw3125380331786859244:Nat:=0
def PySem.W.Fast.tw3832447092029090507:Nat:=0
def PySem.W.Fast.tw8831880344483109242:Nat:=0
def PySem.W.Fast.tw11062717508560249036:Nat:=0
def PySem.W.Fast.tw11966651751854075732:Nat:=0
def PySem.W.Fast.tw11897712708077620787:Nat:=0
def PySem.W.Fast.tw1684203699456118280:Nat:=0
def PySem.W.Fast.tw1909363318104688561:Nat:=0
def PySem.W.Fast.tw7732357327513742058:Nat:=0
def PySem.W.Fast.tw11287057301045475322:Nat:=0
def PySem.W.Fast.tw10879420224481153147:Nat:=0
def PySem.W.Fast.tw12785159147397638089:Nat:=0
def PySem.W.Fast.tw15889782565187610063:Nat:=0
open PySem PySem.W PyProof.Rows
set_option maxRecDepth 100000 in
set_option maxHeartbeats 0 in
theorem PySem.Challenge.cw_ringfell_k13_cleared_or_shown_holds : PySem.Challenge.rw_ringfell_k13_cleared_or_shown.Holds := by
 w_on;o_law;k_head;(case hw=>w_witness2)
 k_fill
 refine K13.walk (l:=PySem.Challenge.rw_ringfell_k13_cleared_or_shown) rfl rfl (λw h Y=>PySem.W.kIn_of Y) ?F
 case F =>
  intro w mg fa h KX G hmg
  refine' K13.all_mk KX G hmg ?_ ?_ ?_ ?_ ?_ ?_ ?_ ?_ ?_ ?_ ?_ ?_ ?_ ?_ ?_ ?_ ?_ ?_ ?_ ?_ ?_ ?_ ?_ ?_ ?_ ?_ ?_ ?_ ?_ ?_ ?_ ?_ ?_ ?_ ?_ ?_ ?_ ?_ ?_ ?_ ?_ ?_ ?_ ?_ ?_ ?_ ?_ ?_ ?_ ?_
  all_goals first | k_is | (refine' L2.cj.mk ?a ?l ?c ?k;(case a=>k_is);(case l=>k_is);(case c=>k_is);(case k=>k_is))
