import PyProof.Rows.All
import Wide.All
import OpenK.AllK
import Wide.FinOn
import Lean
import PyProof.EqAt
import PyProof.EqKinds
import PyProof.TupleCall
import PyProof.NeKinds
import PyProof.SliceStr2
import KE.KDictList
import PyProof.CollectIter
import PyProof.EnumFor
import PyProof.EnumMake
import PyProof.LayNew
import PySem.Str
import PyProof.Rows.RegStrFacts
import PyProof.StrLawsRepr
import PySem.Challenge.RW_patchkin_k04_what_a_patch_does
set_option Elab.async false
set_option linter.all false
set_option maxRecDepth 100000
set_option maxHeartbeats 0
theorem QR:type_of% @List.length_map:=@List.length_map
theorem QV:type_of% @List.getElem?_eq_getElem:=@List.getElem?_eq_getElem
theorem QW:type_of% @PySem.wpAny_bind:=@PySem.wpAny_bind
theorem TN:type_of% @List.mem_singleton:=@List.mem_singleton
theorem TU:type_of% @Nat.le_refl:=@Nat.le_refl
theorem TZ:type_of% @List.length_append:=@List.length_append
theorem T1:type_of% @List.mem_map_of_mem:=@List.mem_map_of_mem
theorem UK:type_of% @List.mem_of_getElem?:=@List.mem_of_getElem?
theorem UN:type_of% @decide_eq_true:=@decide_eq_true
theorem WJ:type_of% @List.length_cons:=@List.length_cons
theorem WK:type_of% @List.mem_cons:=@List.mem_cons
theorem WL:type_of% @List.mem_append:=@List.mem_append
theorem WN:type_of% @PySem.Heap.get?_push_of_some:=@PySem.Heap.get?_push_of_some
theorem ZZ:type_of% @List.getElem?_map:=@List.getElem?_map
theorem Z4:type_of% @List.mem_cons_of_mem:=@List.mem_cons_of_mem
theorem Z8:type_of% @List.filter_cons_of_pos:=@List.filter_cons_of_pos
theorem Z9:type_of% @Bool.false_ne_true:=@Bool.false_ne_true
theorem aaa:type_of% @List.size_toArray:=@List.size_toArray
theorem aab:type_of% @decide_eq_false:=@decide_eq_false
theorem aac:type_of% @Nat.le_trans:=@Nat.le_trans
theorem aad:type_of% @PySem.Paired.length:=@PySem.Paired.length
theorem aae:type_of% @List.filter_cons_of_neg:=@List.filter_cons_of_neg
theorem aaf:type_of% @List.mem_append_left:=@List.mem_append_left
theorem aag:type_of% @PySem.wpAny_pure:=@PySem.wpAny_pure
theorem aah:type_of% @PySem.W.mg_of:=@PySem.W.mg_of
theorem aai:type_of% @if_neg:=@if_neg
theorem aaj:type_of% @List.mem_filter:=@List.mem_filter
theorem aak:type_of% @if_pos:=@if_pos
theorem aal:type_of% @List.mem_cons_self:=@List.mem_cons_self
theorem aam:type_of% @List.map_append:=@List.map_append
theorem aan:type_of% @List.take_length:=@List.take_length
theorem aao:type_of% @Option.some.inj:=@Option.some.inj
theorem aap:type_of% @List.flatMap_cons:=@List.flatMap_cons
theorem aaq:type_of% @List.map_cons:=@List.map_cons
theorem aar:type_of% @PySem.Heap.lt_size:=@PySem.Heap.lt_size
theorem aas:type_of% @PySem.boot_len:=@PySem.boot_len
theorem aat:type_of% @PySem.Heap.get?_push_size:=@PySem.Heap.get?_push_size
theorem aau:type_of% @of_decide_eq_true:=@of_decide_eq_true
theorem aav:type_of% @PySem.PassesOwn.never:=@PySem.PassesOwn.never
theorem aaw:type_of% @List.mem_map:=@List.mem_map
theorem aax:type_of% @Nat.lt_of_lt_of_le:=@Nat.lt_of_lt_of_le
theorem aay:type_of% @List.mem_append_right:=@List.mem_append_right
theorem aaz:type_of% @List.Sublist.refl:=@List.Sublist.refl
theorem aaA:type_of% @PySem.sizeLine_eq:=@PySem.sizeLine_eq
theorem aaB:type_of% @PySem.F.plainAttrs_list:=@PySem.F.plainAttrs_list
theorem aaC:type_of% @PyProof.Rows.boot_isinstance:=@PyProof.Rows.boot_isinstance
theorem aaD:type_of% @List.filter_append:=@List.filter_append
theorem aaE:type_of% @Nat.zero_le:=@Nat.zero_le
theorem aaF:type_of% @List.append_nil:=@List.append_nil
theorem aaG:type_of% @List.length_take:=@List.length_take
theorem aaH:type_of% @List.mem_iff_getElem?:=@List.mem_iff_getElem?
theorem aaI:type_of% @PySem.F.slot_list_append:=@PySem.F.slot_list_append
theorem aaJ:type_of% @PySem.F.type_list_append:=@PySem.F.type_list_append
theorem aaK:type_of% @List.length_eq_zero_iff:=@List.length_eq_zero_iff
theorem aaL:type_of% @List.append_assoc:=@List.append_assoc
theorem aaM:type_of% @List.flatMap_append:=@List.flatMap_append
theorem aaN:type_of% @PyProof.Rows.callWith_type1:=@PyProof.Rows.callWith_type1
theorem aaO:type_of% @PySem.W.mg_none_of:=@PySem.W.mg_none_of
theorem aaP:type_of% @Nat.ne_of_lt:=@Nat.ne_of_lt
theorem aaQ:type_of% @congrArg:=@congrArg
theorem aaR:type_of% @Array.getElem?_eq_getElem:=@Array.getElem?_eq_getElem
theorem aaS:type_of% @List.drop_eq_getElem_cons:=@List.drop_eq_getElem_cons
theorem aaT:type_of% @List.nodup_cons:=@List.nodup_cons
theorem aaU:type_of% @List.length_filter_le:=@List.length_filter_le
theorem aaV:type_of% @Bool.false_eq_true:=@Bool.false_eq_true
theorem aaW:type_of% @List.filter_sublist:=@List.filter_sublist
theorem aaX:type_of% @List.sublist_append_right:=@List.sublist_append_right
theorem aaY:type_of% @List.pairwise_iff_getElem:=@List.pairwise_iff_getElem
theorem aaZ:type_of% @List.mem_flatMap:=@List.mem_flatMap
theorem aa0:type_of% @List.getElem?_append_right:=@List.getElem?_append_right
theorem aa1:type_of% @List.nodup_append:=@List.nodup_append
theorem aa2:type_of% @decide_eq_true_iff:=@decide_eq_true_iff
theorem aa3:type_of% @PySem.Heap.get?_update_self:=@PySem.Heap.get?_update_self
theorem aa4:type_of% @List.replicate_succ:=@List.replicate_succ
theorem aa5:type_of% @Array.getElem?_toList:=@Array.getElem?_toList
theorem aa6:type_of% @List.filter_nil:=@List.filter_nil
theorem aa7:type_of% @Int.toNat_natCast:=@Int.toNat_natCast
theorem aa8:type_of% @PySem.wpAny_dictEntries:=@PySem.wpAny_dictEntries
theorem aa9:type_of% @List.getElem?_set_self:=@List.getElem?_set_self
theorem aa_:type_of% @PySem.W.kia_one:=@PySem.W.kia_one
theorem aba:type_of% @Nat.lt_irrefl:=@Nat.lt_irrefl
theorem abb:type_of% @Bool.and_eq_true:=@Bool.and_eq_true
theorem abc:type_of% @List.flatMap_nil:=@List.flatMap_nil
theorem abd:type_of% @List.filterMap_cons:=@List.filterMap_cons
theorem abe:type_of% @Array.length_toList:=@Array.length_toList
theorem abf:type_of% @List.length_reverse:=@List.length_reverse
theorem abg:type_of% @PySem.Heap.SameBut.update:=@PySem.Heap.SameBut.update
theorem abh:type_of% @PySem.F.slot_dict_keyiterator_next:=@PySem.F.slot_dict_keyiterator_next
theorem abi:type_of% @List.nodup_nil:=@List.nodup_nil
theorem abj:type_of% @Bool.eq_iff_iff:=@Bool.eq_iff_iff
theorem abk:type_of% @PySem.Calls.spliced_cons:=@PySem.Calls.spliced_cons
theorem abl:type_of% @Nat.lt_of_le_of_lt:=@Nat.lt_of_le_of_lt
theorem abm:type_of% @List.getElem?_set_ne:=@List.getElem?_set_ne
theorem abn:type_of% @PySem.Calls.callWith_builtin:=@PySem.Calls.callWith_builtin
theorem abo:type_of% @List.sublist_cons_self:=@List.sublist_cons_self
theorem abp:type_of% @PyProof.Rows.boot_list:=@PyProof.Rows.boot_list
theorem abq:type_of% @List.take_of_length_le:=@List.take_of_length_le
theorem abr:type_of% @PySem.wpAny_mono:=@PySem.wpAny_mono
theorem abt:type_of% @PySem.wpAny_truthy_bool:=@PySem.wpAny_truthy_bool
theorem abu:type_of% @PySem.mem_of_lookup:=@PySem.mem_of_lookup
theorem abv:type_of% @List.getElem?_append_left:=@List.getElem?_append_left
theorem abw:type_of% @List.find?_cons:=@List.find?_cons
theorem abx:type_of% @List.filterMap_append:=@List.filterMap_append
theorem aby:type_of% @List.mem_filterMap:=@List.mem_filterMap
theorem abz:type_of% @PySem.tupleKind_room_in1:=@PySem.tupleKind_room_in1
theorem abA:type_of% @Ne.symm:=@Ne.symm
theorem abB:type_of% @List.all_eq_true:=@List.all_eq_true
theorem abC:type_of% @PySem.wpAny_typeNameOfWhole_keyiter:=@PySem.wpAny_typeNameOfWhole_keyiter
theorem abD:type_of% @PySem.Calls.evalArgs_plain:=@PySem.Calls.evalArgs_plain
theorem abE:type_of% @PySem.Calls.spliced_nil:=@PySem.Calls.spliced_nil
theorem abF:type_of% @Bool.eq_false_iff:=@Bool.eq_false_iff
theorem abG:type_of% @decide_eq_true_eq:=@decide_eq_true_eq
theorem abH:type_of% @List.length_range:=@List.length_range
theorem abI:type_of% @Option.map_some:=@Option.map_some
theorem abJ:type_of% @Int.toNat_of_nonneg:=@Int.toNat_of_nonneg
theorem abK:type_of% @PySem.Heap.get?_update_other:=@PySem.Heap.get?_update_other
theorem abL:type_of% @PySem.wpAny_holding:=@PySem.wpAny_holding
theorem abM:type_of% @List.take_append_drop:=@List.take_append_drop
theorem abN:type_of% @List.mem_range:=@List.mem_range
theorem abO:type_of% @List.take_zero:=@List.take_zero
theorem abP:type_of% @List.range_eq_range':=@List.range_eq_range'
theorem abQ:type_of% @PySem.wpAny_passesOwn:=@PySem.wpAny_passesOwn
theorem abR:type_of% @beq_iff_eq:=@beq_iff_eq
theorem abS:type_of% @List.flatten_cons:=@List.flatten_cons
theorem abT:type_of% @PySem.F.slot_dict_update:=@PySem.F.slot_dict_update
theorem abU:type_of% @PySem.F.plainAttrs_dict:=@PySem.F.plainAttrs_dict
theorem abV:type_of% @List.map_congr_left:=@List.map_congr_left
theorem abW:type_of% @List.getElem?_range:=@List.getElem?_range
theorem abX:type_of% @PyProof.Rows.boot_tuple:=@PyProof.Rows.boot_tuple
theorem abY:type_of% @List.length_drop:=@List.length_drop
theorem abZ:type_of% @List.lookup_cons:=@List.lookup_cons
theorem ab0:type_of% @PySem.wpAny_call_entry:=@PySem.wpAny_call_entry
theorem ab1:type_of% @List.range'_succ:=@List.range'_succ
theorem ab2:type_of% @List.drop_of_length_le:=@List.drop_of_length_le
theorem ab3:type_of% @if_false:=@if_false
theorem ab4:type_of% @List.getElem?_drop:=@List.getElem?_drop
theorem ab5:type_of% @List.append_of_mem:=@List.append_of_mem
theorem ab6:type_of% @PySem.wpAny_specialOf:=@PySem.wpAny_specialOf
theorem ab7:type_of% @Bool.or_eq_true:=@Bool.or_eq_true
theorem ab8:type_of% @PySem.wpAny_ite_split:=@PySem.wpAny_ite_split
theorem ab9:type_of% @PySem.size_of_entries:=@PySem.size_of_entries
theorem ab_:type_of% @List.range_succ:=@List.range_succ
theorem aca:type_of% @List.take_sublist:=@List.take_sublist
theorem acb:type_of% @List.reverse_cons:=@List.reverse_cons
theorem acd:type_of% @Nat.lt_succ_self:=@Nat.lt_succ_self
theorem ace:type_of% @List.filter_cons:=@List.filter_cons
theorem acf:type_of% @Nat.succ_le_succ:=@Nat.succ_le_succ
theorem acg:type_of% @List.drop_length:=@List.drop_length
theorem ach:type_of% @List.length_set:=@List.length_set
theorem aci:type_of% @Sum.inr.inj:=@Sum.inr.inj
abbrev Qqq:=PySem.Value→PySem.Shared→Prop
abbrev Qqz:=List (PySem.Addr×PySem.Obj)
abbrev Qqx:=PySem.Str→Option PySem.Value
abbrev Qqy:=PySem.W.Frag
namespace L2
open PySem PySem.Spec PyProof.Rows
abbrev Key:=Sum Int Str
noncomputable def xw:Key→Value→Bool
 | .inl k,v=>Value.isInt k v
 | .inr x,v=>Value.isStrOf x v
noncomputable def S5(w:World):Key→Int
 | .inl k=>hashInt k
 | .inr x=>hashStr w x
theorem jj:∀{k:Key} {v:Value},xw k v=true→(∃i t,k=Sum.inl i∧v=Value.int i t)∨(∃x t,k=Sum.inr x∧v=Value.str x t)
 | .inl i,v,h=>by
  obtain⟨t,e⟩:=Value.isInt_shape (k:=i) (v:=v) h
  exact .inl ⟨i,t,rfl,e⟩
 | .inr x,v,h=>by
  obtain⟨t,e⟩:=Value.isStrOf_shape (x:=x) (v:=v) h
  exact .inr ⟨x,t,rfl,e⟩
theorem Fq(i:Int)(t:Tok):xw (.inl i) (.int i t)=true:=by simp[xw,Value.isInt]
theorem Fs(x:Str)(t:Tok):xw (.inr x) (.str x t)=true:=by simp[xw,Value.isStrOf]
theorem L_(a b:Int):decide ((Sum.inl a:Key)=Sum.inl b)=(a ==b):=by
 by_cases e:a=b
 ·subst e;simp
 ·have h:¬(Sum.inl a:Key)=Sum.inl b:=fun q=>e (Sum.inl.inj q)
  rw[aab h]
  exact(beq_eq_false_iff_ne.mpr e).symm
theorem Ma(a b:Str):decide ((Sum.inr a:Key)=Sum.inr b)=decide (a=b):=by
 by_cases e:a=b
 ·subst e;simp
 ·have h:¬(Sum.inr a:Key)=Sum.inr b:=fun q=>e (aci q)
  rw[aab h,aab e]
theorem Mb(a:Int)(b:Str):decide ((Sum.inl a:Key)=Sum.inr b)=false:=aab (fun q=>nomatch q)
theorem Mc(a:Str)(b:Int):decide ((Sum.inr a:Key)=Sum.inl b)=false:=aab (fun q=>nomatch q)
noncomputable def jg(prog:Program)(w:World):PySem.KeyKind prog w Key where
 is:=xw
 hash:=S5 w
 inj:=fun v a b ha hb=>by
  rcases jj ha with⟨i,t,rfl,rfl⟩|⟨x,t,rfl,rfl⟩
  ·rcases jj hb with⟨j,u,rfl,e⟩|⟨y,u,rfl,e⟩
   ·injection e with e1 _;rw[e1]
   ·exact nomatch e
  ·rcases jj hb with⟨j,u,rfl,e⟩|⟨y,u,rfl,e⟩
   ·exact nomatch e
   ·injection e with e1 _;rw[e1]
 byValue:=fun k v h=>by
  rcases jj h with⟨i,t,rfl,rfl⟩|⟨x,t,rfl,rfl⟩<;>rfl
 pyHash:=fun hv h=>by
  rcases jj hv with⟨i,t,rfl,rfl⟩|⟨x,t,rfl,rfl⟩
  ·exact wpAny_pyHash_int h
  ·exact wpAny_pyHash_str h
 eqBool:=fun hu hv h=>by
  rcases jj hu with⟨i,t,rfl,rfl⟩|⟨x,t,rfl,rfl⟩
  ·rcases jj hv with⟨j,u,rfl,rfl⟩|⟨y,u,rfl,rfl⟩
   ·rw[L_] at h;exact wpAny_eqBool_int h
   ·rw[Mb] at h;exact SeqAt.EqAt.int_str i t y u _ _ _ _ h
  ·rcases jj hv with⟨j,u,rfl,rfl⟩|⟨y,u,rfl,rfl⟩
   ·rw[Mc] at h;exact SeqAt.EqAt.str_int x t j u _ _ _ _ h
   ·rw[Ma] at h;exact wpAny_eqBool_str h
 «strs»:=fun k x t v h=>by
  rcases jj h with⟨i,u,rfl,e⟩|⟨y,u,rfl,e⟩
  ·exact nomatch e
  ·injection e with e1 _
   subst e1
   cases v<;>rfl
theorem B3(prog:Program)(w:World)(i:Int)(t:Tok):(jg prog w).is (.inl i) (.int i t)=true:=Fq i t
theorem B4(prog:Program)(w:World)(x:Str)(t:Tok):(jg prog w).is (.inr x) (.str x t)=true:=Fs x t
inductive V where
 | iP|bl (b:Bool)|int (i:Int)|str (x:Str)|B5 (b:Array UInt8)|Jt (b:UInt64)|ref (a:Addr)|ty (n:String)
 deriving DecidableEq
def RelV:V→Value→Prop
 | .iP,u=>u=Value.none
 | .bl b,u=>u=Value.bool b
 | .int i,u=>∃t,u=Value.int i t
 | .str x,u=>∃t,u=Value.str x t
 | .B5 b,u=>∃t,u=Value.bytes b t
 | .Jt b,u=>∃t,u=Value.float b t
 | .ref a,u=>u=Value.ref a
 | .ty n,u=>u=Value.type n
abbrev Vals:List V→List Value→Prop:=Paired RelV
theorem Vals.length{xs:List V}{us:List Value}(r:Vals xs us):xs.length=us.length:=aad r
theorem Vals.get:∀{xs:List V} {us:List Value} {i:Nat} {x:V},Vals xs us→xs[i]?=some x→∃u,us[i]?=some u∧RelV x u
 | _,_,_,_,.nil,e=>by simp at e
 | _,_,0,_,.cons r _,e=>by simp at e;subst e;exact⟨_,rfl,r⟩
 | _,_,i+1,x,.cons _ t,e=>by
  obtain⟨u,h1,h2⟩:=Vals.get (i:=i) (x:=x) t (by simpa using e)
  exact⟨u,by simpa using h1,h2⟩
theorem Vals.set{x:V}{u:Value}(r:RelV x u):∀{xs:List V} {us:List Value} (i:Nat),Vals xs us→Vals (xs.set i x) (us.set i u)
 | _,_,_,.nil=>.nil
 | _,_,0,.cons _ t=>.cons r t
 | _,_,i+1,.cons q t=>.cons q (Vals.set r i t)
theorem Vals.append:∀{xs ys:List V} {us ws:List Value},Vals xs us→Vals ys ws→Vals (xs++ys) (us++ws)
 | _,_,_,_,.nil,s=>s
 | _,_,_,_,.cons r t,s=>.cons r (Vals.append t s)
theorem Vals.take:∀{xs:List V} {us:List Value} (n:Nat),Vals xs us→Vals (xs.take n) (us.take n)
 | _,_,0,_=>.nil
 | _,_,_+1,.nil=>.nil
 | _,_,n+1,.cons r t=>.cons r (Vals.take n t)
theorem Vals.drop:∀{xs:List V} {us:List Value} (n:Nat),Vals xs us→Vals (xs.drop n) (us.drop n)
 | _,_,0,r=>r
 | _,_,_+1,.nil=>.nil
 | _,_,n+1,.cons _ t=>Vals.drop n t
def pq:Option V→Option Value→Prop
 | some v,some u=>RelV v u
 | none,none=>True
 | _,_=>False
def KV{κ:Type}:List (κ×V)→List (κ×Value)→Prop:=Paired fun(p:κ×V) (q:κ×Value)=>p.1=q.1∧RelV p.2 q.2
noncomputable def kV:Key→V
 | .inl i=>.int i
 | .inr x=>.str x
inductive HO where
 | lst (xs:List V)
 | tup (xs:List V)
 | dK (kvs:List (Key×V))|dT (kvs:List (List Key×V))
 | set (S:Int→Bool) (n:Nat)
 | ins (C dx:Addr) (fs:List (Str×V))
 | own (x:Addr)
 | xd (fs:List (Str×V))
 | met (f x:Addr)
 | RT (lo hi:Int)
 | nR (o:Obj) (u:HO)
 | Ju (ps:Array Value)
 | ext (φ:Heap→Prop)
abbrev Hp:=Addr→Option HO
noncomputable def upd(H:Hp)(a:Addr)(o:HO):Hp:=fun b=>if b=a then some o else H b
theorem b_{H:Hp}{a:Addr}{o:HO}:upd H a o a=some o:=by unfold upd;rw[aak rfl]
theorem d_{H:Hp}{a b:Addr}{o:HO}(h:b≠a):upd H a o b=H b:=by unfold upd;rw[aai h]
theorem JN{H:Hp}{a:Addr}{o u:HO}:upd (upd H a o) a u=upd H a u:=by
 funext b;unfold upd;split<;>rfl
theorem jc{H:Hp}{a b:Addr}{o u:HO}(h:H a=some o)(h':H b=some u)(d:o≠u):a≠b:=by
 intro e;subst e;rw[h] at h';exact d (aao h')
theorem f_{H:Hp}{a b:Addr}{o:HO}(h:H a=some o)(h':H b=none):a≠b:=by
 intro e;subst e;rw[h] at h';cases h'
section
variable(P:Program)(w:World)
noncomputable def i9(H:Hp)(h:Heap)(a:Addr):HO→Prop
 | .lst xs=>xs.length≤sizeLine∧∃(ic:List Value)(n:Nat),Vals xs ic∧h.get? a=some {cls:=.type "list",data:=.seq ic.toArray n}
 | .tup xs=>xs.length≤sizeLine∧∃ic:List Value,Vals xs ic∧IsTup h a ic.toArray
 | .dK kvs=>kvs.length≤sizeLine∧(a ==sysModules)=false∧∃vs,KV kvs vs∧h.DictOf (jg P w) a vs
 | .dT kvs=>kvs.length≤sizeLine∧(a ==sysModules)=false∧∃xs:List (List Key×Addr×Value),
  Paired (fun(p:List Key×V) (q:List Key×Addr×Value)=>p.1=q.1∧H q.2.1=some (.tup (p.1.map kV))∧RelV p.2 q.2.2) kvs xs∧
  ∃o es ep,h.get? a=some o∧o.ExactDict∧o.data=.dict es ep∧es.toList=xs.map (entryOfKey (tupleKind (jg P w)))∧(xs.map (·.1)).Nodup
 | .set S n=>h.SetOf (intKind P w) a S n
 | .ins C dx fs=>H dx=some (.own a)∧fs.length≤1000∧dx≠a∧h.get? a=some (W.instObj C dx)∧
  ∃mA,h.Ns1 dx mA∧(∀f,pq (fs.lookup f) (mA f))∧PySem.Within mA (fs.map (·.1))
 | .own _=>∃o,h.get? a=some o
 | .xd fs=>∃mA,h.Ns1 a mA∧∀f,pq (fs.lookup f) (mA f)
 | .RT lo hi=>∃t u v,h.get? a=some {cls:=.type "range",data:=.fields #[.int lo t,.int hi u,.int 1 v]}
 | .nR o u=>h.get? a=some o∧i9 H h a u
 | .Ju ps=>h.get? a=some {cls:=.none,data:=.fields ps}
 | .met f x=>h.get? a=some (W.methodObj (.ref f) (.ref x))
 | .ext φ=>φ h∧(∃o,h.get? a=some o)∧∀h1 h2:Heap,φ h1→(∀o,h1.get? a=some o→h2.get? a=some o)→φ h2
def qA(H:Hp)(h:Heap):Prop:=∀a o,H a=some o→i9 P w H h a o
end
section
variable{P:Program}{w:World}{H H':Hp}{h h':Heap}{a:Addr}{o:HO}
theorem i9.lt(x:i9 P w H h a o):a<h.objs.size:=by
 cases o with
 | lst xs=>obtain⟨_,_,_,_,e⟩:=x;exact aar e
 | tup xs=>obtain⟨_,_,_,p⟩:=x;exact p.lt
 | dK kvs=>obtain⟨_,_,_,_,o,_,_,e,_⟩:=x;exact aar e
 | dT kvs=>obtain⟨_,_,_,_,o,_,_,e,_⟩:=x;exact aar e
 | set S n=>obtain⟨o,_,_,_,e,_⟩:=x;exact aar e
 | ins C dx fs=>obtain⟨_,_,_,e,_⟩:=x;exact aar e
 | own y=>obtain⟨_,e⟩:=x;exact aar e
 | xd fs=>obtain⟨_,⟨_,_,_,e,_⟩,_⟩:=x;exact aar e
 | RT lo hi=>obtain⟨_,_,_,e⟩:=x;exact aar e
 | nR ob u=>obtain⟨e,_⟩:=x;exact aar e
 | Ju ps=>exact aar (show h.get? a=some _ from x)
 | met f y=>exact aar (show h.get? a=some _ from x)
 | ext φ=>obtain⟨_,⟨_,e⟩,_⟩:=x;exact aar e
theorem Paired.jK{α β:Type}{F G:α→β→Prop}:∀{l₁:List α} {l₂:List β},Paired F l₁ l₂→(∀a b,F a b→G a b)→Paired G l₁ l₂
 | _,_,.nil,_=>.nil
 | _,_,.cons r t,f=>.cons (f _ _ r) (Paired.jK t f)
theorem i9.xx(x:i9 P w H h a o)(k:∀b u,(b=a∨H b=some (.own a))→h.get? b=some u→h'.get? b=some u)
  (ho:∀b,H b=some (.own a)→H' b=some (.own a)) (ht:∀b xs,H b=some (.tup xs)→H' b=some (.tup xs)):i9 P w H' h' a o:=by
 induction o with
 | lst xs=>obtain⟨z,ic,n,r,e⟩:=x;exact⟨z,ic,n,r,k _ _ (.inl rfl) e⟩
 | tup xs=>obtain⟨z,ic,r,ob,e,c⟩:=x;exact⟨z,ic,r,ob,k _ _ (.inl rfl) e,c⟩
 | dK kvs=>obtain⟨z,y,vs,r,ob,es,ep,e,c⟩:=x;exact⟨z,y,vs,r,ob,es,ep,k _ _ (.inl rfl) e,c⟩
 | dT kvs=>
  obtain⟨z,y,xs,r,ob,es,ep,e,c⟩:=x
  exact⟨z,y,xs,Paired.jK r fun p q z=>⟨z.1,ht _ _ z.2.1,z.2.2⟩,ob,es,ep,k _ _ (.inl rfl) e,c⟩
 | set S n=>obtain⟨ob,es,ep,t,e,c⟩:=x;exact⟨ob,es,ep,t,k _ _ (.inl rfl) e,c⟩
 | ins C dx fs=>
  obtain⟨d,z,ne,e,mA,⟨od,es,ep,e2,c⟩,r⟩:=x
  exact⟨ho _ d,z,ne,k _ _ (.inl rfl) e,mA,⟨od,es,ep,k _ _ (.inr d) e2,c⟩,r⟩
 | own y=>obtain⟨ob,e⟩:=x;exact⟨ob,k _ _ (.inl rfl) e⟩
 | xd fs=>obtain⟨mA,⟨od,es,ep,e,c⟩,r⟩:=x;exact⟨mA,⟨od,es,ep,k _ _ (.inl rfl) e,c⟩,r⟩
 | RT lo hi=>obtain⟨t,u,v,e⟩:=x;exact⟨t,u,v,k _ _ (.inl rfl) e⟩
 | nR ob u ih=>obtain⟨e,q⟩:=x;exact⟨k _ _ (.inl rfl) e,ih q⟩
 | Ju ps=>
  have e:h.get? a=some {cls:=.none,data:=.fields ps}:=x
  show h'.get? a=some {cls:=.none,data:=.fields ps}
  exact k a _ (.inl rfl) e
 | met f y=>
  have e:h.get? a=some (W.methodObj (.ref f) (.ref y)):=x
  show h'.get? a=some (W.methodObj (.ref f) (.ref y))
  exact k a _ (.inl rfl) e
 | ext φ=>obtain⟨p,⟨o,e⟩,st⟩:=x;exact⟨st _ _ p fun o q=>k _ _ (.inl rfl) q,⟨o,k _ _ (.inl rfl) e⟩,st⟩
theorem qA.lt(x:qA P w H h)(e:H a=some o):a<h.objs.size:=(x a o e).lt
theorem qA.fresh(x:qA P w H h)(e:h.objs.size≤a):H a=none:=by
 cases q:H a with
 | none=>rfl
 | some u=>exact absurd (aax (x.lt q) e) (aba _)
theorem qA.kept(x:qA P w H h)(k:∀b u,h.get? b=some u→h'.get? b=some u):qA P w H h':=fun a o e=>
 (x a o e).xx (fun b u _ q=>k b u q) (fun _ q=>q) fun _ _ q=>q
theorem qA.laid(x:qA P w H h)(k:∀b u,h.get? b=some u→h'.get? b=some u)(hp:h.objs.size≤a)(new:i9 P w (upd H a o) h' a o):qA P w (upd H a o) h':=fun b u e=>by
 have hn:=x.fresh hp
 by_cases hb:b=a
 ·subst hb;rw[b_] at e;cases e;exact new
 ·rw[d_ hb] at e
  exact(x b u e).xx (fun c v _ q=>k c v q) (fun c q=>by rw[d_ (f_ q hn)];exact q) fun c xs q=>by rw[d_ (f_ q hn)];exact q
end
def Rd(H:Hp)(a:Addr)(u:HO):Prop:=H a=some u∨∃o,H a=some (.nR o u)
theorem Rd.ok{P:Program}{w:World}{H:Hp}{h:Heap}{a:Addr}{u:HO}(r:Rd H a u)(x:qA P w H h):i9 P w H h a u:=by
 rcases r with r|⟨o,r⟩
 ·exact x a u r
 ·obtain⟨_,q⟩:=x a _ r
  exact q
def Lv:Option HO→Prop
 | some (.lst _)=>True
 | some (.dK _)=>True
 | some (.dT _)=>True
 | some (.set _ _)=>True
 | some (.ins _ _ _)=>True
 | some (.ext _)=>True
 | _=>False
section
variable{P:Program}{w:World}{H:Hp}{h h':Heap}{x e:Addr}{o':HO}
theorem qA.write(ok:qA P w H h)(mu:Lv (H x))(he:e=x∨H e=some (.own x))(k:∀b u,b≠e→h.get? b=some u→h'.get? b=some u)(IK:∃u,h'.get? e=some u)
  (new:i9 P w (upd H x o') h' x o'):qA P w (upd H x o') h':=fun b u q=>by
 have Qq:∀c y,H c=some (.own y)→c≠x:=fun c y r z=>by subst z;rw[r] at mu;exact mu
 have Uc:∀c xs,H c=some (.tup xs)→c≠x:=fun c xs r z=>by subst z;rw[r] at mu;exact mu
 by_cases hb:b=x
 ·subst hb;rw[b_] at q;cases q;exact new
 ·rw[d_ hb] at q
  by_cases NR:b=e
  ·have q':H b=some (.own x):=by
    rcases he with z|z
    ·exact absurd (NR.trans z) hb
    ·rw[NR];exact z
   rw[q] at q';cases q'
   obtain⟨v,hv⟩:=IK
   exact⟨v,by rw[NR];exact hv⟩
  ·refine(ok b u q).xx (fun c v hc r=>k c v ?_ r) (fun c r=>by rw[d_ (Qq c b r)];exact r) fun c xs r=>by rw[d_ (Uc c xs r)];exact r
   rcases hc with rfl|hc
   ·exact NR
   ·rintro rfl
    rcases he with z|z
    ·exact Qq c b hc z
    ·rw[hc] at z;cases z;exact hb rfl
end
structure Un(fs ex:List Addr)(H H':Hp)(h h':Heap):Prop where
 keep:∀b o,h.get? b=some o→H b=none→b∉fs→b∉ex→h'.get? b=some o
 slot:∀b o,h.get? b=some o→H b=none→b∈fs→b∉ex→∃sl,h'.get? b=some {o with slots:=sl}
 free:∀b o,h.get? b=some o→H b=none→b∉ex→H' b=none
 there:∀b o,h.get? b=some o→b∉ex→∃o',h'.get? b=some o'
 pw:∀b xs,H b=some (.tup xs)→H' b=some (.tup xs)
 tH:∀b o u,H b=some (.nR o u)→H' b=some (.nR o u)
 wL:∀b ps,H b=some (.Ju ps)→∃more,H' b=some (.Ju (ps++more))
section
variable{fs fs' ex ex':List Addr}{H H1 H2:Hp}{h h1 h2 h':Heap}{a x e:Addr}{o:HO}
theorem Un.any(u:Un fs ex H H1 h h1){b:Addr}{ob:Obj}(q:h.get? b=some ob)(n:H b=none)(hx:b∉ex):∃sl,h1.get? b=some {ob with slots:=sl}:=by
 by_cases hb:b∈fs
 ·exact u.slot b ob q n hb hx
 ·exact⟨ob.slots,u.keep b ob q n hb hx⟩
theorem Un.kept(k:∀b u,h.get? b=some u→h'.get? b=some u):Un fs ex H H h h':=
 ⟨fun b ob q _ _ _=>k b ob q,fun b ob q _ _ _=>⟨ob.slots,k b ob q⟩,fun _ _ _ n _=>n,fun b ob q _=>⟨ob,k b ob q⟩,fun _ _ q=>q,fun _ _ _ q=>q,fun _ ps q=>⟨#[],by rw[q];simp⟩⟩
theorem Un.refl:Un fs ex H H h h:=Un.kept fun _ _ q=>q
theorem Un.laid(k:∀b u,h.get? b=some u→h'.get? b=some u)(hp:h.objs.size≤a)(hn:H a=none):Un fs ex H (upd H a o) h h' where
 keep:=fun b u q _ _ _=>k b u q
 slot:=fun b u q _ _ _=>⟨u.slots,k b u q⟩
 free:=fun b u q n _=>by rw[d_ (aaP (aax (aar q) hp))];exact n
 there:=fun b u q _=>⟨u,k b u q⟩
 pw:=fun b xs q=>by rw[d_ (f_ q hn)];exact q
 tH:=fun b u xs q=>by rw[d_ (f_ q hn)];exact q
 wL:=fun b ps q=>⟨#[],by rw[d_ (f_ q hn),q];simp⟩
theorem Un.write(mu:Lv (H x))(he:e=x∨H e=some (.own x))(k:∀b u,b≠e→h.get? b=some u→h'.get? b=some u)(IK:∃u,h'.get? e=some u):Un fs ex H (upd H x o) h h':=by
 have hx:∀b,H b=none→b≠x:=fun b n z=>by subst z;rw[n] at mu;exact mu
 have hb:∀b,H b=none→b≠e:=fun b n z=>by
  subst z
  rcases he with r|r
  ·exact hx b n r
  ·rw[n] at r;cases r
 have hm:∀b u,H b=some u→¬Lv (some u)→b≠x:=fun b u q nm z=>by subst z;rw[q] at mu;exact nm mu
 refine⟨fun b u q n _ _=>k b u (hb b n) q,fun b u q n _ _=>⟨u.slots,k b u (hb b n) q⟩,fun b u q n _=>by rw[d_ (hx b n)];exact n,fun b u q _=>?_,
  fun b xs q=>by rw[d_ (hm b _ q fun z=>z)];exact q,fun b u xs q=>by rw[d_ (hm b _ q fun z=>z)];exact q,fun b ps q=>⟨#[],by rw[d_ (hm b _ q fun z=>z),q];simp⟩⟩
 by_cases NR:b=e
 ·subst NR;exact IK
 ·exact⟨u,k b u NR q⟩
end
noncomputable def RU(h:Heap)(H:Hp):List Addr:=(List.range h.objs.size).filter fun a=>(H a).isSome
noncomputable def Au(h:Heap)(H:Hp):Heap:=W.hideAll h (RU h H)
theorem Ft(h:Heap)(H:Hp):(Au h H).objs.size=h.objs.size:=W.hideAll_size _ _
theorem GV{h:Heap}{H:Hp}{b:Addr}{o:Obj}(e:h.get? b=some o)(n:H b=none):(Au h H).get? b=some o:=
 W.hideAll_get _ e fun hm=>by
  have q:(H b).isSome=true:=(aaj.mp hm).2
  rw[n] at q;simp at q
theorem JO{h:Heap}{H:Hp}{b:Addr}{o:Obj}(e:(Au h H).get? b=some o):h.get? b=some o∧H b=none:=by
 have e':h.get? b=some o:=W.of_hideAll (RU h H) e
 refine⟨e',?_⟩
 cases q:H b with
 | none=>rfl
 | some x=>
  have hm:b∈RU h H:=aaj.mpr ⟨abN.mpr (aar e'),by simp[q]⟩
  have z:(Au h H).get? b=none:=W.hideAll_none (RU h H) hm
  rw[z] at e;cases e
def JP(g h:Heap)(L:Addr):Qqz:=(List.range h.objs.size).filterMap fun a=>if a=L∨(g.get? a).isSome=true then none else(h.get? a).map fun o=>(a,o)
def rest(g h:Heap)(L d:Addr):Qqz:=(JP g h L).filter fun p=>decide (p.1≠d)
structure Mod(K:Qqy)(mg:Qqx)(base:Heap):Prop where
 OA:K.In base
 glob:base.Ns mainGlobals mg
 blt:∃mb,base.Ns builtinsNs mb∧∀x:Str,x≠"__name__"→mb x=bootBuiltins x
 nolimit:base.NoLimit
structure Cx where
 prog:Program
 w:World
 K:Qqy
 mg:Qqx
 base:Heap
 A:Around
 N:List Str
 s₀:Shared
 H₀:Hp
 env:Env
 outer:List Env
 stack:List Env
 ex:List Addr
 fn:Str→Bool
 calm:Bool
 pn:Qqz
 xe:Qqq
noncomputable def sF(l:List Env):List Addr:=l.filterMap (·.frame)
noncomputable abbrev Cx.fs(X:Cx):List Addr:=sF X.outer
def S6(sc:Scope)(x:Str):Prop:=sc.names.lookup x=some .local∨sc.names.lookup x=some .cell∨sc.names.lookup x=some .free
def Loc(sc:Scope)(x:Str):Prop:=sc.names.lookup x=some .local∨sc.names.lookup x=some .cell
def Look(env:Env)(h:Heap)(m:Qqx)(x:Str)(u:Value):Prop:=
 (env.kindOf x=some .local∧m x=some u)∨((env.kindOf x=some .cell∨env.kindOf x=some .free)∧∃c,env.cells.lookup x=some c∧h.IsCell c (some u))
structure Cx.Ok(X:Cx):Prop where
 mod:Mod X.K X.mg X.base
 kind:X.env.scope.kind=.function
 glob:X.env.globals=mainGlobals
 blt:X.env.builtins=builtinsNs
 above:X.s₀.heap.objs.size≤X.env.locals
 inj:∀x y c,X.env.cells.lookup x=some c→X.env.cells.lookup y=some c→x=y
 has:∀x,(X.env.kindOf x=some .cell∨X.env.kindOf x=some .free)→∃c,X.env.cells.lookup x=some c
 OB:∀x c,X.fn x=true→X.env.cells.lookup x=some c→X.s₀.heap.objs.size≤c
 hd:X.calm=true→X.A.handled=none
 frames:X.A.frames=some X.stack
 O1:X.stack=X.outer∨(X.stack=X.env::X.outer∧X.env.frame=some X.env.locals)
 S7:∀b∈X.ex,b≠X.env.locals∧∀x c,X.env.cells.lookup x=some c→c≠b
 bs:∀b o,X.base.get? b=some o→X.s₀.heap.get? b=some o∧X.H₀ b=none
 JQ:X.base.objs.size≤X.s₀.heap.objs.size
 rS:∀b o,X.base.get? b=some o→b∉X.ex
 GW:∀b∈X.ex,b∉X.fs
 tI:X.s₀.heap.FunFrames X.base X.outer
 Lw:∀b∈X.fs,X.H₀ b=none
structure Inv(X:Cx)(c_:Qqz)(σ:List (Option V))(H:Hp)(s:Shared):Prop where
 ok:X.Ok
 os:s.os=X.s₀.os
 bare:AllBare s.gens
 base:Un X.fs X.ex X.H₀ H X.s₀.heap s.heap
 loc:∃m,s.heap.Ns X.env.locals m∧∀(i:Nat)(x:Str)(v:V),X.N[i]?=some x→σ[i]?=some (some v)→S6 X.env.scope x→∃u,RelV v u∧Look X.env s.heap m x u
 cell:∀x c,X.env.cells.lookup x=some c→∃v,s.heap.IsCell c v
 free:H X.env.locals=none
 oH:∀x c,X.env.cells.lookup x=some c→H c=none
 pin:∀p∈X.pn++c_,s.heap.get? p.1=some p.2∧H p.1=none∧p.1≠X.env.locals∧p.1∉X.fs∧∀v,p.2.data≠.cell v
 iM:qA X.prog X.w H s.heap
 len:σ.length=X.N.length
section
variable{X:Cx}{c_:Qqz}{σ:List (Option V)}{H H':Hp}{s:Shared}{h':Heap}
theorem Cx.Ok.JR(ok:X.Ok){b:Addr}{o:Obj}(e:X.base.get? b=some o):b∉X.fs:=fun hb=>by
 have:=(ok.tI.mem hb).1
 rw[e] at this;cases this
theorem Inv.bs(I:Inv X c_ σ H s):∀b o,X.base.get? b=some o→s.heap.get? b=some o∧H b=none:=fun b o e=>
 ⟨I.base.keep b o (I.ok.bs b o e).1 (I.ok.bs b o e).2 (I.ok.JR e) (I.ok.rS b o e),I.base.free b o (I.ok.bs b o e).1 (I.ok.bs b o e).2 (I.ok.rS b o e)⟩
theorem Inv.bk(I:Inv X c_ σ H s):∀b o,X.base.get? b=some o→s.heap.get? b=some o:=fun b o e=>(I.bs b o e).1
theorem Inv.mod(I:Inv X c_ σ H s):Mod X.K X.mg X.base:=I.ok.mod
theorem Inv.vH(I:Inv X c_ σ H s):X.K.In s.heap:=I.ok.mod.OA.keeps I.bk
theorem Inv.lt(I:Inv X c_ σ H s):X.env.locals<s.heap.objs.size:=let ⟨_,hn,_⟩:=I.loc;hn.lt
theorem Inv.sz(I:Inv X c_ σ H s):X.s₀.heap.objs.size≤s.heap.objs.size:=aac I.ok.above (Nat.le_of_lt I.lt)
theorem Inv.O2(I:Inv X c_ σ H s){a:Addr}(h:s.heap.objs.size≤a):a∉X.fs:=fun hb=>by
 obtain⟨_,o,ho,_⟩:=I.ok.tI.mem hb
 exact absurd (aax (aar ho) (aac I.sz h)) (aba _)
theorem Inv.Md(I:Inv X c_ σ H s):∀x c,X.env.cells.lookup x=some c→c≠X.env.locals:=fun x c e z=>by
 obtain⟨v,o,ho,hd⟩:=I.cell x c e
 obtain⟨m,⟨o',es,ep,p8,Ud,_⟩,_⟩:=I.loc
 rw[z,p8] at ho;cases ho;rw[Ud] at hd;cases hd
theorem Inv.tI(I:Inv X c_ σ H s):s.heap.FunFrames X.base X.outer:=by
 have all:∀(l:List Env),(∀b∈sF l,b∈X.fs)→X.s₀.heap.FunFrames X.base l→s.heap.FunFrames X.base l:=by
  intro l
  induction l with
  | nil=>intro _ _;trivial
  | cons env r ih=>
   intro hs hl
   obtain⟨hk,⟨L,o,hf,hn,ho,hd⟩,hr⟩:=hl
   have hL:L∈X.fs:=hs L (by unfold sF;rw[abd,hf];exact aal)
   obtain⟨sl,e⟩:=I.base.slot L o ho (I.ok.Lw L hL) hL fun z=>I.ok.GW L z hL
   exact⟨hk,⟨L,_,hf,hn,e,hd⟩,ih (fun b hb=>hs b (by unfold sF;rw[abd,hf];exact Z4 _ hb)) hr⟩
 exact all X.outer (fun _ hb=>hb) I.ok.tI
theorem Inv.stack(I:Inv X c_ σ H s):s.heap.FunFrames X.base X.stack:=by
 rcases I.ok.O1 with e|⟨e,hf⟩
 ·rw[e];exact I.tI
 ·rw[e]
  obtain⟨m,hn,_⟩:=I.loc
  refine .cons (by rw[I.ok.kind];decide) hf hn ?_ I.tI
  exact Heap.get?_none_of_le (aac I.ok.JQ I.ok.above)
theorem Inv.uO(I:Inv X c_ σ H s):∀b∈sF X.stack,b∈X.env.locals::X.fs:=fun b hb=>by
 rcases I.ok.O1 with e|⟨e,hf⟩
 ·rw[e] at hb;exact Z4 _ hb
 ·rw[e] at hb
  unfold sF at hb
  rw[abd,hf] at hb
  exact hb
theorem Inv.Av(I:Inv X c_ σ H s):∀b∈sF X.stack,H b=none:=fun b hb=>by
 rcases WK.mp (I.uO b hb) with e|hb
 ·rw[e];exact I.free
 ·obtain⟨_,o,ho,_⟩:=I.ok.tI.mem hb
  exact I.base.free b o ho (I.ok.Lw b hb) fun z=>I.ok.GW b z hb
theorem Inv.step{g':Array GenState}{t':Nat}{d':Drawn}{ch:List Addr}(I:Inv X c_ σ H s)
  (JB:∀b∈ch,(b∈X.ex∨X.s₀.heap.objs.size≤b)∧b≠X.env.locals∧(∀x c,X.env.cells.lookup x=some c→c≠b)∧∀p∈X.pn++c_,p.1≠b)
  (keep:∀b o,b≠X.env.locals→b∉X.fs→b∉ch→s.heap.get? b=some o→H b=none→h'.get? b=some o)
  (slot:∀b o,b≠X.env.locals→b∈X.fs→b∉ch→s.heap.get? b=some o→H b=none→∃sl,h'.get? b=some {o with slots:=sl}) (free:∀b o,b∉ch→s.heap.get? b=some o→H b=none→H' b=none)
  (there:∀b o,b∉ch→s.heap.get? b=some o→∃o',h'.get? b=some o')
  (pw:∀b xs,H b=some (.tup xs)→H' b=some (.tup xs)) (tH:∀b o u,H b=some (.nR o u)→H' b=some (.nR o u)) (wL:∀b ps,H b=some (.Ju ps)→∃more,H' b=some (.Ju (ps++more)))
  (ns:∀m,s.heap.Ns X.env.locals m→h'.Ns X.env.locals m) (iM:qA X.prog X.w H' h') (hg:AllBare g') :
  Inv X c_ σ H' {s with heap:=h',gens:=g',drawn:=d',toks:=t'}:=by
 have WU:∀b o,X.s₀.heap.get? b=some o→b≠X.env.locals:=fun b o e=>aaP (aax (aar e) I.ok.above)
 have R4:∀b o,X.s₀.heap.get? b=some o→b∉X.ex→b∉ch:=fun b o e hx hb=>by
  rcases(JB b hb).1 with z|z
  ·exact hx z
  ·exact absurd (aax (aar e) z) (aba _)
 have cellK:∀x c,X.env.cells.lookup x=some c→∀v,s.heap.IsCell c v→h'.IsCell c v:=fun x c e v ⟨o,ho,hd⟩=>by
  have Qr:c∉ch:=fun z=>(JB c z).2.2.1 x c e rfl
  by_cases hc:c∈X.fs
  ·obtain⟨sl,q⟩:=slot c o (I.Md x c e) hc Qr ho (I.oH x c e)
   exact⟨_,q,hd⟩
  ·exact⟨o,keep c o (I.Md x c e) hc Qr ho (I.oH x c e),hd⟩
 refine⟨I.ok,I.os,hg,⟨fun b o e n hb hx=>?_,fun b o e n hb hx=>?_,fun b o e n hx=>?_,fun b o e hx=>?_,fun b xs e=>pw b xs (I.base.pw b xs e),fun b o xs e=>tH b o xs (I.base.tH b o xs e),fun b ps e=>?_⟩,?_,fun x c e=>?_,?_,fun x c e=>?_,fun p hp=>?_,iM,I.len⟩
 ·exact keep b o (WU b o e) hb (R4 b o e hx) (I.base.keep b o e n hb hx) (I.base.free b o e n hx)
 ·obtain⟨sl,e1⟩:=I.base.slot b o e n hb hx
  obtain⟨sl',e2⟩:=slot b _ (WU b o e) hb (R4 b o e hx) e1 (I.base.free b o e n hx)
  exact⟨sl',e2⟩
 ·obtain⟨o',e1⟩:=I.base.there b o e hx
  exact free b o' (R4 b o e hx) e1 (I.base.free b o e n hx)
 ·obtain⟨o',e1⟩:=I.base.there b o e hx
  exact there b o' (R4 b o e hx) e1
 ·obtain⟨m1,e1⟩:=I.base.wL b ps e
  obtain⟨m2,e2⟩:=wL b _ e1
  exact⟨m1++m2,by rw[e2,Array.append_assoc]⟩
 ·obtain⟨m,hn,hl⟩:=I.loc
  refine⟨m,ns m hn,fun i x v e1 e2 e3=>?_⟩
  obtain⟨u,r,l⟩:=hl i x v e1 e2 e3
  refine⟨u,r,?_⟩
  rcases l with l|⟨k,c,e,z⟩
  ·exact .inl l
  ·exact .inr ⟨k,c,e,cellK x c e _ z⟩
 ·obtain⟨v,z⟩:=I.cell x c e
  exact⟨v,cellK x c e v z⟩
 ·obtain⟨m,⟨o,_,_,ho,_⟩,_⟩:=I.loc
  exact free _ o (fun z=>(JB _ z).2.1 rfl) ho I.free
 ·obtain⟨v,o,ho,hd⟩:=I.cell x c e
  exact free c o (fun z=>(JB c z).2.2.1 x c e rfl) ho (I.oH x c e)
 ·obtain⟨e,n,ne,nf,d⟩:=I.pin p hp
  have Qr:p.1∉ch:=fun z=>(JB p.1 z).2.2.2 p hp rfl
  exact⟨keep p.1 p.2 ne nf Qr e n,free p.1 p.2 Qr e n,ne,nf,d⟩
theorem Inv.un{t':Nat}(I:Inv X c_ σ H s)(u:Un X.fs [] H H' s.heap h')(iM:qA X.prog X.w H' h'):Inv X c_ σ H' {s with heap:=h',toks:=t'}:=by
 obtain⟨m,⟨o,es,ep,ho,r⟩,_⟩:=id I.loc
 obtain⟨sl,hL⟩:=u.any ho I.free (by simp)
 exact I.step (g':=s.gens) (d':=s.drawn) (ch:=[]) (fun _ z=>nomatch z) (fun b o _ hb _ e n=>u.keep b o e n hb (by simp)) (fun b o _ hb _ e n=>u.slot b o e n hb (by simp)) (fun b o _ e n=>u.free b o e n (by simp)) (fun b o _ e=>u.there b o e (by simp)) u.pw u.tH u.wL (fun m' hm=>by
  obtain⟨o',OM,LM,p8,r'⟩:=hm
  rw[ho] at p8;cases p8
  exact⟨_,OM,LM,hL,r'⟩) iM I.bare
theorem Inv.call{g':Array GenState}{t':Nat}{d':Drawn}{ch:List Addr}(I:Inv X c_ σ H s)(u:Un (sF X.stack) ch H H' s.heap h')(iM:qA X.prog X.w H' h')(hg:AllBare g')
  (JB:∀b∈ch,(b∈X.ex∨X.s₀.heap.objs.size≤b)∧b≠X.env.locals∧(∀x c,X.env.cells.lookup x=some c→c≠b)∧∀p∈X.pn++c_,p.1≠b) :
  Inv X c_ σ H' {s with heap:=h',gens:=g',drawn:=d',toks:=t'}:=by
 obtain⟨m,⟨o,es,ep,ho,r⟩,_⟩:=id I.loc
 obtain⟨sl,hL⟩:=u.any ho I.free fun z=>(JB _ z).2.1 rfl
 exact I.step (ch:=ch) JB (fun b o hL hb hc e n=>u.keep b o e n (fun z=>(WK.mp (I.uO b z)).elim hL hb) hc) (fun b o _ _ hc e n=>u.any e n hc) (fun b o hc e n=>u.free b o e n hc) (fun b o hc e=>u.there b o e hc) u.pw u.tH u.wL (fun m' hm=>by
  obtain⟨o',OM,LM,p8,r'⟩:=hm
  rw[ho] at p8;cases p8
  exact⟨_,OM,LM,hL,r'⟩) iM hg
theorem Inv.turned{t':Nat}{it:Addr}(I:Inv X c_ σ H s)(k:∀b o,b≠it→s.heap.get? b=some o→h'.get? b=some o)(hn:H it=none)(hL:it≠X.env.locals)
  (h1:it∈X.ex∨X.s₀.heap.objs.size≤it) (h2:∀x c,X.env.cells.lookup x=some c→c≠it) (h3:∀p∈X.pn++c_,p.1≠it):Inv X c_ σ H {s with heap:=h',toks:=t'}:=by
 have WV:∀b u,H b=some u→b≠it:=fun b u e z=>by rw[z,hn] at e;cases e
 refine I.step (g':=s.gens) (d':=s.drawn) (ch:=[it]) (fun b hb=>?_) (fun b o _ _ hc e _=>k b o (fun z=>hc (by simp[z])) e) (fun b o _ _ hc e _=>⟨o.slots,k b o (fun z=>hc (by simp[z])) e⟩) (fun _ _ _ _ n=>n)
  (fun b o hc e=>⟨o,k b o (fun z=>hc (by simp[z])) e⟩) (fun _ _ e=>e) (fun _ _ _ e=>e) (fun b ps e=>⟨#[],by rw[e];simp⟩) (fun m hm=>?_) (fun b u e=>?_) I.bare
 ·have e:b=it:=by simpa using hb
  subst e
  exact⟨h1,hL,h2,h3⟩
 ·obtain⟨o,es,ep,ho,r⟩:=hm
  exact⟨o,es,ep,k _ o (abA hL) ho,r⟩
 ·refine(I.iM b u e).xx (fun c v hc q=>k c v ?_ q) (fun _ q=>q) fun _ _ q=>q
  rcases hc with z|z
  ·rw[z];exact WV b u e
  ·exact WV c _ z
theorem Inv.tok(I:Inv X c_ σ H s)(t:Nat):Inv X c_ σ H {s with toks:=t}:=I.un (h':=s.heap) (t':=t) Un.refl I.iM
theorem Inv.kept{t':Nat}(I:Inv X c_ σ H s)(k:∀b u,s.heap.get? b=some u→h'.get? b=some u):Inv X c_ σ H {s with heap:=h',toks:=t'}:=I.un (Un.kept k) (I.iM.kept k)
theorem Inv.laid{a:Addr}{o:HO}{t':Nat}(I:Inv X c_ σ H s)(k:∀b u,s.heap.get? b=some u→h'.get? b=some u)(hp:s.heap.objs.size≤a)(new:i9 X.prog X.w (upd H a o) h' a o) :
 Inv X c_ σ (upd H a o) {s with heap:=h',toks:=t'}:=I.un (Un.laid k hp (I.iM.fresh hp)) (I.iM.laid k hp new)
theorem Inv.write{x e:Addr}{o:HO}{t':Nat}(I:Inv X c_ σ H s)(mu:Lv (H x))(he:e=x∨H e=some (.own x))(k:∀b u,b≠e→s.heap.get? b=some u→h'.get? b=some u)(IK:∃u,h'.get? e=some u)
 (new:i9 X.prog X.w (upd H x o) h' x o):Inv X c_ σ (upd H x o) {s with heap:=h',toks:=t'}:=I.un (Un.write mu he k IK) (I.iM.write mu he k IK new)
theorem Inv.xh{LO:Qqz}(I:Inv X c_ σ H s)(h:∀p∈LO,s.heap.get? p.1=some p.2∧H p.1=none∧p.1≠X.env.locals∧p.1∉X.fs∧∀v,p.2.data≠.cell v):Inv X LO σ H s:=
 ⟨I.ok,I.os,I.bare,I.base,I.loc,I.cell,I.free,I.oH,fun p hp=>(WL.mp hp).elim (fun z=>I.pin p (aaf _ z)) (h p),I.iM,I.len⟩
theorem B6{N:List Str}(hN:N.Nodup){i j:Nat}{x:Str}(a:N[i]?=some x)(b:N[j]?=some x):i=j:=by
 obtain⟨h1,e1⟩:=List.getElem?_eq_some_iff.mp a
 obtain⟨h2,e2⟩:=List.getElem?_eq_some_iff.mp b
 exact(List.getElem_inj hN).mp (e1.trans e2.symm)
theorem zC{M:Model}{A:Around}{E:Qqq}{i:Nat}{x:Str}{v:V}{u:Value}{Q:Unit→Shared→Prop}(I:Inv X c_ σ H s)(hN:X.N.Nodup)(hi:X.N[i]?=some x)(hx:Loc X.env.scope x)(r:RelV v u)
  (h:∀s',Inv X c_ (σ.set i (some v)) H s'→(∃a,Heap.SameBut a s.heap s'.heap∧(a=X.env.locals∨X.env.cells.lookup x=some a))→Q () s') (hf:X.fn x=true∨X.env.scope.names.lookup x=some .local:=by first|exact .inl rfl|exact .inr rfl|assumption):wpAny M A (storeName X.env x u) Q E s:=by
 obtain⟨m,hn,hl⟩:=id I.loc
 have Ue:(X.env.scope.kind ==.class||(X.env.scope.kind ==.module&&X.env.locals != X.env.globals))=false:=by rw[I.ok.kind];rfl
 have WW:i<σ.length:=by rw[I.len];exact(List.getElem?_eq_some_iff.mp hi).1
 have Md:=I.Md
 have tracked:∀{a:Addr} {h':Heap},(∃o,s.heap.get? a=some o∧H a=none)→Heap.SameBut a s.heap h'→qA X.prog X.w H h':=fun{a h'} ha hs b ob e=>by
  obtain⟨_,_,wI⟩:=ha
  refine(I.iM b ob e).xx (fun c w' hc q=>(hs.2 c ?_).trans q) (fun _ q=>q) fun _ _ q=>q
  rintro rfl
  rcases hc with rfl|hc
  ·rw[wI] at e;cases e
  ·rw[wI] at hc;cases hc
 rcases hx with hk|hk
 ·refine wpAny_storeName_local hk hn (fun h' ON hs=>?_) Ue
  obtain⟨oL,_,_,hoL,_⟩:=id hn
  refine h _ ⟨I.ok,I.os,I.bare,⟨fun b o e n hb hx=>?_,fun b o e n hb hx=>?_,I.base.free,fun b o e hx=>?_,I.base.pw,I.base.tH,I.base.wL⟩,⟨_,ON,fun j y v' e1 e2 e3=>?_⟩,fun y c e=>?_,I.free,I.oH,fun p hp=>?_,tracked ⟨oL,hoL,I.free⟩ hs,by simpa using I.len⟩ ⟨_,hs,.inl rfl⟩
  ·exact(hs.2 b (aaP (aax (aar e) I.ok.above))).trans (I.base.keep b o e n hb hx)
  ·obtain⟨sl,e1⟩:=I.base.slot b o e n hb hx
   exact⟨sl,(hs.2 b (aaP (aax (aar e) I.ok.above))).trans e1⟩
  ·obtain⟨o',e1⟩:=I.base.there b o e hx
   exact⟨o',(hs.2 b (aaP (aax (aar e) I.ok.above))).trans e1⟩
  ·by_cases hj:j=i
   ·subst hj
    rw[hi] at e1;cases e1
    rw[aa9 WW] at e2
    cases e2
    exact⟨u,r,.inl ⟨hk,by simp⟩⟩
   ·rw[abm (abA hj)] at e2
    obtain⟨u',r',q⟩:=hl j y v' e1 e2 e3
    refine⟨u',r',?_⟩
    rcases q with⟨k,e⟩|⟨k,c,e,z⟩
    ·refine .inl ⟨k,?_⟩
     have:y≠x:=fun e=>hj (B6 hN e1 (e▸hi))
     simp[this,e]
    ·exact .inr ⟨k,c,e,z.sameBut hs (Md y c e)⟩
  ·obtain⟨w',z⟩:=I.cell y c e
   exact⟨w',z.sameBut hs (Md y c e)⟩
  ·obtain⟨e,n,ne,nf,d⟩:=I.pin p hp
   exact⟨(hs.2 p.1 ne).trans e,n,ne,nf,d⟩
 ·have Ug:X.fn x=true:=by
   rcases hf with z|z
   ·exact z
   ·rw[z] at hk;cases hk
  obtain⟨c,hc⟩:=I.ok.has x (.inl hk)
  obtain⟨w',z⟩:=I.cell x c hc
  refine wpAny_storeName_cell I.ok.kind hk hc z (fun h' Am hs=>?_)
  obtain⟨oc,WX,Uh⟩:=id z
  refine h {s with heap:=h'} ⟨I.ok,I.os,I.bare,⟨fun b o e n hb hx=>?_,fun b o e n hb hx=>?_,I.base.free,fun b o e hx=>?_,I.base.pw,I.base.tH,I.base.wL⟩,⟨m,hn.sameBut hs (abA (Md x c hc)),fun j y v' e1 e2 e3=>?_⟩,fun y c' e=>?_,I.free,I.oH,fun p hp=>?_,tracked ⟨oc,WX,I.oH x c hc⟩ hs,by simpa using I.len⟩ ⟨c,hs,.inr hc⟩
  ·exact(hs.2 b (aaP (aax (aar e) (I.ok.OB x c Ug hc)))).trans (I.base.keep b o e n hb hx)
  ·obtain⟨sl,e1⟩:=I.base.slot b o e n hb hx
   exact⟨sl,(hs.2 b (aaP (aax (aar e) (I.ok.OB x c Ug hc)))).trans e1⟩
  ·obtain⟨o',e1⟩:=I.base.there b o e hx
   exact⟨o',(hs.2 b (aaP (aax (aar e) (I.ok.OB x c Ug hc)))).trans e1⟩
  ·by_cases hj:j=i
   ·subst hj
    rw[hi] at e1;cases e1
    rw[aa9 WW] at e2
    cases e2
    exact⟨u,r,.inr ⟨.inl hk,c,hc,Am⟩⟩
   ·rw[abm (abA hj)] at e2
    obtain⟨u',r',q⟩:=hl j y v' e1 e2 e3
    refine⟨u',r',?_⟩
    rcases q with q|⟨k,c',e,z'⟩
    ·exact .inl q
    ·refine .inr ⟨k,c',e,z'.sameBut hs ?_⟩
     rintro rfl
     exact hj (B6 hN e1 (I.ok.inj _ _ _ e hc▸hi))
  ·by_cases WY:c'=c
   ·subst WY;exact⟨_,Am⟩
   ·obtain⟨w2,z2⟩:=I.cell y c' e
    exact⟨w2,z2.sameBut hs WY⟩
  ·obtain⟨e,n,ne,nf,d⟩:=I.pin p hp
   refine⟨(hs.2 p.1 ?_).trans e,n,ne,nf,d⟩
   intro q
   rw[q,WX] at e
   have q':oc=p.2:=aao e
   exact d w' (by rw[←q'];exact Uh)
theorem B7{M:Model}{A:Around}{E:Qqq}{i:Nat}{x:Str}{v:V}{u:Value}{Q:Unit→Shared→Prop}(I:Inv X c_ σ H s)(hN:X.N.Nodup)(hi:X.N[i]?=some x)(hx:Loc X.env.scope x)(r:RelV v u)
  (h:∀s',Inv X c_ (σ.set i (some v)) H s'→Q () s') (hf:X.fn x=true∨X.env.scope.names.lookup x=some .local:=by first|exact .inl rfl|exact .inr rfl|assumption):wpAny M A (storeName X.env x u) Q E s:=
 zC I hN hi hx r (fun s' I' _=>h s' I') hf
theorem Inv.O3{s':Shared}{ch:List Addr}(I:Inv X c_ σ H s)(ho:s'.os=s.os)(u:Un (sF X.stack) ch H H' s.heap s'.heap)(iM:qA X.prog X.w H' s'.heap)(hg:AllBare s'.gens)
  (JB:∀b∈ch,(b∈X.ex∨X.s₀.heap.objs.size≤b)∧b≠X.env.locals∧(∀x c,X.env.cells.lookup x=some c→c≠b)∧∀p∈X.pn++c_,p.1≠b):Inv X c_ σ H' s':=by
 obtain⟨h',g',d',t',o'⟩:=s'
 have e:o'=s.os:=ho
 subst e
 exact I.call (g':=g') (t':=t') (d':=d') u iM hg JB
end
abbrev XK:=Value→Option Addr→Hp→Prop
abbrev St:=List (Option V)
abbrev VK:=V→Hp→Prop
abbrev TE:=St→Hp→VK→Prop
abbrev TT:=St→Hp→(Bool→Hp→Prop)→Prop
abbrev TA:=St→Hp→(List V→Hp→Prop)→Prop
structure Ends where
 nx:St→Hp→Prop
 rt:VK
 bk:St→Hp→Prop:=fun _ _=>False
 ct:St→Hp→Prop:=fun _ _=>False
abbrev TS:=Ends→St→Hp→Prop
def EP(X:Cx)(c_:Qqz)(σ:St)(Q:VK)(u:Value)(s':Shared):Prop:=∃v H',Inv X c_ σ H' s'∧RelV v u∧Q v H'
def TP(X:Cx)(c_:Qqz)(σ:St)(Q:Bool→Hp→Prop)(b:Bool)(s':Shared):Prop:=∃H',Inv X c_ σ H' s'∧Q b H'
def AP(X:Cx)(c_:Qqz)(σ:St)(Q:List V→Hp→Prop)(us:List Value)(s':Shared):Prop:=∃vs H',Inv X c_ σ H' s'∧Vals vs us∧Q vs H'
def SP(X:Cx)(c_:Qqz)(D:Ends)(f:Flow)(s':Shared):Prop:=
 match f with
 | .next=>∃σ' H',Inv X c_ σ' H' s'∧D.nx σ' H'
 | .brk=>∃σ' H',Inv X c_ σ' H' s'∧D.bk σ' H'
 | .cont=>∃σ' H',Inv X c_ σ' H' s'∧D.ct σ' H'
 | .ret u=>∃v σ' H',Inv X c_ σ' H' s'∧RelV v u∧D.rt v H'
def PE(X:Cx)(e:Expr)(t:TE):Prop:=
 ∀(c_:Qqz)(s:Shared)(σ:St)(H:Hp)(Q:VK),Inv X c_ σ H s→t σ H Q→wpAny (model X.prog X.w) X.A (eval e X.env) (EP X c_ σ Q) X.xe s
def PT(X:Cx)(e:Expr)(t:TT):Prop:=
 ∀(c_:Qqz)(s:Shared)(σ:St)(H:Hp)(Q:Bool→Hp→Prop),Inv X c_ σ H s→t σ H Q→wpAny (model X.prog X.w) X.A (isTrue e X.env (eval e X.env)) (TP X c_ σ Q) X.xe s
def PW(X:Cx)(e:Expr)(t:TT):Prop:=
 ∀(whole:Sem Value)(c_:Qqz)(s:Shared)(σ:St)(H:Hp)(Q:Bool→Hp→Prop),Inv X c_ σ H s→t σ H Q→wpAny (model X.prog X.w) X.A (isTrue e X.env whole) (TP X c_ σ Q) X.xe s
theorem PW.pt{X:Cx}{e:Expr}{t:TT}(h:PW X e t):PT X e t:=h _
def PA(X:Cx)(es:List Expr)(t:TA):Prop:=
 ∀(pos:Pos)(c_:Qqz)(s:Shared)(σ:St)(H:Hp)(Q:List V→Hp→Prop),Inv X c_ σ H s→t σ H Q→wpAny (model X.prog X.w) X.A (spliced (backTo pos (starEach es X.env))) (AP X c_ σ Q) X.xe s
def PS(X:Cx)(st:Stmt)(t:TS):Prop:=
 ∀(c_:Qqz)(s:Shared)(σ:St)(H:Hp)(D:Ends),Inv X c_ σ H s→t D σ H→wpAny (model X.prog X.w) X.A (exec st X.env) (SP X c_ D) X.xe s
def DB(X:Cx)(st:List Stmt)(t:TS):Prop:=
 ∀(c_:Qqz)(s:Shared)(σ:St)(H:Hp)(D:Ends),Inv X c_ σ H s→t D σ H→wpAny (model X.prog X.w) X.A (execs st X.env) (SP X c_ D) X.xe s
theorem i6{α:Type}{t:Sem α}{Q Q':α→Shared→Prop}{M:Model}{A:Around}{E:Qqq}{s:Shared}(h:wpAny M A t Q E s)(hQ:∀a s,Q a s→Q' a s):wpAny M A t Q' E s:=abr h hQ fun _ _ x=>x
section
variable{X:Cx}
def O4(i:Nat):TE:=fun σ H Q=>∃v,σ[i]?=some (some v)∧Q v H
def tC(v:V):TE:=fun _ H Q=>Q v H
theorem Me{i:Nat}{x:Str}{pos:Pos}(hN:X.N[i]?=some x)(hv:S6 X.env.scope x)(hd:(x ==("__debug__":Str))=false:=by decide)(An:(x ==("__classdict__":Str))=false:=by decide):PE X (.Name x pos) (O4 i):=by
 intro c_ s σ H Q I h
 obtain⟨v,e,h⟩:=h
 obtain⟨m,hn,hl⟩:=I.loc
 obtain⟨u,r,l⟩:=hl i x v hN e hv
 have fin:EP X c_ σ Q u s:=⟨v,H,I,r,h⟩
 rcases l with⟨hk,hm⟩|⟨hk,c,hc,LP⟩
 ·exact wpAny_Name (wpAny_loadName_local I.ok.kind hk hn hm fin) hd
 ·rcases hk with hk|hk
  ·exact wpAny_Name (wpAny_loadName_cell I.ok.kind hk hc LP fin) hd
  ·exact wpAny_Name (wpAny_loadName_free I.ok.kind hk hc LP fin An) hd
theorem fY{i j pos}:PE X (.Constant (.int i) j pos) (tC (.int i)):=fun _ _ _ H _ I h=>wpAny_Constant_int ⟨.int i,H,I.tok _,⟨_,rfl⟩,h⟩
theorem jS{b j pos}:PE X (.Constant (.bool b) j pos) (tC (.bl b)):=fun _ _ _ H _ I h=>Constant_bool ⟨.bl b,H,I,rfl,h⟩
theorem k9{j pos}:PE X (.Constant .none j pos) (tC .iP):=fun _ _ _ H _ I h=>Constant_none ⟨.iP,H,I,rfl,h⟩
theorem i7{x j pos}:PE X (.Constant (.str x) j pos) (tC (.str x)):=fun _ _ _ H _ I h=>Calls.Constant_str ⟨.str x,H,I.tok _,⟨_,rfl⟩,h⟩
def Gl(X:Cx)(x:Str):Prop:=X.env.kindOf x=some .globalImplicit
theorem tJ{E:Qqq}{c_:Qqz}{s:Shared}{σ:St}{H:Hp}{x:Str}{u:Value}{pos:Pos}{Q:Qqq}(I:Inv X c_ σ H s)(hg:Gl X x)(hm:X.mg x=some u)(h:Q u s)
  (hd:(x ==("__debug__":Str))=false:=by decide):wpAny (model X.prog X.w) X.A (eval (.Name x pos) X.env) Q E s:=
 Calls.Name_function_global I.ok.kind hg (Calls.loadGlobal_global (by rw[I.ok.glob];exact I.mod.glob.keeps I.bk) hm h) hd
theorem mV{E:Qqq}{c_:Qqz}{s:Shared}{σ:St}{H:Hp}{x:Str}{u:Value}{pos:Pos}{Q:Qqq}(I:Inv X c_ σ H s)(hg:Gl X x)(hm:X.mg x=none)(hv:bootBuiltins x=some u)(h:Q u s)
  (hn:x≠"__name__":=by decide) (hd:(x ==("__debug__":Str))=false:=by decide):wpAny (model X.prog X.w) X.A (eval (.Name x pos) X.env) Q E s:=by
 obtain⟨mb,h1,h2⟩:=I.mod.blt
 exact Calls.Name_function_global I.ok.kind hg (Calls.loadGlobal_builtin (by rw[I.ok.glob];exact I.mod.glob.keeps I.bk) hm (by rw[I.ok.blt];exact h1.keeps I.bk) ((h2 x hn).trans hv) h) hd
theorem Aw{x:Str}{v:V}{u:Value}{pos:Pos}(hg:Gl X x)(hm:X.mg x=some u)(r:RelV v u)(hd:(x ==("__debug__":Str))=false:=by decide):PE X (.Name x pos) (tC v):=
 fun _ _ _ H _ I h=>tJ I hg hm ⟨v,H,I,r,h⟩ hd
theorem kK{x:Str}{v:V}{u:Value}{pos:Pos}(hg:Gl X x)(hm:X.mg x=none)(hv:bootBuiltins x=some u)(r:RelV v u)(hn:x≠"__name__":=by decide)(hd:(x ==("__debug__":Str))=false:=by decide):PE X (.Name x pos) (tC v):=
 fun _ _ _ H _ I h=>mV I hg hm hv ⟨v,H,I,r,h⟩ hn hd
variable{a b:Expr}{ta tb:TE}{pos:Pos}
def PC(X:Cx)(op:CmpOp)(a b:Expr)(t:TE):Prop:=
 ∀(c_:Qqz)(s:Shared)(σ:St)(H:Hp)(Q:VK),Inv X c_ σ H s→t σ H Q→
  wpAny (model X.prog X.w) X.A (eval a X.env) (fun v s₁=>wpAny (model X.prog X.w) X.A (eval b X.env) (fun u s₂=>wpAny (model X.prog X.w) X.A (compareOp op v u) (EP X c_ σ Q) X.xe s₂) X.xe s₁) X.xe s
theorem B8(b:Expr){op:CmpOp}(h:op≠.In)(h2:op≠.NotIn):behindInMarks op b=false:=by
 have e1:(op ==CmpOp.In)=false:=by cases op<;>first|rfl|exact absurd rfl h
 have e2:(op ==CmpOp.NotIn)=false:=by cases op<;>first|rfl|exact absurd rfl h2
 cases b<;>simp[behindInMarks,e1,e2]
def S8(ta:TE):TE:=fun σ H Q=>ta σ H fun x H1=>Q (.bl (decide (x=.iP))) H1
def O5(ta:TE):TE:=fun σ H Q=>ta σ H fun x H1=>Q (.bl (!decide (x=.iP))) H1
theorem RelV.B9{x:V}{v:Value}(r:RelV x v):(v ==Value.none)=decide (x=.iP):=by
 cases x with
 | iP=>cases r;rfl
 | bl _=>cases r;rfl
 | int _=>obtain⟨t,rfl⟩:=r;rfl
 | str _=>obtain⟨t,rfl⟩:=r;rfl
 | B5 _=>obtain⟨t,rfl⟩:=r;rfl
 | Jt _=>obtain⟨t,rfl⟩:=r;rfl
 | ref _=>cases r;rfl
 | ty _=>cases r;rfl
theorem GX{j pos'}(ha:PE X a ta):PC X .Is a (.Constant .none j pos') (S8 ta):=by
 intro c_ s σ H Q I h
 refine i6 (ha c_ s σ H _ I h) fun v s1 iI=>?_
 obtain⟨x,H1,I1,r1,q1⟩:=iI
 exact Constant_none (is_none_gen ⟨.bl _,H1,I1,by rw[r1.B9];rfl,q1⟩)
theorem nS{j pos'}(ha:PE X a ta):PC X .IsNot a (.Constant .none j pos') (O5 ta):=by
 intro c_ s σ H Q I h
 refine i6 (ha c_ s σ H _ I h) fun v s1 iI=>?_
 obtain⟨x,H1,I1,r1,q1⟩:=iI
 exact Constant_none (isnot_none_gen ⟨.bl _,H1,I1,by rw[r1.B9];rfl,q1⟩)
def tB(t:TE):TT:=fun σ H Q=>t σ H fun x H1=>∃c,x=.bl c∧Q c H1
theorem GY{op:CmpOp}{t:TE}(h:PC X op a b t)(h1:behindInMarks op b=false:=by first|exact B8 _ (by decide) (by decide)|rfl):PE X (.Compare a [op] [b] pos) t:=fun c_ s σ H Q I hw=>wpAny_Compare1 (h c_ s σ H Q I hw) h1
theorem jq{op:CmpOp}{t:TE}(h:PC X op a b t)(h1:behindInMarks op b=false:=by first|exact B8 _ (by decide) (by decide)|rfl):PT X (.Compare a [op] [b] pos) (tB t):=by
 intro c_ s σ H Q I hw
 refine wpAny_isTrue_Compare1 (i6 (h c_ s σ H _ I hw) fun v s1 h1=>i6 h1 fun u s2 h2=>i6 h2 fun c s3 iI=>?_) h1
 obtain⟨x,H1,I1,r1,q1⟩:=iI
 obtain⟨d,rfl,q⟩:=q1
 cases r1
 exact abt ⟨H1,I1,q⟩
theorem jM{e:Expr}{t:TE}(h:PE X e t)(he:∀whole,isTrue e X.env whole=(do let v ←whole;standAt e.pos;holding [v] (truthy v)):=by intro _;rfl):PT X e (tB t):=by
 intro c_ s σ H Q I hw
 refine isTrue_plain (i6 (h c_ s σ H _ I hw) fun v s1 iI=>?_) (he _)
 obtain⟨x,H1,I1,r1,q1⟩:=iI
 obtain⟨d,rfl,q⟩:=q1
 cases r1
 exact abt ⟨H1,I1,q⟩
variable{tA R5:TT}{rest:List Expr}
def S9(t u:TT):TT:=fun σ H Q=>t σ H fun c H1=>if c=true then u σ H1 Q else Q false H1
def ZS(t u:TT):TT:=fun σ H Q=>t σ H fun c H1=>if c=true then Q true H1 else u σ H1 Q
def S_(t:TT):TT:=fun σ H Q=>t σ H fun c H1=>Q (!c) H1
theorem pw_and1(ha:PT X a tA):PW X (.BoolOp .And [a] pos) tA:=by
 intro wh c_ s σ H Q I h
 refine isTrue_and (i6 (ha c_ s σ H Q I h) fun c s1 e=>?_)
 cases c with
 | true=>exact isTrue_and_nil e
 | false=>exact e
theorem pw_or1(ha:PT X a tA):PW X (.BoolOp .Or [a] pos) tA:=by
 intro wh c_ s σ H Q I h
 refine isTrue_or (i6 (ha c_ s σ H Q I h) fun c s1 e=>?_)
 cases c with
 | false=>exact isTrue_or_nil e
 | true=>exact e
theorem pw_and(ha:PT X a tA)(hb:PW X (.BoolOp .And (b::rest) pos) R5):PW X (.BoolOp .And (a::b::rest) pos) (S9 tA R5):=by
 intro wh c_ s σ H Q I h
 refine isTrue_and (i6 (ha c_ s σ H _ I h) fun c s1 iI=>?_)
 obtain⟨H1,I1,q1⟩:=iI
 cases c with
 | true=>exact hb wh c_ s1 σ H1 Q I1 q1
 | false=>exact⟨H1,I1,q1⟩
theorem pw_or(ha:PT X a tA)(hb:PW X (.BoolOp .Or (b::rest) pos) R5):PW X (.BoolOp .Or (a::b::rest) pos) (ZS tA R5):=by
 intro wh c_ s σ H Q I h
 refine isTrue_or (i6 (ha c_ s σ H _ I h) fun c s1 iI=>?_)
 obtain⟨H1,I1,q1⟩:=iI
 cases c with
 | true=>exact⟨H1,I1,q1⟩
 | false=>exact hb wh c_ s1 σ H1 Q I1 q1
theorem jr(ha:PT X a tA):PT X (.UnaryOp .Not a pos) (S_ tA):=by
 intro c_ s σ H Q I h
 exact isTrue_not (ha c_ s σ H (fun c H1=>Q (!c) H1) I h)
def O6(ta tb:TE):TE:=fun σ H Q=>ta σ H fun x H1=>∃c,x=.bl c∧if c=true then tb σ H1 Q else Q (.bl false) H1
def O7(ta:TE):TE:=fun σ H Q=>ta σ H fun x H1=>∃c,x=.bl c∧Q (.bl (!c)) H1
theorem Mf{op}{t:TE}(h:PE X a t):PE X (.BoolOp op [a] pos) t:=fun c_ s σ H Q I hw=>BoolOp_one (h c_ s σ H Q I hw)
theorem Mg(ha:PE X a ta)(hb:PE X (.BoolOp .And (b::rest) pos) tb):PE X (.BoolOp .And (a::b::rest) pos) (O6 ta tb):=by
 intro c_ s σ H Q I h
 refine BoolOp_and (i6 (ha c_ s σ H _ I h) fun v s1 iI=>?_)
 obtain⟨x,H1,I1,r1,q1⟩:=iI
 obtain⟨c,rfl,q1⟩:=q1
 cases r1
 refine abt ?_
 cases c with
 | true=>exact hb c_ s1 σ H1 Q I1 q1
 | false=>exact⟨.bl false,H1,I1,rfl,q1⟩
theorem Mh(ha:PE X a ta):PE X (.UnaryOp .Not a pos) (O7 ta):=by
 intro c_ s σ H Q I h
 refine UnaryOp_ (i6 (ha c_ s σ H _ I h) fun v s1 iI=>?_)
 obtain⟨x,H1,I1,r1,q1⟩:=iI
 obtain⟨c,rfl,q1⟩:=q1
 cases r1
 exact not_of (abt ⟨.bl (!c),H1,I1,rfl,q1⟩)
end
def ib(K:Qqy)(H:Hp)(a:Addr)(xs:List V):Prop:=
 Rd H a (.lst xs)∨
  ∃(o:Obj)(ic:Array Value)(n:Nat),K.lookup a=some o∧o.cls=.type "list"∧o.dict=none∧o.data=.seq ic n∧ic.size≤sizeLine∧Vals xs ic.toList
def lJ(K:Qqy)(H:Hp)(a:Addr)(xs:List V):Prop:=
 Rd H a (.tup xs)∨
  ∃(o:Obj)(ic:Array Value)(n:Nat),K.lookup a=some o∧o.cls=.type "tuple"∧o.data=.seq ic n∧ic.size≤sizeLine∧Vals xs ic.toList
noncomputable def Ta:Value→Option V
 | .none=>some .iP
 | .bool b=>some (.bl b)
 | .int i _=>some (.int i)
 | .str x _=>some (.str x)
 | .bytes b _=>some (.B5 b)
 | .float b _=>some (.Jt b)
 | .ref a=>some (.ref a)
 | .type n=>some (.ty n)
 | _=>none
theorem RelV.abs{x:V}{u:Value}(r:RelV x u):Ta u=some x:=by
 cases x with
 | iP=>cases r;rfl
 | bl _=>cases r;rfl
 | int _=>obtain⟨t,rfl⟩:=r;rfl
 | str _=>obtain⟨t,rfl⟩:=r;rfl
 | B5 _=>obtain⟨t,rfl⟩:=r;rfl
 | Jt _=>obtain⟨t,rfl⟩:=r;rfl
 | ref _=>cases r;rfl
 | ty _=>cases r;rfl
theorem RelV.inj{x y:V}{u:Value}(r:RelV x u)(q:RelV y u):x=y:=aao (r.abs.symm.trans q.abs)
theorem Vals.inj:∀{xs ys:List V} {us:List Value},Vals xs us→Vals ys us→xs=ys
 | _,_,_,.nil,.nil=>rfl
 | _,_,_,.cons r t,.cons r' t'=>by rw[r.inj r',Vals.inj t t']
section
variable{X:Cx}{c_:Qqz}{σ:St}{H:Hp}{s:Shared}{a:Addr}{xs ys:List V}
theorem ib.of{K:Qqy}(h:H a=some (.lst xs)):ib K H a xs:=.inl (.inl h)
theorem lJ.of{K:Qqy}(h:H a=some (.tup xs)):lJ K H a xs:=.inl (.inl h)
theorem Inv.list(I:Inv X c_ σ H s)(h:ib X.K H a xs):∃ic:List Value,Vals xs ic∧PlainL s.heap a ic.toArray∧xs.length≤sizeLine:=by
 rcases h with h|⟨o,ic,n,hk,hc,hd,hs,hz,r⟩
 ·obtain⟨z,ic,n,r,e⟩:=h.ok I.iM
  exact⟨ic,r,⟨_,n,e,rfl,rfl,rfl⟩,z⟩
 ·refine⟨ic.toList,r,⟨o,n,I.vH a o hk,hc,hd,by simpa using hs⟩,?_⟩
  have e:=r.length
  simp only [abe] at e
  omega
theorem Inv.tuple(I:Inv X c_ σ H s)(h:lJ X.K H a xs):∃ic:List Value,Vals xs ic∧IsTup s.heap a ic.toArray∧xs.length≤sizeLine:=by
 rcases h with h|⟨o,ic,n,hk,hc,hs,hz,r⟩
 ·obtain⟨z,ic,r,p⟩:=h.ok I.iM
  exact⟨ic,r,p,z⟩
 ·refine⟨ic.toList,r,⟨o,I.vH a o hk,hc,n,by simpa using hs⟩,?_⟩
  have e:=r.length
  simp only [abe] at e
  omega
theorem Inv.oI(I:Inv X c_ σ H s)(h:ib X.K H a xs)(h':ib X.K H a ys):xs=ys:=by
 obtain⟨ic,r,⟨o,n,e,_,_,d⟩,_⟩:=I.list h
 obtain⟨its',r',⟨o',n',e',_,_,d'⟩,_⟩:=I.list h'
 rw[e] at e';cases e'
 rw[d] at d'
 injection d' with d1 _
 have:ic=its':=by simpa using aaQ Array.toList d1
 subst this
 exact r.inj r'
theorem Inv.Fu(I:Inv X c_ σ H s)(h:lJ X.K H a xs)(h':lJ X.K H a ys):xs=ys:=by
 obtain⟨ic,r,⟨o,e,_,n,d⟩,_⟩:=I.tuple h
 obtain⟨its',r',⟨o',e',_,n',d'⟩,_⟩:=I.tuple h'
 rw[e] at e';cases e'
 rw[d] at d'
 injection d' with d1 _
 have:ic=its':=by simpa using aaQ Array.toList d1
 subst this
 exact r.inj r'
end
noncomputable abbrev Cx.y9(X:Cx)(E:Qqq):Cx:={X with xe:=E}
noncomputable abbrev Cx.O8(X:Cx):Cx:=X.y9 fun _ _=>False
theorem Cx.Ok.y9{X:Cx}(ok:X.Ok)(E:Qqq):(X.y9 E).Ok:=
 ⟨ok.mod,ok.kind,ok.glob,ok.blt,ok.above,ok.inj,ok.has,ok.OB,ok.hd,ok.frames,ok.O1,ok.S7,ok.bs,ok.JQ,ok.rS,ok.GW,ok.tI,ok.Lw⟩
theorem Cx.Ok.qC{X:Cx}{E:Qqq}(ok:(X.y9 E).Ok):X.Ok:=
 ⟨ok.mod,ok.kind,ok.glob,ok.blt,ok.above,ok.inj,ok.has,ok.OB,ok.hd,ok.frames,ok.O1,ok.S7,ok.bs,ok.JQ,ok.rS,ok.GW,ok.tI,ok.Lw⟩
section
variable{X:Cx}{c_:Qqz}{σ:St}{H:Hp}{s:Shared}{E:Qqq}
theorem Inv.y9(I:Inv X c_ σ H s)(E:Qqq):Inv (X.y9 E) c_ σ H s:=⟨I.ok.y9 E,I.os,I.bare,I.base,I.loc,I.cell,I.free,I.oH,I.pin,I.iM,I.len⟩
theorem Inv.qC(I:Inv (X.y9 E) c_ σ H s):Inv X c_ σ H s:=⟨I.ok.qC,I.os,I.bare,I.base,I.loc,I.cell,I.free,I.oH,I.pin,I.iM,I.len⟩
theorem SP.qC{D:Ends}{f:Flow}{s':Shared}(h:SP (X.y9 E) c_ D f s'):SP X c_ D f s':=by
 cases f with
 | next=>obtain⟨σ',H',I,q⟩:=h;exact⟨σ',H',I.qC,q⟩
 | brk=>obtain⟨σ',H',I,q⟩:=h;exact⟨σ',H',I.qC,q⟩
 | cont=>obtain⟨σ',H',I,q⟩:=h;exact⟨σ',H',I.qC,q⟩
 | ret u=>obtain⟨v,σ',H',I,r,q⟩:=h;exact⟨v,σ',H',I.qC,r,q⟩
theorem DB.O8{st:List Stmt}{t:TS}(h:DB X.O8 st t):DB X st t:=fun c_ s σ H D I hw=>
 abr (h c_ s σ H D (I.y9 _) hw) (fun _ _ q=>q.qC) fun _ _ z=>False.elim z
end
section
variable{X:Cx}{st:Stmt}{rest:List Stmt}{t u:TS}{e:Expr}{te:TE}{pos:Pos}
def O9:TS:=fun D σ H=>D.nx σ H
def ir(t u:TS):TS:=fun D σ H=>t {D with nx:=u D} σ H
theorem hV:DB X [] O9:=fun _ _ σ H _ I h=>wpAny_execs_nil ⟨σ,H,I,h⟩
theorem de(h1:PS X st t)(h2:DB X rest u):DB X (st::rest) (ir t u):=by
 intro c_ s σ H D I h
 refine wpAny_execs_cons (i6 (h1 c_ s σ H {D with nx:=u D} I h) fun f s1 q=>?_)
 cases f with
 | next=>
  obtain⟨σ',H',I',q⟩:=q
  exact h2 c_ s1 σ' H' D I' q
 | ret v=>exact q
 | brk=>exact q
 | cont=>exact q
theorem fV(h1:PS X st t):DB X [st] t:=by
 intro c_ s σ H D I h
 refine wpAny_execs_cons (i6 (h1 c_ s σ H D I h) fun f s1 q=>?_)
 cases f with
 | next=>exact wpAny_execs_nil q
 | ret v=>exact q
 | brk=>exact q
 | cont=>exact q
def O_:TS:=fun D σ H=>D.ct σ H
theorem B_:PS X (.Continue pos) O_:=fun _ _ σ H _ I h=>wpAny_Continue ⟨σ,H,I,h⟩
theorem Inv.quiet{c_:Qqz}{σ:St}{H:Hp}{s:Shared}(I:Inv X c_ σ H s):interactive X.env=false:=by simp[interactive,I.ok.kind]
def Pa(te:TE):TS:=fun D σ H=>te σ H fun _ H1=>D.nx σ H1
theorem ip(he:PE X e te)(hs:swapsWith e none pos.line X.env=pure false:=by rfl):PS X (.Expr e pos) (Pa te):=by
 intro c_ s σ H D I h
 exact wpAny_Expr_any (i6 (he c_ s σ H _ I h) fun v s1 ⟨x,H1,I1,r1,q1⟩=>⟨σ,H1,I1,q1⟩) I.quiet hs
def Tc(te:TE):TS:=fun D σ H=>te σ H D.rt
theorem h_(he:PE X e te):PS X (.Return (some e) pos) (Tc te):=by
 intro c_ s σ H D I h
 exact wpAny_Return_some (i6 (he c_ s σ H _ I h) fun v s1 ⟨x,H1,I1,r1,q1⟩=>⟨x,σ,H1,I1,r1,q1⟩)
def Td(c:TT)(t u:TS):TS:=fun D σ H=>c σ H fun b H1=>if b=true then t D σ H1 else u D σ H1
theorem iy{c:Expr}{a b:List Stmt}{tc:TT}(hc:PT X c tc)(ha:DB X a t)(hb:DB X b u):PS X (.If c a b pos) (Td tc t u):=by
 intro c_ s σ H D I h
 refine wpAny_If (i6 (hc c_ s σ H _ I h) fun d s1 iI=>?_)
 obtain⟨H1,I1,q1⟩:=iI
 cases d with
 | true=>exact ha c_ s1 σ H1 D I1 q1
 | false=>exact hb c_ s1 σ H1 D I1 q1
end
abbrev TG:=V→St→Hp→(St→Hp→Prop)→Prop
abbrev Mi:=List V→St→Hp→(St→Hp→Prop)→Prop
def PG(X:Cx)(target:Expr)(t:TG):Prop:=
 ∀(c_:Qqz)(s:Shared)(σ:St)(H:Hp)(v:V)(u:Value)(Q:St→Hp→Prop),Inv X c_ σ H s→RelV v u→t v σ H Q→
  wpAny (model X.prog X.w) X.A (assign target X.env u) (fun _ s'=>∃σ' H',Inv X c_ σ' H' s'∧Q σ' H') X.xe s
def RV(X:Cx)(ts:List Expr)(t:Mi):Prop:=
 ∀(c_:Qqz)(s:Shared)(σ:St)(H:Hp)(vs:List V)(us:List Value)(Q:St→Hp→Prop),Inv X c_ σ H s→Vals vs us→t vs σ H Q→
  wpAny (model X.prog X.w) X.A (assignInOrder ((assignEach ts X.env).map (·.2)) us) (fun _ s'=>∃σ' H',Inv X c_ σ' H' s'∧Q σ' H') X.xe s
abbrev Mj:=V→V→V→Hp→(Hp→Prop)→Prop
def Pb(X:Cx)(t:Mj):Prop:=
 ∀(c_:Qqz)(s:Shared)(σ:St)(H:Hp)(o i v:V)(ov iv u:Value)(Q:Hp→Prop),Inv X c_ σ H s→RelV o ov→RelV i iv→RelV v u→t o i v H Q→
  wpAny (model X.prog X.w) X.A (setItem ov iv u) (fun _ s'=>∃H',Inv X c_ σ H' s'∧Q H') X.xe s
section
variable{X:Cx}{pos:Pos}
def oJ(i:Nat):TG:=fun v σ H Q=>Q (σ.set i (some v)) H
theorem iJ{i:Nat}{x:Str}(hN:X.N.Nodup)(hi:X.N[i]?=some x)(hx:Loc X.env.scope x)(hf:X.fn x=true∨X.env.scope.names.lookup x=some .local:=by first|exact .inl rfl|exact .inr rfl|assumption):PG X (.Name x pos) (oJ i):=by
 intro c_ s σ H v u Q I r h
 exact wpAny_assign_Name (B7 I hN hi hx r (fun s' I'=>⟨_,H,I',h⟩) hf)
def Te:Mi:=fun vs σ H Q=>vs=[]∧Q σ H
def Pc(t:TG)(u:Mi):Mi:=fun vs σ H Q=>∃v r,vs=v::r∧t v σ H fun σ' H'=>u r σ' H' Q
theorem EK:RV X [] Te:=by
 intro c_ s σ H vs us Q I r h
 obtain⟨e,h⟩:=h
 subst e
 cases r
 exact assignInOrder_nil ⟨σ,H,I,h⟩
theorem tK{e:Expr}{es:List Expr}{t:TG}{u:Mi}(h1:PG X e t)(h2:RV X es u)
  (hs:(assignEach (e::es) X.env).map (·.2)=assign e X.env::(assignEach es X.env).map (·.2):=by rfl):RV X (e::es) (Pc t u):=by
 intro c_ s σ H vs us Q I r h
 obtain⟨v,vr,e1,h⟩:=h
 subst e1
 cases r with
 | cons r rr=>
  rw[hs]
  refine assignInOrder_cons (i6 (h1 c_ s σ H _ _ _ I r h) fun _ s1 iI=>?_)
  obtain⟨σ1,H1,I1,q1⟩:=iI
  exact h2 c_ s1 σ1 H1 _ _ Q I1 rr q1
def Tf(K:Qqy)(n:Nat)(t:Mi):TG:=fun v σ H Q=>∃a xs,v=.ref a∧lJ K H a xs∧xs.length=n∧t xs σ H Q
theorem GZ{es:List Expr}{k:Nat}{t:Mi}{n:Nat}(hc:X.calm=true)(h:RV X es t)
  (hn:(assignEach es X.env).length=n:=by rfl) (Ex:(assignEach es X.env).findIdx? (·.1)=none:=by rfl):PG X (.Tuple es k pos) (Tf X.K n t):=by
 intro c_ s σ H v u Q I r hw
 obtain⟨a,xs,e1,hq,hl,hw⟩:=hw
 subst e1
 cases r
 obtain⟨ic,rv,ht,hz⟩:=I.tuple hq
 refine assign_Tuple_tuple (I.ok.hd hc) ht (by simp[hn,←hl,rv.length]) Ex fun h' hx=>?_
 have I1:Inv X c_ σ H {s with heap:=h'}:=I.kept (t':=s.toks) fun b o e=>hx b o (aaP (aar e)) e
 exact h c_ _ σ H xs _ Q I1 (by simpa using rv) hw
def Tg(to ti:TE)(t:Mj):TG:=fun v σ H Q=>to σ H fun o H1=>ti σ H1 fun i H2=>t o i v H2 fun H3=>Q σ H3
theorem Ax{o i:Expr}{to ti:TE}{t:Mj}(ho:PE X o to)(hi:PE X i ti)(hs:Pb X t)
  (ha:∀v,assign (.Subscript o i pos) X.env v=(do
   let ov ←holding [v] (eval o X.env)
   let iv ←holding [v,ov] (eval i X.env)
   standAt pos
   holding [v,ov,iv] (setItem ov iv v)
   release [v,ov,iv] []):=by intro _;rfl):PG X (.Subscript o i pos) (Tg to ti t):=by
 intro c_ s σ H v u Q I r h
 rw[ha]
 refine QW (abL (i6 (ho c_ s σ H _ I h) fun ov s1 iI=>?_))
 obtain⟨x,H1,I1,r1,q1⟩:=iI
 refine QW (abL (i6 (hi c_ s1 σ H1 _ I1 q1) fun iv s2 iI=>?_))
 obtain⟨y,H2,I2,r2,q2⟩:=iI
 refine QW (wpAny_standAt (QW (abL (i6 (hs c_ s2 σ H2 x y v ov iv u _ I2 r1 r2 r q2) fun _ s3 iI=>?_))))
 obtain⟨H3,I3,q3⟩:=iI
 exact wpAny_release ⟨σ,H3,I3,q3⟩
def G0(te:TE)(g:TG):TS:=fun D σ H=>te σ H fun x H1=>g x σ H1 D.nx
theorem Ay{tg e:Expr}{te:TE}{g:TG}(he:PE X e te)(hg:PG X tg g)(hs:swapsWithSole [tg] e pos.line X.env=pure false:=by rfl)(hw:swappedStores [tg] e X.env=pure none:=by rfl)
  (h1:(assignEach [tg] X.env).map (·.2)=[assign tg X.env]:=by rfl):PS X (.Assign [tg] e pos) (G0 te g):=by
 intro c_ s σ H D I h
 refine wpAny_Assign_stores (i6 (he c_ s σ H _ I h) fun v s1 iI=>?_) hs hw
 obtain⟨x,H1,I1,r1,q1⟩:=iI
 rw[h1]
 exact i6 (hg c_ s1 σ H1 x v _ I1 r1 q1) fun _ s2 q=>q
theorem kU{i:Nat}{x:Str}{e:Expr}{te:TE}{pos':Pos}(hN:X.N.Nodup)(hi:X.N[i]?=some x)(hx:Loc X.env.scope x)(he:PE X e te)(hs:swapsWith e (some (.Name x pos')) pos.line X.env=pure false:=by rfl)(hf:X.fn x=true∨X.env.scope.names.lookup x=some .local:=by first|exact .inl rfl|exact .inr rfl|assumption) :
  PS X (.Assign [.Name x pos'] e pos) (G0 te (oJ i)):=by
 intro c_ s σ H D I h
 refine wpAny_Assign_Name (i6 (he c_ s σ H _ I h) fun v s1 iI=>?_) hs
 obtain⟨y,H1,I1,r1,q1⟩:=iI
 exact B7 I1 hN hi hx r1 (fun s2 I2=>⟨_,H1,I2,q1⟩) hf
def Ml(c:TT)(tb:TS):TS:=fun D σ H=>∃W:Nat→St→Hp→Prop,(∃m,W m σ H)∧∀m σ H,W m σ H→
 c σ H fun b H1=>if b=true then ∃N:St→Hp→Prop,(∀σ' H',N σ' H'→∃m',m'<m∧W m' σ' H')∧tb {D with nx:=N,ct:=N,bk:=D.nx} σ H1 else D.nx σ H1
theorem Ca{c:Expr}{body:List Stmt}{tc:TT}{tb:TS}(hp:PassesOwn (model X.prog X.w) X.A X.env X.xe)(hc:PT X c tc)(hb:DB X body tb):PS X (.While c body [] pos) (Ml tc tb):=by
 intro c_ s σ H D I h
 obtain⟨W,⟨m0,w0⟩,turn⟩:=h
 refine wpAny_While (codeAny_whileLoop (fun n s'=>∃σ' H',Inv X c_ σ' H' s'∧W n σ' H') ?_ m0 ⟨σ,H,I,w0⟩)
 rintro n s1 ⟨σ1,H1,I1,w1⟩
 refine abQ hp (i6 (hc c_ s1 σ1 H1 _ I1 (turn n σ1 H1 w1)) fun b s2 iI=>?_)
 obtain⟨H2,I2,q2⟩:=iI
 cases b with
 | true=>
  obtain⟨N,hN,q2⟩:=q2
  rw[aak rfl]
  refine abQ hp (i6 (hb c_ s2 σ1 H2 _ I2 q2) fun f s3 q3=>?_)
  cases f with
  | next=>
   obtain⟨σ3,H3,I3,n3⟩:=q3
   obtain⟨m',hm,w3⟩:=hN σ3 H3 n3
   exact⟨m',hm,σ3,H3,I3,w3⟩
  | cont=>
   obtain⟨σ3,H3,I3,n3⟩:=q3
   obtain⟨m',hm,w3⟩:=hN σ3 H3 n3
   exact⟨m',hm,σ3,H3,I3,w3⟩
  | brk=>exact q3
  | ret v=>exact q3
 | false=>
  rw[aai Z9]
  exact wpAny_execs_nil ⟨σ1,H2,I2,q2⟩
end
structure It where
 go:Nat→Hp→Prop
 Jw:Nat→Hp→V→Hp→Prop
 stop:Nat→Hp→Prop
def sG(X:Cx)(c_:Qqz)(H:Hp)(b:Addr):Prop:=
 H b=none∧b≠X.env.locals∧b∉X.fs∧(b∈X.ex∨X.s₀.heap.objs.size≤b)∧(∀x c,X.env.cells.lookup x=some c→c≠b)∧∀p∈X.pn++c_,p.1≠b
theorem Inv.wM{X:Cx}{c_:Qqz}{σ:St}{H H':Hp}{s:Shared}{b:Addr}(I:Inv X c_ σ H s)(hb:s.heap.objs.size≤b)(hn:H' b=none):sG X c_ H' b:=by
 refine⟨hn,Nat.ne_of_gt (aax I.lt hb),I.O2 hb,.inr (aac I.sz hb),fun x c e z=>?_,fun p hp z=>?_⟩
 ·obtain⟨v,q⟩:=I.cell x c e
  exact absurd (aax q.lt (by rw[z];exact hb)) (aba _)
 ·exact absurd (aax (aar (I.pin p hp).1) (by rw[z];exact hb)) (aba _)
structure Turn(P:Program)(w:World)(K:Qqy)(tg:Expr)(J:It)(fp:List Addr)(it:Addr)(tn:Nat→Heap→Prop):Prop where
 mem:it∈fp
 obj:∀i h,tn i h→∀b∈fp,∃o,h.get? b=some o∧∀v,o.data≠.cell v
 keep:∀i h h',tn i h→(∀b∈fp,∀o,h.get? b=some o→h'.get? b=some o)→tn i h'
 item:∀(X:Cx),X.prog=P→X.w=w→X.K=K→X.calm=true→∀(i:Nat)(c_:Qqz)(s:Shared)(σ:St)(H:Hp)(E:Qqq),Inv X c_ σ H s→(∀b∈fp,sG X c_ H b)→tn i s.heap→J.go i H→
  wpAny (model P w) X.A (pyNext (.ref it)) (fun r s1=>∃u,r=some u∧
   wpAny (model P w) X.A (letOwnedTupleGo tg (.ref it) u) (fun _ s2=>∃x H',Inv X c_ σ H' s2∧RelV x u∧J.Jw i H x H'∧tn (i+1) s2.heap∧∀b∈fp,H' b=none) E s1) E s
 done:∀(X:Cx),X.prog=P→X.w=w→X.K=K→X.calm=true→∀(i:Nat)(c_:Qqz)(s:Shared)(σ:St)(H:Hp)(E:Qqq),Inv X c_ σ H s→(∀b∈fp,sG X c_ H b)→tn i s.heap→J.stop i H→
  wpAny (model P w) X.A (pyNext (.ref it)) (fun r s1=>r=none∧Inv X c_ σ H s1) E s
 self:∀(A:Around)(i:Nat)(s:Shared)(Q:Qqq)(E:Qqq),tn i s.heap→Q (.ref it) s→wpAny (model P w) A (pyIter (.ref it)) Q E s
abbrev TI:=St→Hp→(It→Hp→Prop)→Prop
def Th(X:Cx)(c_:Qqz)(σ:St)(tg:Expr)(R:It→Hp→Prop)(R6:Value)(s2:Shared):Prop:=
 ∃(it:Addr)(fp:List Addr)(tn:Nat→Heap→Prop)(J:It)(H':Hp),R6=.ref it∧Inv X c_ σ H' s2∧Turn X.prog X.w X.K tg J fp it tn∧tn 0 s2.heap∧(∀b∈fp,sG X c_ H' b)∧R J H'
def PI(X:Cx)(tg iter:Expr)(wi:TI):Prop:=
 ∀(c_:Qqz)(s:Shared)(σ:St)(H:Hp)(R:It→Hp→Prop),Inv X c_ σ H s→wi σ H R→
  wpAny (model X.prog X.w) X.A (eval iter X.env) (fun v s1=>wpAny (model X.prog X.w) X.A (pyIter v) (Th X c_ σ tg R) X.xe s1) X.xe s
theorem xy{M:Model}{A:Around}{E:Qqq}{s:Shared}{tg:Expr}{it:Addr}{u:Value}{o:Obj}{n:String}{vs:Array Value}{Q:Unit→Shared→Prop}(ho:s.heap.get? it=some o)(hc:o.cls=.type n)(hd:o.data=.fields vs)
  (hn:["enumerate","zip","dict_itemiterator","dict_reverseitemiterator","odict_iterator","itertools.zip_longest","itertools.pairwise"].contains n=false) (hQ:Q () s):wpAny M A (letOwnedTupleGo tg (.ref it) u) Q E s:=by
 unfold letOwnedTupleGo
 cases tg<;>first
  | exact aag hQ
  | (cases u<;>first
   | exact aag hQ
   | (
    refine QW (wpAny_load ho ?_)
    rw[hc,hd]
    show wpAny M A (if(["enumerate","zip","dict_itemiterator","dict_reverseitemiterator","odict_iterator","itertools.zip_longest","itertools.pairwise"].contains n&&vs[0]? ==some (rawInt _))=true then _ else _) Q E s
    rw[aai (by intro h;rw[hn,Bool.false_and] at h;cases h)]
    exact aag hQ))
noncomputable def OC(K:Qqy)(a:Addr):It:=
 ⟨fun i H=>∃xs x,ib K H a xs∧xs[i]?=some x,fun i H x H'=>H'=H∧∀xs,ib K H a xs→xs[i]?=some x,fun i H=>∃xs,ib K H a xs∧xs.length≤i⟩
noncomputable def Lx(lo:Int)(n:Nat):It:=⟨fun i _=>i<n,fun i H x H'=>H'=H∧x=.int (lo+i),fun i _=>n≤i⟩
theorem Fv{P:Program}{w:World}{K:Qqy}{tg:Expr}(a it:Addr):Turn P w K tg (OC K a) [it] it (fun i h=>h.IsListIter it a i) where
 mem:=by simp
 obj:=fun i h st b hb=>by
  have e:b=it:=by simpa using hb
  subst e
  obtain⟨o,e,c,d⟩:=st
  exact⟨o,e,fun v z=>by rw[d] at z;cases z⟩
 keep:=fun i h h' st k=>st.at fun o e=>k it (by simp) o e
 item:=by
  intro X hP hw hK hc i c_ s σ H E I hf st hg
  subst hP hw hK
  obtain⟨xs,x,hq,hx⟩:=hg
  obtain⟨ic,rv,p,hz⟩:=I.list hq
  obtain⟨u,hu,ru⟩:=rv.get hx
  obtain⟨f0,f1,f2,f3,f4,f5⟩:=hf it (by simp)
  refine wpAny_pyNext_list_item st p.isList (x:=u) (by simpa using hu) fun h' zv sb=>?_
  have I1:Inv X c_ σ H {s with heap:=h'}:=I.turned (t':=s.toks) (fun b o hb e=>(sb.2 b hb).trans e) f0 f1 f3 f4 f5
  obtain⟨o,e,c,d⟩:=id zv
  exact⟨u,rfl,xy (s:={s with heap:=h'}) e c d (by decide) ⟨x,H,I1,ru,⟨rfl,fun ys hy=>by rw[I.oI hy hq];exact hx⟩,zv,fun b hb=>(hf b hb).1⟩⟩
 done:=by
  intro X hP hw hK hc i c_ s σ H E I hf st hg
  subst hP hw hK
  obtain⟨xs,hq,hx⟩:=hg
  obtain⟨ic,rv,p,hz⟩:=I.list hq
  obtain⟨f0,f1,f2,f3,f4,f5⟩:=hf it (by simp)
  have hl:=rv.length
  exact wpAny_pyNext_list_end (I.ok.hd hc) st p.isList (by simp;omega) fun h' eb=>⟨rfl,I.turned (t':=s.toks) (fun b o hb e=>eb b o hb e) f0 f1 f3 f4 f5⟩
 self:=fun _ _ _ _ _ st h=>wpAny_pyIter_listiter st h
theorem DK{P:Program}{w:World}{K:PySem.W.Frag}{tg:Expr}(it:Addr)(lo:Int)(n:Nat):Turn P w K tg (Lx lo n) [it] it (fun i h=>IsRangeIter h it (lo+(i:Nat)*1) ((n:Int)-(i:Nat)) 1) where
 mem:=by simp
 obj:=fun i h st b hb=>by
  have e:b=it:=by simpa using hb
  subst e
  exact⟨_,st,fun v z=>by
   have z':Data.fields _=Data.cell v:=z
   cases z'⟩
 keep:=fun i h h' st k=>k it (by simp) _ st
 item:=by
  intro X hP hw hK hc i c_ s σ H E I hf st hg
  subst hP hw hK
  obtain⟨f0,f1,f2,f3,f4,f5⟩:=hf it (by simp)
  have W:=Walks.range (prog:=X.prog) (w:=X.w) (I.ok.hd hc) it lo 1 n
  refine W.item i s _ _ hg st fun v h' tk hv zv kk=>?_
  obtain⟨t,rfl⟩:=hv
  have I1:Inv X c_ σ H {s with heap:=h',toks:=tk}:=I.turned (fun b o hb e=>kk b o (by simpa using hb) e) f0 f1 f3 f4 f5
  refine⟨_,rfl,xy (s:={s with heap:=h',toks:=tk}) (n:="range_iterator") zv rfl rfl (by decide) ⟨.int (lo+i),H,I1,⟨t,?_⟩,⟨rfl,rfl⟩,zv,fun b hb=>(hf b hb).1⟩⟩
  rw[Int.mul_one]
 done:=by
  intro X hP hw hK hc i c_ s σ H E I hf st hg
  subst hP hw hK
  obtain⟨f0,f1,f2,f3,f4,f5⟩:=hf it (by simp)
  exact wpAny_pyNext_range_end (I.ok.hd hc) st (by have:n≤i:=hg;omega) fun h' eb=>⟨rfl,I.turned (t':=s.toks) (fun b o hb e=>eb b o hb e) f0 f1 f3 f4 f5⟩
 self:=fun _ _ _ _ _ st h=>wpAny_pyIter_rangeiter st h
section
variable{X:Cx}{tg:Expr}
def Pd(K:Qqy)(tl:TE):TI:=fun σ H R=>tl σ H fun x H1=>∃a,x=.ref a∧(∃xs,ib K H1 a xs)∧R (OC K a) H1
theorem iD{l:Expr}{tl:TE}(hl:PE X l tl):PI X tg l (Pd X.K tl):=by
 intro c_ s σ H R I h
 refine i6 (hl c_ s σ H _ I h) fun v s1 iI=>?_
 obtain⟨x,H1,I1,r1,q1⟩:=iI
 obtain⟨a,e,⟨xs,hq⟩,q⟩:=q1
 subst e
 cases r1
 obtain⟨ic,rv,p,hz⟩:=I1.list hq
 refine wpAny_pyIter_list p.isList ?_
 refine⟨s1.heap.objs.size,[s1.heap.objs.size],_,_,H1,rfl,I1.kept (t':=s1.toks) fun b o e=>WN _ e,Fv a _,⟨_,aat _ rfl,rfl,rfl⟩,fun b hb=>?_,q⟩
 have e:b=s1.heap.objs.size:=by simpa using hb
 subst e
 exact I1.wM (TU _) (I1.iM.fresh (TU _))
theorem Cb{c_:Qqz}{σ:St}{H:Hp}{s:Shared}{R:It→Hp→Prop}{E:Qqq}{lo hi:Int}{t u v:Tok}{tk:Nat}(I:Inv X c_ σ H s)(h1:-(2 ^ 62)≤lo)(h2:lo<2 ^ 62)(h3:-(2 ^ 62)≤hi)(h4:hi<2 ^ 62)
  (q:R (Lx lo (hi-lo).toNat) H):wpAny (model X.prog X.w) X.A (pyIter (.ref s.heap.objs.size)) (Th X c_ σ tg R) E {s with heap:=s.heap.push {cls:=.type "range",data:=.fields #[.int lo t,.int hi u,.int 1 v]},toks:=tk}:=by
 refine wpAny_pyIter_range (IsRange.new ..) (small_one h1 h2 h3 h4) ?_
 have I1:Inv X c_ σ H {s with heap:=s.heap.push {cls:=.type "range",data:=.fields #[.int lo t,.int hi u,.int 1 v]},toks:=tk}:=I.kept fun b o e=>WN _ e
 refine⟨(s.heap.push {cls:=.type "range",data:=.fields #[.int lo t,.int hi u,.int 1 v]}).objs.size,[(s.heap.push {cls:=.type "range",data:=.fields #[.int lo t,.int hi u,.int 1 v]}).objs.size],_,_,H,rfl,
  I1.kept (t':=tk) fun b o e=>WN _ e,DK _ lo (hi-lo).toNat,?_,fun b hb=>?_,q⟩
 ·have e1:lo+((0:Nat):Int)*1=lo:=by simp
  have e2:(((hi-lo).toNat:Nat):Int)-((0:Nat):Int)=Builtin.Range.rangeSize lo hi 1:=by rw[rangeSize_one];split<;>omega
  show IsRangeIter _ _ (lo+((0:Nat):Int)*1) ((((hi-lo).toNat:Nat):Int)-((0:Nat):Int)) 1
  rw[e1,e2]
  exact aat _ rfl
 ·have e:b=(s.heap.push {cls:=.type "range",data:=.fields #[.int lo t,.int hi u,.int 1 v]}).objs.size:=by simpa using hb
  subst e
  exact I1.wM (TU _) (I1.iM.fresh (TU _))
def Pe(ta:TA):TI:=fun σ H R=>ta σ H fun vs H1=>∃j:Int,vs=[.int j]∧-(2 ^ 62)≤j∧j<2 ^ 62∧R (Lx 0 j.toNat) H1
def Pg(ta:TA):TI:=fun σ H R=>ta σ H fun vs H1=>∃i j:Int,vs=[.int i,.int j]∧(-(2 ^ 62)≤i∧i<2 ^ 62∧-(2 ^ 62)≤j∧j<2 ^ 62)∧R (Lx i (j-i).toNat) H1
theorem j3{a:Expr}{ta:TA}{p pos:Pos}(hg:Gl X "range")(hm:X.mg "range"=none)(ha:PA X [a] ta)(hs:starEach [a] X.env=[(false,eval a X.env)]:=by rfl):PI X tg (.Call (.Name "range" p) [a] [] pos) (Pe ta):=by
 intro c_ s σ H R I h
 refine Call_ (mV I hg hm boot_range (aaN (i6 (ha pos c_ s σ H _ I h) fun us s1 iI=>?_) hs rfl))
 obtain⟨vs,H1,I1,r1,q1⟩:=iI
 obtain⟨j,e,q1,q2,q⟩:=q1
 subst e
 cases r1 with
 | cons r rr=>
  cases rr
  obtain⟨t,rfl⟩:=r
  exact call_range_1 (Cb I1 (by omega) (by omega) q1 q2 (by simpa using q))
theorem zD{a b:Expr}{ta:TA}{p pos:Pos}(hg:Gl X "range")(hm:X.mg "range"=none)(ha:PA X [a,b] ta)(hs:starEach [a,b] X.env=[(false,eval a X.env),(false,eval b X.env)]:=by rfl)(Ao:starEach [b] X.env=[(false,eval b X.env)]:=by rfl) :
  PI X tg (.Call (.Name "range" p) [a,b] [] pos) (Pg ta):=by
 intro c_ s σ H R I h
 refine Call_ (mV I hg hm boot_range (aaN (i6 (ha pos c_ s σ H _ I h) fun us s1 iI=>?_) (by rw[hs,Ao]) (by rw[Ao];rfl)))
 obtain⟨vs,H1,I1,r1,q1⟩:=iI
 obtain⟨i,j,e,⟨q1,q2,q3,q4⟩,q⟩:=q1
 subst e
 cases r1 with
 | cons r rr=>
  cases rr with
  | cons r' rr=>
   cases rr
   obtain⟨t,rfl⟩:=r
   obtain⟨t',rfl⟩:=r'
   exact call_range_2 (Cb I1 q1 q2 q3 q4 q)
def Mm(wi:TI)(g:TG)(tb:TS):TS:=fun D σ H=>wi σ H fun J H1=>∃W:Nat→Nat→St→Hp→Prop,(∃m,W 0 m σ H1)∧∀i m σ H,W i m σ H→
 (J.stop i H∧D.nx σ H)∨(J.go i H∧∃N:St→Hp→Prop,(∀σ' H',N σ' H'→∃m',m'<m∧W (i+1) m' σ' H')∧∀x H',J.Jw i H x H'→g x σ H' fun σ2 H2=>tb {D with nx:=N,ct:=N,bk:=D.nx} σ2 H2)
noncomputable def xA(fp:List Addr)(h:Heap):Qqz:=fp.filterMap fun b=>(h.get? b).map fun o=>(b,o)
theorem pz{fp:List Addr}{h:Heap}{b:Addr}{o:Obj}(hb:b∈fp)(e:h.get? b=some o):(b,o)∈xA fp h:=aby.mpr ⟨b,hb,by rw[e];rfl⟩
theorem Fw{fp:List Addr}{h:Heap}{p:Addr×Obj}(hp:p∈xA fp h):p.1∈fp∧h.get? p.1=some p.2:=by
 obtain⟨b,hb,e⟩:=aby.mp hp
 cases q:h.get? b with
 | none=>rw[q] at e;cases e
 | some o=>
  rw[q] at e
  have e':(b,o)=p:=aao e
  subst e'
  exact⟨hb,q⟩
theorem Inv.pinned{c_:Qqz}{σ:St}{H:Hp}{s:Shared}{fp:List Addr}(I:Inv X c_ σ H s)(hf:∀b∈fp,sG X c_ H b)(ho:∀b∈fp,∃o,s.heap.get? b=some o∧∀v,o.data≠.cell v):Inv X (c_++xA fp s.heap) σ H s:=
 I.xh fun p hp=>(WL.mp hp).elim (fun z=>I.pin p (aay _ z)) fun z=>by
  obtain⟨hb,e⟩:=Fw z
  obtain⟨f0,f1,f2,_⟩:=hf p.1 hb
  obtain⟨o,e',d⟩:=ho p.1 hb
  rw[e] at e';cases e'
  exact⟨e,f0,f1,f2,d⟩
theorem Inv.tL{c_ pl:Qqz}{σ:St}{H:Hp}{s:Shared}(I:Inv X (c_++pl) σ H s):Inv X c_ σ H s:=I.xh fun p hp=>I.pin p (aay _ (aaf _ hp))
theorem iQ{iter:Expr}{body:List Stmt}{wi:TI}{g:TG}{tb:TS}{pos:Pos}(hp:PassesOwn (model X.prog X.w) X.A X.env X.xe)(hc:X.calm=true)(hi:PI X tg iter wi)(hg:PG X tg g)(hb:DB X body tb)
  (hs:∀x,foldedSetIterable iter X.env x=pure x:=by intro _;rfl):PS X (.For tg iter body [] pos) (Mm wi g tb):=by
 intro c_ s σ H D I h
 refine wpAny_For (i6 (hi c_ s σ H _ I h) fun v s1 h1=>i6 h1 fun R6 s2 h2=>?_) hs
 obtain⟨it,fp,tn,J,H2,e,I2,T,zw,f2,W,⟨m0,w0⟩,turn⟩:=h2
 subst e
 have NS:∀{H':Hp},(∀b∈fp,H' b=none)→∀b∈fp,sG X c_ H' b:=fun hn b hb=>⟨hn b hb,(f2 b hb).2⟩
 refine codeAny_forLoop_any (fun n s'=>∃i σ' H',Inv X c_ σ' H' s'∧tn i s'.heap∧(∀b∈fp,H' b=none)∧W i n σ' H') ?_ m0 ⟨0,σ,H2,I2,zw,fun b hb=>(f2 b hb).1,w0⟩
 rintro n s3 ⟨i,σ3,H3,I3,OD,Qs,w3⟩
 rcases turn i n σ3 H3 w3 with⟨stop,qn⟩|⟨go,N,hN,step⟩
 ·refine abQ hp (i6 (T.done X rfl rfl rfl hc i c_ s3 σ3 H3 X.xe I3 (NS Qs) OD stop) fun r s4 iI=>?_)
  obtain⟨hr,I4⟩:=iI
  subst hr
  exact wpAny_execs_nil ⟨σ3,H3,I4,qn⟩
 ·refine abQ hp (i6 (T.item X rfl rfl rfl hc i c_ s3 σ3 H3 X.xe I3 (NS Qs) OD go) fun r s4 iI=>?_)
  obtain⟨u,hr,h4⟩:=iI
  subst hr
  refine abQ hp (i6 h4 fun _ s5 iI=>?_)
  obtain⟨x,H5,I5,r5,y5,NT,Ui⟩:=iI
  have Uj:=I5.pinned (NS Ui) (T.obj _ _ NT)
  refine abQ hp (i6 (hg _ s5 σ3 H5 x u _ Uj r5 (step x H5 y5)) fun _ s6 iI=>?_)
  obtain⟨σ6,H6,I6,q6⟩:=iI
  refine abQ hp (i6 (hb _ s6 σ6 H6 _ I6 q6) fun f s7 q7=>?_)
  have again:∀{σ7:St} {H7:Hp},Inv X (c_++xA fp s5.heap) σ7 H7 s7→N σ7 H7→∃m,m<n∧∃i σ' H',Inv X c_ σ' H' s7∧tn i s7.heap∧(∀b∈fp,H' b=none)∧W i m σ' H':=fun{σ7 H7} I7 n7=>by
   obtain⟨m',hm,w7⟩:=hN σ7 H7 n7
   refine⟨m',hm,i+1,σ7,H7,I7.tL,T.keep _ _ _ NT fun b hb o e=>(I7.pin (b,o) (aay _ (aay _ (pz hb e)))).1,fun b hb=>?_,w7⟩
   obtain⟨o,e,d⟩:=T.obj _ _ NT b hb
   exact(I7.pin (b,o) (aay _ (aay _ (pz hb e)))).2.1
  cases f with
  | next=>obtain⟨σ7,H7,I7,n7⟩:=q7;exact again I7 n7
  | cont=>obtain⟨σ7,H7,I7,n7⟩:=q7;exact again I7 n7
  | brk=>obtain⟨σ7,H7,I7,q7⟩:=q7;exact⟨σ7,H7,I7.tL,q7⟩
  | ret v=>obtain⟨x7,σ7,H7,I7,r7,q7⟩:=q7;exact⟨x7,σ7,H7,I7.tL,r7,q7⟩
end
theorem jz{K:PySem.W.Frag}{a:Addr}{xs:List V}{g:TG}{tb:TS}{D:Ends}{σ:St}{H:Hp}(Pv:Nat→St→Hp→Prop)(h0:Pv 0 σ H)(hl:∀i σ H,i≤xs.length→Pv i σ H→ib K H a xs)
  (hs:∀i x σ H,xs[i]?=some x→Pv i σ H→g x σ H fun σ2 H2=>tb {D with nx:=Pv (i+1),ct:=Pv (i+1),bk:=D.nx} σ2 H2) (hd:∀σ H,Pv xs.length σ H→D.nx σ H) :
  ∃W:Nat→Nat→St→Hp→Prop,(∃m,W 0 m σ H)∧∀i m σ H,W i m σ H→
   ((OC K a).stop i H∧D.nx σ H)∨((OC K a).go i H∧∃N:St→Hp→Prop,(∀σ' H',N σ' H'→∃m',m'<m∧W (i+1) m' σ' H')∧∀x H',(OC K a).Jw i H x H'→g x σ H' fun σ2 H2=>tb {D with nx:=N,ct:=N,bk:=D.nx} σ2 H2):=by
 refine⟨fun i m σ H=>m=xs.length-i∧i≤xs.length∧Pv i σ H,⟨xs.length,by simp,aaE _,h0⟩,?_⟩
 rintro i m σ H ⟨rfl,hi,p⟩
 have q:=hl i σ H hi p
 by_cases kr:i<xs.length
 ·refine .inr ⟨⟨xs,xs[i],q,by simp[kr]⟩,Pv (i+1),fun σ' H' p'=>⟨xs.length-(i+1),by omega,rfl,kr,p'⟩,fun x H' y=>?_⟩
  obtain⟨e,y⟩:=y
  subst e
  exact hs i x σ _ (y xs q) p
 ·have e:i=xs.length:=by omega
  subst e
  exact .inl ⟨⟨xs,q,TU _⟩,hd σ H p⟩
theorem ku{lo:Int}{n:Nat}{g:TG}{tb:TS}{D:Ends}{σ:St}{H:Hp}(Pv:Nat→St→Hp→Prop)(h0:Pv 0 σ H)
  (hs:∀i σ H,i<n→Pv i σ H→g (.int (lo+i)) σ H fun σ2 H2=>tb {D with nx:=Pv (i+1),ct:=Pv (i+1),bk:=D.nx} σ2 H2) (hd:∀σ H,Pv n σ H→D.nx σ H) :
  ∃W:Nat→Nat→St→Hp→Prop,(∃m,W 0 m σ H)∧∀i m σ H,W i m σ H→
   ((Lx lo n).stop i H∧D.nx σ H)∨((Lx lo n).go i H∧∃N:St→Hp→Prop,(∀σ' H',N σ' H'→∃m',m'<m∧W (i+1) m' σ' H')∧∀x H',(Lx lo n).Jw i H x H'→g x σ H' fun σ2 H2=>tb {D with nx:=N,ct:=N,bk:=D.nx} σ2 H2):=by
 refine⟨fun i m σ H=>m=n-i∧i≤n∧Pv i σ H,⟨n,by simp,aaE _,h0⟩,?_⟩
 rintro i m σ H ⟨rfl,hi,p⟩
 by_cases kr:i<n
 ·refine .inr ⟨kr,Pv (i+1),fun σ' H' p'=>⟨n-(i+1),by omega,rfl,kr,p'⟩,fun x H' y=>?_⟩
  obtain⟨e,y⟩:=y
  subst e y
  exact hs i σ _ kr p
 ·have e:i=n:=by omega
  subst e
  exact .inl ⟨TU _,hd σ H p⟩
abbrev R2:=V→V→Hp→VK→Prop
def wN(X:Cx)(f:Value→Value→Sem Value)(r:R2):Prop:=
 ∀(c_:Qqz)(s:Shared)(σ:St)(H:Hp)(x y:V)(v u:Value)(Q:VK),Inv X c_ σ H s→RelV x v→RelV y u→r x y H Q→
  wpAny (model X.prog X.w) X.A (f v u) (EP X c_ σ Q) X.xe s
def Ti(X:Cx)(f:Value→Sem Value)(r:V→Hp→VK→Prop):Prop:=
 ∀(c_:Qqz)(s:Shared)(σ:St)(H:Hp)(x:V)(v:Value)(Q:VK),Inv X c_ σ H s→RelV x v→r x H Q→
  wpAny (model X.prog X.w) X.A (f v) (EP X c_ σ Q) X.xe s
def vI(X:Cx)(f:Value)(r:List V→Hp→VK→Prop):Prop:=
 ∀(c_:Qqz)(s:Shared)(σ:St)(H:Hp)(xs:List V)(us:List Value)(Q:VK),Inv X c_ σ H s→Vals xs us→r xs H Q→
  wpAny (model X.prog X.w) X.A (call f us) (EP X c_ σ Q) X.xe s
def Tj(X:Cx)(r:V→Hp→(Bool→Hp→Prop)→Prop):Prop:=
 ∀(c_:Qqz)(s:Shared)(σ:St)(H:Hp)(x:V)(v:Value)(Q:Bool→Hp→Prop),Inv X c_ σ H s→RelV x v→r x H Q→
  wpAny (model X.prog X.w) X.A (truthy v) (TP X c_ σ Q) X.xe s
def Ph(r:R2)(ta tb:TE):TE:=fun σ H Q=>ta σ H fun x H1=>tb σ H1 fun y H2=>r x y H2 Q
def ZT(r:V→Hp→VK→Prop)(ta:TE):TE:=fun σ H Q=>ta σ H fun x H1=>r x H1 Q
def rI(C:Int→Int→Prop)(g:Int→Int→V):R2:=fun x y H Q=>∃i j,x=.int i∧y=.int j∧C i j∧Q (g i j) H
def Mn(g:Int→Int→V):R2:=fun x y H Q=>∃i j,x=.int i∧y=.int j∧Q (g i j) H
def rU(g:Int→V):V→Hp→VK→Prop:=fun x H Q=>∃i,x=.int i∧Q (g i) H
section
variable{X:Cx}{a b c:Expr}{ta tb tc:TE}{pos:Pos}
theorem Mo(ha:PE X a ta)(hb:PE X b tb){c_:Qqz}{s:Shared}{σ:St}{H:Hp}{R:V→V→Hp→Prop}(I:Inv X c_ σ H s)
  (h:ta σ H fun x H1=>tb σ H1 fun y H2=>R x y H2) {Q:Qqq} {f:Value→Value→Sem Value}
  (hf:∀v u s2 x y H2,Inv X c_ σ H2 s2→RelV x v→RelV y u→R x y H2→wpAny (model X.prog X.w) X.A (f v u) Q X.xe s2) :
  wpAny (model X.prog X.w) X.A (eval a X.env) (fun v s₁=>wpAny (model X.prog X.w) X.A (eval b X.env) (fun u s₂=>wpAny (model X.prog X.w) X.A (f v u) Q X.xe s₂) X.xe s₁) X.xe s:=by
 refine i6 (ha c_ s σ H _ I h) fun v s1 iI=>?_
 obtain⟨x,H1,I1,r1,q1⟩:=iI
 refine i6 (hb c_ s1 σ H1 _ I1 q1) fun u s2 iI=>?_
 obtain⟨y,H2,I2,r2,q2⟩:=iI
 exact hf v u s2 x y H2 I2 r1 r2 q2
theorem hX{op:Operator}{r:R2}(ho:wN X (binaryOp op) r)(ha:PE X a ta)(hb:PE X b tb):PE X (.BinOp a op b pos) (Ph r ta tb):=by
 intro c_ s σ H Q I h
 exact wpAny_BinOp (Mo ha hb I h fun v u s2 x y H2 I2 rx ry q=>ho c_ s2 σ H2 x y v u Q I2 rx ry q)
theorem xB{op:UnaryOp}{r:V→Hp→VK→Prop}(ho:Ti X (unaryOp op) r)(ha:PE X a ta):PE X (.UnaryOp op a pos) (ZT r ta):=by
 intro c_ s σ H Q I h
 exact UnaryOp_ (i6 (ha c_ s σ H _ I h) fun v s1 ⟨x,H1,I1,r1,q1⟩=>ho c_ s1 σ H1 x v Q I1 r1 q1)
theorem Tn{f:Value→Value→Sem Value}{C:Int→Int→Prop}{g:Int→Int→Int}
  (rule:∀(i j:Int)(t u:Tok)(s:Shared)(Q:Qqq)(E:Qqq),C i j→Q (.int (g i j) s.toks) {s with toks:=s.toks+1}→wpAny (model X.prog X.w) X.A (f (.int i t) (.int j u)) Q E s) :
  wN X f (rI C fun i j=>.int (g i j)):=by
 intro c_ s σ H x y v u Q I rx ry h
 obtain⟨i,j,rfl,rfl,hc,q⟩:=h
 obtain⟨t,rfl⟩:=rx
 obtain⟨t',rfl⟩:=ry
 exact rule i j t t' s _ _ hc ⟨.int (g i j),H,I.tok _,⟨_,rfl⟩,q⟩
theorem Pj{f:Value→Value→Sem Value}{g:Int→Int→Int}
  (rule:∀(i j:Int)(t u:Tok)(s:Shared)(Q:Qqq)(E:Qqq),Q (.int (g i j) s.toks) {s with toks:=s.toks+1}→wpAny (model X.prog X.w) X.A (f (.int i t) (.int j u)) Q E s) :
  wN X f (Mn fun i j=>.int (g i j)):=by
 intro c_ s σ H x y v u Q I rx ry h
 obtain⟨i,j,rfl,rfl,q⟩:=h
 obtain⟨t,rfl⟩:=rx
 obtain⟨t',rfl⟩:=ry
 exact rule i j t t' s _ _ ⟨.int (g i j),H,I.tok _,⟨_,rfl⟩,q⟩
theorem Mp{f:Value→Value→Sem Value}{g:Int→Int→Bool}
  (rule:∀(i j:Int)(t u:Tok)(s:Shared)(Q:Qqq)(E:Qqq),Q (.bool (g i j)) s→wpAny (model X.prog X.w) X.A (f (.int i t) (.int j u)) Q E s) :
  wN X f (Mn fun i j=>.bl (g i j)):=by
 intro c_ s σ H x y v u Q I rx ry h
 obtain⟨i,j,rfl,rfl,q⟩:=h
 obtain⟨t,rfl⟩:=rx
 obtain⟨t',rfl⟩:=ry
 exact rule i j t t' s _ _ ⟨.bl (g i j),H,I,rfl,q⟩
def To(i j:Int):Prop:=0<j∧j<1073741824
def Mq(i j:Int):Prop:=(-(2 ^ 64)<i∧i<2 ^ 64)∨(-(2 ^ 64)<j∧j<2 ^ 64)
theorem Mq.ok{i j:Int}(h:Mq i j):IntMulOk i j:=by
 rcases h with⟨h1,h2⟩|⟨h1,h2⟩
 ·exact .of_left (intBits_le_64 h1 h2)
 ·exact .of_right (intBits_le_64 h1 h2)
theorem i8:wN X (binaryOp .Add) (Mn fun i j=>.int (i+j)):=Pj fun _ _ _ _ _ _ _ q=>add_int q
theorem uP:wN X (binaryOp .Sub) (Mn fun i j=>.int (i-j)):=Pj fun _ _ _ _ _ _ _ q=>sub_int q
theorem Az:wN X (binaryOp .Mult) (rI Mq fun i j=>.int (i*j)):=Tn fun _ _ _ _ _ _ _ hc q=>mul_int q hc.ok
theorem lY:wN X (binaryOp .FloorDiv) (rI To fun i j=>.int (i/j)):=Tn fun i j _ _ _ _ _ hc q=>by
 have h1:(0:Int)<j:=hc.1
 have h2:j<1073741824:=hc.2
 exact floordiv_int (by omega) (by rw[Int.fdiv_eq_ediv_of_nonneg i (by omega)];exact q) (.inl (PyProof.noPylong_small (by omega)))
theorem jT:wN X (binaryOp .Mod) (rI (fun _ j=>0<j) fun i j=>.int (i%j)):=Tn fun i j _ _ _ _ _ hc q=>by
 have h1:(0:Int)<j:=hc
 exact mod_int' (by omega) (by rw[Int.fmod_eq_emod_of_nonneg i (by omega)];exact q)
theorem ZU{f:Value→Sem Value}{g:Int→Int}
  (rule:∀(i:Int)(t:Tok)(s:Shared)(Q:Qqq)(E:Qqq),Q (.int (g i) s.toks) {s with toks:=s.toks+1}→wpAny (model X.prog X.w) X.A (f (.int i t)) Q E s) :
  Ti X f (rU fun i=>.int (g i)):=by
 intro c_ s σ H x v Q I rx h
 obtain⟨i,rfl,q⟩:=h
 obtain⟨t,rfl⟩:=rx
 exact rule i t s _ _ ⟨.int (g i),H,I.tok _,⟨_,rfl⟩,q⟩
theorem sH:Ti X (unaryOp .USub) (rU fun i=>.int (-i)):=ZU fun _ _ _ _ _ q=>neg_int q
end
noncomputable def JS:V→V→Bool
 | .iP,.iP=>true|.iP,.int _=>true|.int _,.iP=>true|.iP,.bl _=>true|.bl _,.iP=>true|.iP,.str _=>true|.str _,.iP=>true
 | .int _,.int _=>true|.bl _,.bl _=>true|.str _,.str _=>true|.B5 _,.B5 _=>true
 | .int _,.str _=>true|.str _,.int _=>true|.bl _,.str _=>true|.str _,.bl _=>true
 | _,_=>false
noncomputable def ZV:R2:=fun x y H Q=>JS x y=true∧Q (.bl (decide (x=y))) H
noncomputable def ZW:R2:=fun x y H Q=>JS x y=true∧Q (.bl (!decide (x=y))) H
theorem EL{i j:Int}:decide (V.int i=V.int j)=(i ==j):=by
 rw[abj]
 simp
theorem G1{i j:Bool}:decide (V.bl i=V.bl j)=(i ==j):=by
 rw[abj]
 simp
theorem EM{i j:Str}:decide (V.str i=V.str j)=(i ==j):=by
 rw[abj]
 simp
theorem EN{i j:Array UInt8}:decide (V.B5 i=V.B5 j)=(i.toList ==j.toList):=by
 rw[abj]
 cases i
 cases j
 simp
section
variable{X:Cx}{a b c:Expr}{ta tb tc:TE}{pos:Pos}
theorem iR{c_:Qqz}{σ:St}{H:Hp}{s:Shared}{Q:VK}{k k':Bool}(I:Inv X c_ σ H s)(q:Q (.bl k) H)(e:k=k'):EP X c_ σ Q (.bool k') s:=by
 subst e
 exact⟨.bl k,H,I,rfl,q⟩
theorem qi:wN X (compareOp .Eq) ZV:=by
 intro c_ s σ H x y v u Q I rx ry h
 obtain⟨hs,q⟩:=h
 cases x with
 | iP=>
  cases rx
  cases y with
  | iP=>cases ry;exact PySem.EqNone.eq_none_none (iR I q (by simp))
  | bl j=>cases ry;exact PySem.EqNone.eq_none_bool (iR I q (by simp))
  | int j=>obtain⟨t',rfl⟩:=ry;exact PySem.EqNone.eq_none_int (iR I q (by simp))
  | str j=>obtain⟨t',rfl⟩:=ry;exact PySem.EqNone.eq_none_str (iR I q (by simp))
  | _=>exact absurd (show false=true from hs) Z9
 | bl i=>
  cases rx
  cases y with
  | iP=>cases ry;exact PySem.EqNone.eq_bool_none (iR I q (by simp))
  | bl j=>cases ry;exact eq_bool (iR I q G1)
  | str j=>obtain⟨t',rfl⟩:=ry;exact PySem.EqMixed.eq_bool_str (iR I q (by simp))
  | _=>exact absurd (show false=true from hs) Z9
 | int i=>
  obtain⟨t,rfl⟩:=rx
  cases y with
  | iP=>cases ry;exact PySem.EqNone.eq_int_none (iR I q (by simp))
  | int j=>obtain⟨t',rfl⟩:=ry;exact eq_int (iR I q EL)
  | str j=>obtain⟨t',rfl⟩:=ry;exact PySem.EqMixed.eq_int_str (iR I q (by simp))
  | _=>exact absurd (show false=true from hs) Z9
 | str i=>
  obtain⟨t,rfl⟩:=rx
  cases y with
  | iP=>cases ry;exact PySem.EqNone.eq_str_none (iR I q (by simp))
  | bl j=>cases ry;exact PySem.EqMixed.eq_str_bool (iR I q (by simp))
  | int j=>obtain⟨t',rfl⟩:=ry;exact PySem.EqMixed.eq_str_int (iR I q (by simp))
  | str j=>obtain⟨t',rfl⟩:=ry;exact eq_str (iR I q EM)
  | _=>exact absurd (show false=true from hs) Z9
 | B5 i=>
  obtain⟨t,rfl⟩:=rx
  cases y with
  | B5 j=>obtain⟨t',rfl⟩:=ry;exact W.eq_bytes (iR I q EN)
  | _=>exact absurd (show false=true from hs) Z9
 | _=>cases y<;>exact absurd (show false=true from hs) Z9
theorem qD:wN X (compareOp .NotEq) ZW:=by
 intro c_ s σ H x y v u Q I rx ry h
 obtain⟨hs,q⟩:=h
 cases x with
 | iP=>
  cases rx
  cases y with
  | iP=>cases ry;exact PySem.EqNone.ne_none_none (iR I q (by simp))
  | bl j=>cases ry;exact PySem.EqNone.ne_none_bool (iR I q (by simp))
  | int j=>obtain⟨t',rfl⟩:=ry;exact PySem.EqNone.ne_none_int (iR I q (by simp))
  | str j=>obtain⟨t',rfl⟩:=ry;exact PySem.EqNone.ne_none_str (iR I q (by simp))
  | _=>exact absurd (show false=true from hs) Z9
 | bl i=>
  cases rx
  cases y with
  | iP=>cases ry;exact PySem.EqNone.ne_bool_none (iR I q (by simp))
  | bl j=>cases ry;exact ne_bool (iR I q (aaQ not G1))
  | str j=>obtain⟨t',rfl⟩:=ry;exact PySem.EqMixed.ne_bool_str (iR I q (by simp))
  | _=>exact absurd (show false=true from hs) Z9
 | int i=>
  obtain⟨t,rfl⟩:=rx
  cases y with
  | iP=>cases ry;exact PySem.EqNone.ne_int_none (iR I q (by simp))
  | int j=>obtain⟨t',rfl⟩:=ry;exact ne_int (iR I q (aaQ not EL))
  | str j=>obtain⟨t',rfl⟩:=ry;exact PySem.EqMixed.ne_int_str (iR I q (by simp))
  | _=>exact absurd (show false=true from hs) Z9
 | str i=>
  obtain⟨t,rfl⟩:=rx
  cases y with
  | iP=>cases ry;exact PySem.EqNone.ne_str_none (iR I q (by simp))
  | bl j=>cases ry;exact PySem.EqMixed.ne_str_bool (iR I q (by simp))
  | int j=>obtain⟨t',rfl⟩:=ry;exact PySem.EqMixed.ne_str_int (iR I q (by simp))
  | str j=>obtain⟨t',rfl⟩:=ry;exact ne_str (iR I q (aaQ not EM))
  | _=>exact absurd (show false=true from hs) Z9
 | B5 i=>
  obtain⟨t,rfl⟩:=rx
  cases y with
  | B5 j=>obtain⟨t',rfl⟩:=ry;exact W.ne_bytes (iR I q (aaQ not EN))
  | _=>exact absurd (show false=true from hs) Z9
 | _=>cases y<;>exact absurd (show false=true from hs) Z9
theorem EO:wN X (compareOp .Lt) (Mn fun i j=>.bl (decide (i<j))):=Mp fun _ _ _ _ _ _ _ q=>lt_int q
theorem G2:wN X (compareOp .LtE) (Mn fun i j=>.bl (decide (i≤j))):=Mp fun _ _ _ _ _ _ _ q=>le_int q
theorem G3:wN X (compareOp .Gt) (Mn fun i j=>.bl (decide (j<i))):=Mp fun _ _ _ _ _ _ _ q=>gt_int q
theorem AA:wN X (compareOp .NotIn) (fun x y H Q=>∃i j,x=.str i∧y=.str j∧Q (.bl (!(!(Builtin.Str.occurrences j i 0 j.length 1).isEmpty))) H):=by
 intro c_ s σ H x y v u Q I rx ry h
 obtain⟨i,j,rfl,rfl,q⟩:=h
 obtain⟨t,rfl⟩:=rx
 obtain⟨t',rfl⟩:=ry
 exact notIn_str (iR I q rfl)
theorem iS(b:Expr){op:CmpOp}(h:op≠.In:=by decide)(h2:op≠.NotIn:=by decide):behindInMarks op b=false:=by
 have e1:(op ==CmpOp.In)=false:=by cases op<;>first|rfl|exact absurd rfl h
 have e2:(op ==CmpOp.NotIn)=false:=by cases op<;>first|rfl|exact absurd rfl h2
 cases b<;>simp[behindInMarks,e1,e2]
theorem JT{op:CmpOp}{r:R2}(ho:wN X (compareOp op) r)(ha:PE X a ta)(hb:PE X b tb)(hm:behindInMarks op b=false):PE X (.Compare a [op] [b] pos) (Ph r ta tb):=by
 intro c_ s σ H Q I h
 exact wpAny_Compare1 (Mo ha hb I h fun v u s2 x y H2 I2 rx ry q=>ho c_ s2 σ H2 x y v u Q I2 rx ry q) hm
def Ly(t:TE):TT:=fun σ H Q=>t σ H fun x H'=>∃k,x=.bl k∧Q k H'
theorem iq{op:CmpOp}{r:R2}(ho:wN X (compareOp op) r)(ha:PE X a ta)(hb:PE X b tb)(hm:behindInMarks op b=false):PT X (.Compare a [op] [b] pos) (Ly (Ph r ta tb)):=by
 intro c_ s σ H Q I h
 refine wpAny_isTrue_Compare1 (i6 (ha c_ s σ H _ I h) fun v s1 ⟨x,H1,I1,r1,q1⟩=>i6 (hb c_ s1 σ H1 _ I1 q1) fun u s2 ⟨y,H2,I2,r2,q2⟩=>
  i6 (ho c_ s2 σ H2 x y v u _ I2 r1 r2 q2) fun c s3 ⟨z,H3,I3,r3,k,e,q3⟩=>?_) hm
 subst e
 cases r3
 exact abt ⟨H3,I3,q3⟩
def Mr(r r':R2)(ta tb tc:TE):TE:=fun σ H Q=>ta σ H fun x H1=>tb σ H1 fun y H2=>r x y H2 fun z H3=>∃k,z=.bl k∧
 (if k=true then tc σ H3 fun w' H4=>r' y w' H4 Q else Q (.bl false) H3)
theorem Cc{op Uk:CmpOp}{r r':R2}(ho:wN X (compareOp op) r)(p8:wN X (compareOp Uk) r')(ha:PE X a ta)(hb:PE X b tb)(hc:PE X c tc)
  (hm:lastMarks [op,Uk] [b,c]=false:=by with_unfolding_all rfl):PT X (.Compare a [op,Uk] [b,c] pos) (Ly (Mr r r' ta tb tc)):=by
 intro c_ s σ H Q I h
 refine isTrue_chain (i6 (ha c_ s σ H _ I h) fun v s1 ⟨x,H1,I1,r1,q1⟩=>test_link (i6 (hb c_ s1 σ H1 _ I1 q1) fun u s2 ⟨y,H2,I2,r2,q2⟩=>
  i6 (ho c_ s2 σ H2 x y v u _ I2 r1 r2 q2) fun d s3 ⟨z,H3,I3,r3,k,e,q3⟩=>?_)) hm
 subst e
 cases r3
 refine abt ?_
 cases k with
 | false=>
  obtain⟨k',e',q'⟩:=q3
  cases e'
  exact ite_ff ⟨H3,I3,q'⟩
 | true=>
  refine ite_tt (test_last (i6 (hc c_ s3 σ H3 _ I3 q3) fun w' s4 iI=>?_))
  obtain⟨z',H4,I4,r4,q4⟩:=iI
  refine i6 (p8 c_ s4 σ H4 y z' u w' _ I4 r2 r4 q4) fun d' s5 GB=>?_
  obtain⟨z2,H5,I5,r5,k2,e2,q5⟩:=GB
  subst e2
  cases r5
  exact abt ⟨H5,I5,q5⟩
def Pk(K:Qqy)(x:V)(H:Hp)(k:Bool):Prop:=
 match x with
 | .iP=>k=false
 | .bl b=>k=b
 | .int i=>k=(i != 0)
 | .str y=>y.length≤sizeLine∧k=((y.length:Int) != 0)
 | .B5 y=>y.size≤sizeLine∧k=((y.size:Int) != 0)
 | .ref p=>(∃xs,ib K H p xs∧k=!xs.isEmpty)∨(∃xs,lJ K H p xs∧k=!xs.isEmpty)∨∃kvs,H p=some (.dK kvs)∧k=!kvs.isEmpty
 | _=>False
theorem DL{κ:Type}{kvs:List (κ×V)}{vs:List (κ×Value)}(r:KV kvs vs):(!vs.isEmpty)=!kvs.isEmpty:=by
 cases r<;>rfl
theorem xC{xs:List V}{ic:List Value}(r:Vals xs ic):(!ic.toArray.isEmpty)=!xs.isEmpty:=by
 cases r<;>simp
theorem sI:(sizeLine:Nat)<2 ^ 63:=by rw[sizeLine_eq];decide
theorem Ms:Tj X (fun x H Q=>∃k,Pk X.K x H k∧Q k H):=by
 intro c_ s σ H x v Q I rx h
 obtain⟨k,e,q⟩:=h
 have hl:=sI
 have hs:sizeLine=16777216:=sizeLine_eq
 cases x with
 | iP=>
  cases rx
  have e':k=false:=e
  subst e'
  exact truthy_none ⟨H,I,q⟩
 | bl b=>
  cases rx
  have e':k=b:=e
  subst e'
  exact abt ⟨H,I,q⟩
 | int i=>
  obtain⟨t,rfl⟩:=rx
  have e':k=(i != 0):=e
  subst e'
  exact PySem.P.truthy_int ⟨H,I,q⟩
 | str y=>
  obtain⟨t,rfl⟩:=rx
  obtain⟨hy,e'⟩:y.length≤sizeLine∧k=((y.length:Int) != 0):=e
  subst e'
  exact PySem.P.truthy_str (by omega) ⟨H,I.tok _,q⟩
 | B5 y=>
  obtain⟨t,rfl⟩:=rx
  obtain⟨hy,e'⟩:y.size≤sizeLine∧k=((y.size:Int) != 0):=e
  subst e'
  exact W.truthy_bytes (by omega) ⟨H,I.tok _,q⟩
 | ref p=>
  cases rx
  have e':(∃xs,ib X.K H p xs∧k=!xs.isEmpty)∨(∃xs,lJ X.K H p xs∧k=!xs.isEmpty)∨∃kvs,H p=some (.dK kvs)∧k=!kvs.isEmpty:=e
  rcases e' with⟨xs,hx,e'⟩|⟨xs,hx,e'⟩|⟨kvs,hx,e'⟩
  ·subst e'
   obtain⟨ic,r,pl,hz⟩:=I.list hx
   have hlen:=r.length
   exact wpAny_truthy_list pl.isList (by simp only [aaa];omega) ⟨H,I.tok _,by rw[xC r];exact q⟩
  ·subst e'
   obtain⟨ic,r,pl,hz⟩:=I.tuple hx
   have hlen:=r.length
   exact truthy_tuple pl (by simp only [aaa];omega) ⟨H,I.tok _,by rw[xC r];exact q⟩
  ·subst e'
   obtain⟨hz,hS,vs,r,m⟩:kvs.length≤sizeLine∧(p ==sysModules)=false∧∃vs,KV kvs vs∧s.heap.DictOf (jg X.prog X.w) p vs:=I.iM p _ hx
   have hlen:kvs.length=vs.length:=aad r
   exact wpAny_truthy_dict hS m (by omega) ⟨H,I.tok _,by rw[DL r];exact q⟩
 | _=>exact(show False from e).elim
theorem tM(ha:PE X a ta)(he:∀whole,isTrue a X.env whole=(do let v ←whole;standAt a.pos;holding [v] (truthy v))) :
  PT X a (fun σ H Q=>ta σ H fun x H'=>∃k,Pk X.K x H' k∧Q k H'):=by
 intro c_ s σ H Q I h
 exact isTrue_plain (i6 (ha c_ s σ H _ I h) fun v s1 ⟨x,H1,I1,r1,q1⟩=>Ms c_ s1 σ H1 x v Q I1 r1 q1) (he _)
theorem xD:wN X (binaryOp .Add) (fun x y H Q=>∃i j,x=.str i∧y=.str j∧i.length+j.length≤sizeLine∧Q (.str (i++j)) H):=by
 intro c_ s σ H x y v u Q I rx ry h
 obtain⟨i,j,rfl,rfl,hz,q⟩:=h
 obtain⟨t,rfl⟩:=rx
 obtain⟨t',rfl⟩:=ry
 exact add_str (fun t' tk=>⟨.str (i++j),H,I.tok _,⟨_,rfl⟩,q⟩) hz
theorem vals1{x:V}{us:List Value}(r:Vals [x] us):∃u,us=[u]∧RelV x u:=by
 cases r with
 | cons r1 r2=>cases r2;exact⟨_,rfl,r1⟩
theorem vals2{x y:V}{us:List Value}(r:Vals [x,y] us):∃u w',us=[u,w']∧RelV x u∧RelV y w':=by
 cases r with
 | cons r1 r2=>
  cases r2 with
  | cons r3 r4=>cases r4;exact⟨_,_,rfl,r1,r3⟩
theorem Fx(hc:X.calm=true):vI X (.builtin "max") (fun xs H Q=>∃i j,xs=[.int i,.int j]∧Q (.int (if j>i then j else i)) H):=by
 intro c_ s σ H xs us Q I r h
 obtain⟨i,j,rfl,q⟩:=h
 obtain⟨u,w',rfl,⟨t,rfl⟩,⟨t',rfl⟩⟩:=vals2 r
 refine max_two_ints (I.ok.hd hc) fun h' tk k=>⟨_,H,I.kept k,?_,q⟩
 by_cases hj:j>i
 ·rw[aak hj,aak hj];exact⟨_,rfl⟩
 ·rw[aai hj,aai hj];exact⟨_,rfl⟩
end
structure DN(h:Heap)(x dx C:Addr)(mA:Qqx):Prop where
 obj:h.get? x=some (W.instObj C dx)
 ns:h.Ns1 dx mA
 ne:dx≠x
theorem Fy{h:Heap}{dx:Addr}{mA:Qqx}(n:h.Ns1 dx mA):∃od,h.get? dx=some od∧∀name,W.lookIn name od=some (mA name):=by
 obtain⟨o,es,ep,ho,hd,hk,_,hm⟩:=n
 refine⟨o,ho,fun name=>?_⟩
 have e:=hm name
 unfold nsFind findBy at e
 rw[←Array.find?_toList] at e
 unfold W.lookIn
 rw[hd]
 dsimp only
 split
 ·rename_i y q
  rw[q] at e
  exact aaQ some e
 ·rename_i q
  rw[q] at e
  have a:es.toList.any (·.refKey)=false:=by
   rw[List.any_eq_false]
   intro y hy
   obtain⟨z,t,NU⟩:=hk y (Array.mem_toList_iff.mp hy)
   simp[DictEntry.refKey,NU]
  have a':¬es.toList.any (·.refKey)=true:=by rw[a];exact Z9
  rw[aai a']
  exact aaQ some e
theorem DN.look{h:Heap}{x dx C:Addr}{mA:Qqx}(I:DN h x dx C mA):∃od,W.InstAt h x (W.instObj C dx) C (some od)∧∀name,W.lookIn name od=some (mA name):=
 let ⟨od,ho,hl⟩:=Fy I.ns
 ⟨od,⟨I.obj,rfl,rfl,ho⟩,hl⟩
section
variable{prog:Program}{w:World}{A:Around}{E:Qqq}{s:Shared}{K:Qqy}{x dx C f:Addr}{mA:Qqx}{name:Str}{v:Value}
theorem get_map{expr:Bool}{Q:Qqq}(X:K.In s.heap)(I:DN s.heap x dx C mA)(hg:W.plainGet K C name=true)(hh:W.hasDictIn K C=true)
  (ha:W.findIn K (.ref C) name=some none) (hv:mA name=some v) (hv':W.handedIn v=true) (h:Q v {s with toks:=s.toks+1}) :
  wpAny (model prog w) A (getAttr (.ref x) name expr) Q E s:=by
 obtain⟨od,J,hl⟩:=I.look
 exact W.get_value X J (W.plainGet_of hg).1 (W.findObj_own hh ha rfl (by rw[hl,hv])) hv' h
theorem G4{pl:Sem Bool}{Q:Value×List Value→Shared→Prop}(X:K.In s.heap)(I:DN s.heap x dx C mA)(hg:W.plainGet K C name=true)
  (hf:W.findIn K (.ref C) name=some (some (.ref f))) (ht:W.isFn K (.ref f)=true) (hv:mA name=none) (h:Q (.ref f,[.ref x]) s) :
  wpAny (model prog w) A (getMethod (.ref x) name pl) Q E s:=by
 obtain⟨od,J,hl⟩:=I.look
 exact W.method_fn X J (W.plainGet_of hg).1 (W.plainGet_of hg).2 hf (abR.mp ht) (by show(W.lookIn name od).map (·.isSome)=some false;rw[hl,hv];rfl) h
theorem JU{ns:List Str}{Q:Unit→Shared→Prop}(X:K.In s.heap)(I:DN s.heap x dx C mA)
  (hs:W.findIn K (.ref C) "__setattr__"=some (some (.builtin "object.__setattr__"))) (hp:W.plainOver K C=true) (ht:W.takerIn K C name=some none) (hh:W.hasDictIn K C=true)
  (hw:PySem.Within mA ns) (hsz:ns.length≤sizeLine)
  (h:∀h',DN h' x dx C (fun y=>if y=name then some v else mA y)→Heap.SameBut dx s.heap h'→Q () {s with heap:=h',toks:=s.toks+2}) :
  wpAny (model prog w) A (setAttr (.ref x) name v) Q E s:=by
 obtain⟨od,J,hl⟩:=I.look
 refine W.set_plain X J hs (W.osa_open (s:={s with toks:=s.toks+1}) (r:=none) X J hp ht fun b=>?_)
 obtain⟨cd,hc,Ud⟩:=W.any_some hh
 have hx:s.heap.get? x=some ⟨.ref C,some dx,.plain,#[]⟩:=I.obj
 refine QW (aag (QW (QW (wpAny_loadPart hx (QW (W.Looks.here (s:={s with toks:=s.toks+1}) (W.looks_clsIn X hc) ?_))))))
 rw[Ud]
 refine aag (a:=some dx) (QW (aag (QW ?_)))
 refine wpAny_nsSet1 (s:={s with toks:=s.toks+1}) I.ns fun h' La Ao=>?_
 obtain⟨oD,esD,epD,hoD,hdD,hcD⟩:=La.count (PySem.Within.cons name v hw)
 refine QW (wpAny_lookBehind hoD (by rw[hdD];exact pastItsLine_dict (aac hcD (by rw[WJ];omega))) ?_)
 exact aag (h _ ⟨(Ao.2 _ (abA I.ne)).trans I.obj,La,I.ne⟩ Ao)
theorem G5{R:Result→Shared→Prop}{vs:List Value}{kw:List (Str×Value)}(X:K.In s.heap)(hm:W.makesIn K C=true)
  (hi:W.findIn K (.ref C) "__init__"=some (some (.ref f))) (hf:W.typeIn K (.ref f)=some (.type "function"))
  (h:codeAny (model prog w) (A.under (.builtin "type.__call__" ⟨.ref C::vs,kw⟩)) (.call (.ref f) ⟨.ref (s.heap.objs.size+1)::vs,kw⟩) (W.InitBack (s.heap.objs.size+1) R)
   {s with heap:=(s.heap.push W.emptyDict).push (W.instObj C s.heap.objs.size)}) :
  codeAny (model prog w) A (.call (.ref C) ⟨vs,kw⟩) R s:=by
 obtain⟨hh,g,d,t,os⟩:=s
 exact W.make_core (W.makes_of X hm) (W.looks_findIn X hi) (fun self=>W.bind_fn X self hf) (.inl rfl) h
end
noncomputable def jA(f:Str)(v:V):List (Str×V)→List (Str×V)
 | []=>[(f,v)]
 | (g,x)::r=>if g=f then(g,v)::r else(g,x)::jA f v r
theorem vJ(f g:Str)(v:V):∀fs:List (Str×V),(jA f v fs).lookup g=if g=f then some v else fs.lookup g
 | []=>by
  show List.lookup g [(f,v)]=_
  by_cases h:g=f
  ·have hb:(g ==f)=true:=abR.mpr h
   simp only [List.lookup,hb,aak h]
  ·have hb:(g ==f)=false:=beq_eq_false_iff_ne.mpr h
   simp only [List.lookup,hb,aai h]
 | (k,x)::r=>by
  have ih:=vJ f g v r
  rw[show jA f v ((k,x)::r)=(if k=f then(k,v)::r else(k,x)::jA f v r) from rfl]
  by_cases hk:k=f
  ·rw[aak hk]
   by_cases h:g=k
   ·have hb:(g ==k)=true:=abR.mpr h
    simp only [List.lookup,hb,aak (h.trans hk)]
   ·have hb:(g ==k)=false:=beq_eq_false_iff_ne.mpr h
    simp only [List.lookup,hb,aai (fun e:g=f=>h (e.trans hk.symm))]
  ·rw[aai hk]
   by_cases h:g=k
   ·have hb:(g ==k)=true:=abR.mpr h
    simp only [List.lookup,hb,aai (fun e:g=f=>hk (h.symm.trans e))]
   ·have hb:(g ==k)=false:=beq_eq_false_iff_ne.mpr h
    simp only [List.lookup,hb]
    exact ih
theorem uQ(f:Str)(v:V):∀fs:List (Str×V),f∈(jA f v fs).map (·.1)∧∀g,g∈fs.map (·.1)→g∈(jA f v fs).map (·.1)
 | []=>⟨by simp[jA],fun g h=>by simp at h⟩
 | (k,x)::r=>by
  obtain⟨i1,i2⟩:=uQ f v r
  rw[show jA f v ((k,x)::r)=(if k=f then(k,v)::r else(k,x)::jA f v r) from rfl]
  by_cases hk:k=f
  ·rw[aak hk]
   subst hk
   exact⟨by simp,fun g h=>by simpa using h⟩
  ·rw[aai hk]
   refine⟨?_,fun g h=>?_⟩
   ·rw[aaq]
    exact Z4 _ i1
   ·rw[aaq] at h ⊢
    rcases WK.mp h with e|e
    ·exact WK.mpr (.inl e)
    ·exact Z4 _ (i2 g e)
theorem vK(f:Str)(v:V):∀fs:List (Str×V),(jA f v fs).length≤fs.length+1
 | []=>by simp[jA]
 | (k,x)::r=>by
  have ih:=vK f v r
  rw[show jA f v ((k,x)::r)=(if k=f then(k,v)::r else(k,x)::jA f v r) from rfl]
  by_cases hk:k=f
  ·rw[aak hk,WJ,WJ];omega
  ·rw[aai hk,WJ,WJ];omega
theorem pq.some_of{v:V}{o:Option Value}(r:pq (some v) o):∃u,o=some u∧RelV v u:=by
 cases o with
 | none=>exact(show False from r).elim
 | some u=>exact⟨u,rfl,r⟩
theorem pq.none_of{o:Option Value}(r:pq none o):o=none:=by
 cases o with
 | none=>rfl
 | some u=>exact(show False from r).elim
theorem Fz{v:V}{u:Value}(r:RelV v u):W.handedIn u=true:=by
 cases v with
 | iP=>cases (show u=Value.none from r);rfl
 | bl b=>cases (show u=Value.bool b from r);rfl
 | int i=>obtain⟨t,e⟩:=(show ∃t,u=Value.int i t from r);cases e;rfl
 | str x=>obtain⟨t,e⟩:=(show ∃t,u=Value.str x t from r);cases e;rfl
 | B5 b=>obtain⟨t,e⟩:=(show ∃t,u=Value.bytes b t from r);cases e;rfl
 | Jt b=>obtain⟨t,e⟩:=(show ∃t,u=Value.float b t from r);cases e;rfl
 | ref a=>cases (show u=Value.ref a from r);rfl
 | ty n=>cases (show u=Value.type n from r);rfl
section
variable{P:Program}{w:World}{H H':Hp}{h h':Heap}{a C dx:Addr}{fs fs':List (Str×V)}
theorem xi(iM:qA P w H h)(e:H a=some (.ins C dx fs)):∃mA,DN h a dx C mA∧(∀f,pq (fs.lookup f) (mA f))∧PySem.Within mA (fs.map (·.1))∧fs.length≤1000∧H dx=some (.own a):=by
 obtain⟨d,z,ne,ob,mA,n,r,q⟩:=(show i9 P w H h a (.ins C dx fs) from iM a _ e)
 exact⟨mA,⟨ob,n,ne⟩,r,q,z,d⟩
end
structure DC(K:Qqy)(C:Addr):Prop where
 pg:W.plainGet K C Str.empty=true
 hd:W.hasDictIn K C=true
 po:W.plainOver K C=true
 sa:W.findIn K (.ref C) "__setattr__"=some (some (.builtin "object.__setattr__"))
theorem DC.get{K:Qqy}{C:Addr}(c:DC K C)(f:Str):W.plainGet K C f=true:=c.pg
def jN(K:Qqy)(C:Addr)(f:Str):Prop:=W.findIn K (.ref C) f=some none
theorem jN.Pl{K:Qqy}{C:Addr}{f:Str}(n:jN K C f):W.takerIn K C f=some none:=by
 unfold W.takerIn
 rw[show W.findIn K (.ref C) f=some none from n]
 rfl
structure Meth(K:Qqy)(C:Addr)(m:Str)(f:Addr):Prop where
 at_:W.findIn K (.ref C) m=some (some (.ref f))
 fn:W.isFn K (.ref f)=true
 kp:W.keepIn K (.ref f)=true
section
variable{X:Cx}{c_:Qqz}{σ:St}{H:Hp}{s:Shared}{a C dx:Addr}{fs:List (Str×V)}{f:Str}{v:V}{A:Around}{E:Qqq}
theorem DO{b:Bool}{Q:Qqq}(I:Inv X c_ σ H s)(e:H a=some (.ins C dx fs))(c:DC X.K C)(n:jN X.K C f)(l:fs.lookup f=some v)
  (h:∀u s',Inv X c_ σ H s'→RelV v u→Q u s'):wpAny (model X.prog X.w) A (getAttr (.ref a) f b) Q E s:=by
 obtain⟨mA,O,r,_,_,_⟩:=xi I.iM e
 obtain⟨u,hu,ru⟩:=pq.some_of (v:=v) (o:=mA f) (by rw[←l];exact r f)
 exact get_map I.vH O (c.get f) c.hd n hu (Fz ru) (h u _ (I.tok _) ru)
theorem xE{m:Str}{g:Addr}{pl:Sem Bool}{Q:Value×List Value→Shared→Prop}(I:Inv X c_ σ H s)(e:H a=some (.ins C dx fs))(c:DC X.K C)(k:Meth X.K C m g)(l:fs.lookup m=none)
  (h:Q (.ref g,[.ref a]) s):wpAny (model X.prog X.w) A (getMethod (.ref a) m pl) Q E s:=by
 obtain⟨mA,O,r,_,_,_⟩:=xi I.iM e
 have hn:mA m=none:=pq.none_of (by rw[←l];exact r m)
 exact G4 I.vH O (c.get m) k.at_ k.fn hn h
theorem DP{y:V}{u:Value}{Q:Unit→Shared→Prop}(I:Inv X c_ σ H s)(e:H a=some (.ins C dx fs))(c:DC X.K C)(n:jN X.K C f)(hl:fs.length<1000)(ry:RelV y u)
  (h:∀s',Inv X c_ σ (upd H a (.ins C dx (jA f y fs))) s'→Q () s'):wpAny (model X.prog X.w) A (setAttr (.ref a) f u) Q E s:=by
 obtain⟨mA,O,r,wi,_,ho⟩:=xi I.iM e
 have hz:(fs.map (·.1)).length≤sizeLine:=by rw[QR,sizeLine_eq];omega
 refine JU I.vH O c.sa c.po n.Pl c.hd wi hz fun h' O' sb=>h _ ?_
 have hd:∃o,h'.get? dx=some o:=let ⟨o,_,_,e',_⟩:=O'.ns;⟨o,e'⟩
 refine I.write (x:=a) (e:=dx) (by rw[e];exact True.intro) (.inr ho) (fun b q hb z=>(sb.2 b hb).trans z) hd ?_
 refine⟨by rw[d_ O.ne];exact ho,?_,O.ne,O'.obj,_,O'.ns,fun g=>?_,fun g hg=>?_⟩
 ·have:=vK f y fs;omega
 ·show pq ((jA f y fs).lookup g) (if g=f then some u else mA g)
  rw[vJ]
  by_cases q:g=f
  ·rw[aak q,aak q];exact ry
  ·rw[aai q,aai q];exact r g
 ·by_cases q:g=f
  ·rw[q];exact(uQ f y fs).1
  ·refine(uQ f y fs).2 g (wi g fun z=>hg ?_)
   show(if g=f then some u else mA g)=none
   rw[aai q];exact z
theorem Inv.made(I:Inv X c_ σ H s):Inv X c_ σ (upd (upd H s.heap.objs.size (.own (s.heap.objs.size+1))) (s.heap.objs.size+1) (.ins C s.heap.objs.size []))
  {s with heap:=(s.heap.push W.emptyDict).push (W.instObj C s.heap.objs.size)}:=by
 have e1:(s.heap.push W.emptyDict).get? s.heap.objs.size=some W.emptyDict:=aat s.heap rfl
 have e2:((s.heap.push W.emptyDict).push (W.instObj C s.heap.objs.size)).get? (s.heap.objs.size+1)=some (W.instObj C s.heap.objs.size):=by
  have:=aat (s.heap.push W.emptyDict) (o:=W.instObj C s.heap.objs.size) rfl
  rwa [Heap.size_push] at this
 have e3:(s.heap.push W.emptyDict).Ns s.heap.objs.size (fun _=>none):=⟨W.emptyDict,#[],_,e1,rfl,(fun e he=>absurd he (by simp)),fun _=>rfl⟩
 have I1:=I.laid (a:=s.heap.objs.size) (o:=.own (s.heap.objs.size+1)) (h':=s.heap.push W.emptyDict) (t':=s.toks) (fun b u q=>WN _ q) (TU _) ⟨_,e1⟩
 refine I1.laid (a:=s.heap.objs.size+1) (o:=.ins C s.heap.objs.size []) (t':=s.toks) (fun b u q=>WN _ q) (Nat.le_of_eq (Heap.size_push _ _)) ?_
 have ne:s.heap.objs.size≠s.heap.objs.size+1:=aaP (acd _)
 refine⟨by rw[d_ ne,b_],aaE _,ne,e2,fun _=>none,(Heap.Ns1.of_empty e3).at fun o q=>WN _ q,fun _=>True.intro,fun y hy=>absurd rfl hy⟩
theorem JV{prog:Program}{w:World}{env:Env}{e:Expr}{f:Str}{pos:Pos}{s:Shared}{Q:Qqq}(hb:attributeBase e f env (eval e env)=eval e env)
  (h:wpAny (model prog w) A (eval e env) (fun o s₁=>wpAny (model prog w) A (getAttr o f true) Q E s₁) E s):wpAny (model prog w) A (eval (.Attribute e f pos) env) Q E s:=
 Attribute_any_ h (by rw[arm_eval_Attribute,hb])
end
def Tp(K:Qqy)(ta:TE)(f:Str):TE:=fun σ H Q=>ta σ H fun x H1=>∃a C dx fs v,x=.ref a∧H1 a=some (.ins C dx fs)∧DC K C∧jN K C f∧fs.lookup f=some v∧Q v H1
def Tq(K:Qqy)(ta tv:TE)(f:Str):TS:=fun D σ H=>tv σ H fun y H1=>ta σ H1 fun x H2=>∃a C dx fs,x=.ref a∧H2 a=some (.ins C dx fs)∧DC K C∧jN K C f∧fs.length<1000∧
 D.nx σ (upd H2 a (.ins C dx (jA f y fs)))
section
variable{X:Cx}{o e value:Expr}{f:Str}{pos pos' NV:Pos}{ta tv:TE}
theorem g_(he:PE X e ta)(hb:attributeBase e f X.env (eval e X.env)=eval e X.env):PE X (.Attribute e f pos) (Tp X.K ta f):=by
 intro c_ s σ H Q I h
 refine JV hb (i6 (he c_ s σ H _ I h) fun u s1 iI=>?_)
 obtain⟨x,H1,I1,rx,a,C,dx,fs,v,ex,ea,c,n,l,q⟩:=iI
 subst ex
 obtain rfl:u=Value.ref a:=rx
 exact DO I1 ea c n l fun u' s2 I2 ru=>⟨v,H1,I2,ru,q⟩
theorem k_(ha:PE X o ta)(hv:PE X value tv)(hs:swapsWith value (some (.Attribute o f pos')) pos.line X.env=pure false):PS X (.Assign [.Attribute o f pos'] value pos) (Tq X.K ta tv f):=by
 intro c_ s σ H D I h
 refine plainObj_wpAny_Assign_Attribute (i6 (hv c_ s σ H _ I h) fun u s1 iI=>?_) hs
 obtain⟨y,H1,I1,ry,q⟩:=iI
 refine i6 (ha c_ s1 σ H1 _ I1 q) fun ov s2 GB=>?_
 obtain⟨x,H2,I2,rx,a,C,dx,fs,ex,ea,c,n,l,q2⟩:=GB
 subst ex
 obtain rfl:ov=Value.ref a:=rx
 exact DP I2 ea c n l ry fun s3 I3=>⟨σ,_,I3,q2⟩
end
section
variable{X:Cx}{c_:Qqz}{σ:St}{H:Hp}{s:Shared}{A:Around}{E:Qqq}{Q:Qqq}{c:Value}{b:Bool}
inductive uR(K:Qqy)(H:Hp):V→Value→Prop where
 | iP:uR K H .iP (.type "NoneType")
 | bl (x:Bool):uR K H (.bl x) (.type "bool")
 | int (i:Int):uR K H (.int i) (.type "int")
 | str (x:Str):uR K H (.str x) (.type "str")
 | Jt (x:UInt64):uR K H (.Jt x) (.type "float")
 | lst {a:Addr} {xs:List V} (e:H a=some (.lst xs)):uR K H (.ref a) (.type "list")
 | nR {a:Addr} {o:Obj} {xs:List V} (e:H a=some (.nR o (.lst xs))):uR K H (.ref a) (.type "list")
 | tup {a:Addr} {xs:List V} (e:H a=some (.tup xs)):uR K H (.ref a) (.type "tuple")
 | dK {a:Addr} {kvs:List (Key×V)} (e:H a=some (.dK kvs)):uR K H (.ref a) (.type "dict")
 | dT {a:Addr} {kvs:List (List Key×V)} (e:H a=some (.dT kvs)):uR K H (.ref a) (.type "dict")
 | ins {a C dx:Addr} {fs:List (Str×V)} (e:H a=some (.ins C dx fs)) (cl:DC K C) (ha:W.findIn K (.ref C) "__class__"=some (some (.builtin "object.__class__")))
  (hn:W.specialIn K (.builtin "object.__class__") "__get__"=some (some (.builtin "getset_descriptor.__get__"))) (WZ:W.takesIn K (.builtin "object.__class__")=some true)
  (hm:W.mroIn K C (.type "object")=some true):uR K H (.ref a) (.ref C)
theorem FA{x:V}{u t:Value}(I:Inv X c_ σ H s)(rx:RelV x u)(ty:uR X.K H x t)(e:W.kitOne X.K t c=some b)(h:∀tk,Q (.bool b) {s with toks:=tk}) :
  wpAny (model X.prog X.w) A (call (.builtin "isinstance") [u,c]) Q E s:=by
 cases ty with
 | iP=>cases (show u=Value.none from rx);exact aa_ W.kitx_none I.vH True.intro e (fun z=>nomatch z) h
 | bl y=>cases (show u=Value.bool y from rx);exact aa_ W.kitx_bool I.vH True.intro e (fun z=>nomatch z) h
 | int i=>obtain⟨t,q⟩:=(show ∃t,u=Value.int i t from rx);cases q;exact aa_ W.kitx_int I.vH True.intro e (fun z=>nomatch z) h
 | str y=>obtain⟨t,q⟩:=(show ∃t,u=Value.str y t from rx);cases q;exact aa_ W.kitx_str I.vH True.intro e (fun z=>nomatch z) h
 | Jt y=>obtain⟨t,q⟩:=(show ∃t,u=Value.float y t from rx);cases q;exact aa_ W.kitx_float I.vH True.intro e (fun z=>nomatch z) h
 | @lst a xs ea=>
  cases (show u=Value.ref a from rx)
  obtain⟨_,_,n,_,h1⟩:=(show i9 X.prog X.w H s.heap a (.lst xs) from I.iM a _ ea)
  exact aa_ W.kitx_list I.vH ⟨_,h1,rfl⟩ e (fun z=>nomatch z) h
 | @nR a ob xs ea=>
  cases (show u=Value.ref a from rx)
  obtain⟨_,_,_,n,_,h1⟩:=(show i9 X.prog X.w H s.heap a (.nR ob (.lst xs)) from I.iM a _ ea)
  exact aa_ W.kitx_list I.vH ⟨_,h1,rfl⟩ e (fun z=>nomatch z) h
 | @tup a xs ea=>
  cases (show u=Value.ref a from rx)
  obtain⟨_,_,_,p⟩:=(show i9 X.prog X.w H s.heap a (.tup xs) from I.iM a _ ea)
  obtain⟨o,h1,h2,_⟩:=p
  exact aa_ W.kitx_tuple I.vH ⟨o,h1,h2⟩ e (fun z=>nomatch z) h
 | @dK a kvs ea=>
  cases (show u=Value.ref a from rx)
  obtain⟨_,_,vs,_,p⟩:=(show i9 X.prog X.w H s.heap a (.dK kvs) from I.iM a _ ea)
  obtain⟨o,es,ep,h1,h2,_⟩:=p
  exact aa_ W.kitx_dict I.vH ⟨o,h1,h2.1⟩ e (fun z=>nomatch z) h
 | @dT a kvs ea=>
  cases (show u=Value.ref a from rx)
  obtain⟨_,_,xs,_,o,es,ep,h1,h2,_⟩:=(show i9 X.prog X.w H s.heap a (.dT kvs) from I.iM a _ ea)
  exact aa_ W.kitx_dict I.vH ⟨o,h1,h2.1⟩ e (fun z=>nomatch z) h
 | @ins a C dx fs ea cl ha hn WZ hm=>
  cases (show u=Value.ref a from rx)
  obtain⟨mA,O,_⟩:=xi I.iM ea
  obtain⟨od,J,_⟩:=O.look
  exact aa_ (W.kitx_own (cl.get _) cl.hd ha hn WZ hm) I.vH J e (fun z=>nomatch z) h
end
structure j9(k:Nat)(A:Around):Prop where
 hd:A.handled=none
 dp:A.depth+3*k+5<recursionLimit
 un:A.units+16*k+200<cLine
theorem j9.mono{j k:Nat}{A:Around}(r:j9 k A)(h:j≤k):j9 j A:=⟨r.hd,by have:=r.dp;omega,by have:=r.un;omega⟩
theorem j9.deeper{k:Nat}{A:Around}(r:j9 (k+1) A)(env:Env):j9 k (A.deeper env):=
 ⟨r.hd,by have:=r.dp;show A.depth+1+3*k+5<_;omega,by have:=r.un;show A.units+3+16*k+200<_;omega⟩
theorem DQ{A:Around}{C:Addr}{us:List Value}{kw:List (Str×Value)}:(A.under (.builtin "type.__call__" ⟨.ref C::us,kw⟩)).depth=A.depth+1:=by
 first|rfl|simp[Around.under,Code.weight,Code.isCreation,Code.isGuard,Code.isCaller,Code.frames,Code.isFrame,guardIds]
theorem DR{A:Around}{C:Addr}{us:List Value}{kw:List (Str×Value)}:(A.under (.builtin "type.__call__" ⟨.ref C::us,kw⟩)).units=A.units+1:=by
 first|rfl|simp[Around.under,Code.cUnits,Code.frames,Code.isFrame]
theorem j9.make{k:Nat}{A:Around}(r:j9 (k+1) A)(C:Addr)(us:List Value)(kw:List (Str×Value)):j9 k (A.under (.builtin "type.__call__" ⟨.ref C::us,kw⟩)):=
 ⟨r.hd,by have:=r.dp;rw[DQ];omega,by have:=r.un;rw[DR];omega⟩
theorem j9.depth{k:Nat}{A:Around}(r:j9 k A):A.depth<recursionLimit:=by have:=r.dp;omega
theorem j9.units{k:Nat}{A:Around}(r:j9 k A):A.units+64<cLine:=by have:=r.un;omega
def Mt:TA:=fun _ H Q=>Q [] H
def Pm(ta:TE)(tr:TA):TA:=fun σ H Q=>ta σ H fun x H1=>tr σ H1 fun xs H2=>Q (x::xs) H2
section
variable{X:Cx}{e:Expr}{es:List Expr}{te:TE}{t:TA}{pos:Pos}
theorem e_:PA X [] Mt:=fun _ _ _ _ H Q I h=>abE ⟨[],H,I,.nil,h⟩
theorem a_(ha:PE X e te)(hr:PA X es t)(hs:starEach (e::es) X.env=(false,eval e X.env)::starEach es X.env:=by rfl):PA X (e::es) (Pm te t):=by
 intro pos c_ s σ H Q I h
 rw[hs]
 show wpAny _ _ (spliced ((false,eval e X.env)::backTo pos (starEach es X.env))) _ _ s
 refine abk (i6 (ha c_ s σ H _ I h) fun u s1 iI=>?_)
 obtain⟨x,H1,I1,r1,q1⟩:=iI
 exact i6 (hr pos c_ s1 σ H1 _ I1 q1) fun us s2 ⟨xs,H2,I2,r2,q2⟩=>⟨x::xs,H2,I2,.cons r1 r2,q2⟩
def Tr(t:TA):TE:=fun σ H Q=>t σ H fun xs H1=>xs.length≤sizeLine∧∀p,H1 p=none→Q (.ref p) (upd H1 p (.tup xs))
def Ts(t:TA):TE:=fun σ H Q=>t σ H fun xs H1=>xs.length≤sizeLine∧∀p,H1 p=none→Q (.ref p) (upd H1 p (.lst xs))
theorem lL{x1}(h:PA X es t):PE X (.Tuple es x1 pos) (Tr t):=by
 intro c_ s σ H Q I hq
 refine wpAny_Tuple_spliced (i6 (h pos c_ s σ H _ I hq) fun us s1 iI=>?_)
 obtain⟨xs,H1,I1,r,z,q⟩:=iI
 refine⟨by rw[←r.length];exact z,?_⟩
 have hf:H1 s1.heap.objs.size=none:=I1.iM.fresh (TU _)
 refine⟨.ref s1.heap.objs.size,upd H1 s1.heap.objs.size (.tup xs),I1.laid (t':=s1.toks) (fun b u e=>WN _ e) (TU _) ?_,rfl,q _ hf⟩
 exact⟨z,us,r,⟨_,aat _ rfl,rfl,_,rfl⟩⟩
theorem iX(h:PA X es t):PE X (.List es pos) (Ts t):=by
 intro c_ s σ H Q I hq
 refine wpAny_List_spliced (i6 (h pos c_ s σ H _ I hq) fun us s1 iI=>?_)
 obtain⟨xs,H1,I1,r,z,q⟩:=iI
 refine⟨by rw[←r.length];exact z,?_⟩
 have hf:H1 s1.heap.objs.size=none:=I1.iM.fresh (TU _)
 refine⟨.ref s1.heap.objs.size,upd H1 s1.heap.objs.size (.lst xs),I1.laid (t':=s1.toks) (fun b u e=>WN _ e) (TU _) ?_,rfl,q _ hf⟩
 exact⟨z,us,0,r,aat _ rfl⟩
end
abbrev Sp:=List V→Hp→VK→XK→Prop
abbrev ER:=List Env→Hp→Shared→XK→Qqq
structure DS(P:Program)(w:World)(K:Qqy)(mg:Qqx)(base:Heap)(A:Around)(outer:List Env)(s:Shared)(H:Hp):Prop where
 frames:A.frames=some outer
 mod:Mod K mg base
 bs:∀b o,base.get? b=some o→s.heap.get? b=some o∧H b=none
 JQ:base.objs.size≤s.heap.objs.size
 tI:s.heap.FunFrames base outer
 Lw:∀b∈sF outer,H b=none
 iM:qA P w H s.heap
 bare:AllBare s.gens
def CE(outer:List Env)(P:Program)(w:World)(H:Hp)(s:Shared)(Q:VK)(u:Value)(s':Shared):Prop:=
 ∃v H',s'.os=s.os∧AllBare s'.gens∧Un (sF outer) [] H H' s.heap s'.heap∧qA P w H' s'.heap∧RelV v u∧Q v H'
def CR(CX:ER)(outer:List Env)(P:Program)(w:World)(H:Hp)(s:Shared)(Q:VK)(E:XK)(r:Result)(s':Shared):Prop:=
 match r with
 | .ok (.ret u)=>CE outer P w H s Q u s'
 | .ok _=>False
 | .error e=>CX outer H s E e s'
structure iz(P:Program)(w:World)(K:Qqy)(mg:Qqx)(base:Heap)(CX:ER)(k:Nat)(f:Addr)(fd:FuncData)(ps:List Str)(sp:Sp):Prop where
 len:∀vs H Q E,sp vs H Q E→vs.length=ps.length
 run:∀(A:Around)(outer:List Env)(s:Shared)(H:Hp)(args:Args)(us:List Value)(vs:List V)(Q:VK)(E:XK),j9 k A→DS P w K mg base A outer s H→BindsTo s fd args (ps.zip us)→Vals vs us→sp vs H Q E→
  codeAny (model P w) A (.call (.ref f) args) (CR CX outer P w H s Q E) s
theorem iz.mono{P:Program}{w:World}{K:Qqy}{mg:Qqx}{base:Heap}{CX:ER}{j k:Nat}{f:Addr}{fd:FuncData}{ps:List Str}{sp:Sp}(F:iz P w K mg base CX j f fd ps sp)(h:j≤k) :
 iz P w K mg base CX k f fd ps sp:=⟨F.len,fun A outer s H args us vs Q E hr=>F.run A outer s H args us vs Q E (hr.mono h)⟩
theorem DS.make{P:Program}{w:World}{K:Qqy}{mg:Qqx}{base:Heap}{A:Around}{outer:List Env}{s:Shared}{H:Hp}(e:DS P w K mg base A outer s H)(C:Addr)(us:List Value)(kw:List (Str×Value)) :
 DS P w K mg base (A.under (.builtin "type.__call__" ⟨.ref C::us,kw⟩)) outer s H:=⟨by first|exact e.frames|(simpa[Around.under,Code.envs,Code.isFrame,pushEnvs] using e.frames),e.mod,e.bs,e.JQ,e.tI,e.Lw,e.iM,e.bare⟩
section
variable{X:Cx}{c_:Qqz}{σ:St}{H:Hp}{s s':Shared}
theorem Inv.Pn(I:Inv X c_ σ H s):DS X.prog X.w X.K X.mg X.base X.A X.stack s H:=
 ⟨I.ok.frames,I.ok.mod,I.bs,aac I.ok.JQ I.sz,I.stack,I.Av,I.iM,I.bare⟩
theorem Inv.after{Q:VK}{u:Value}(I:Inv X c_ σ H s)(h:CE X.stack X.prog X.w H s Q u s'):EP X c_ σ Q u s':=by
 obtain⟨v,H',os,bare,un,iM,r,q⟩:=h
 obtain⟨hh,g,d,t,os'⟩:=s'
 obtain rfl:os'=s.os:=os
 exact⟨v,H',I.call (h':=hh) (g':=g) (d':=d) (t':=t) (ch:=[]) un iM bare (fun b z=>absurd z (by simp)),r,q⟩
end
def G6(sp:Sp)(xv:List V)(E:XK)(t:TA):TE:=fun σ H Q=>t σ H fun vs H1=>sp (vs++xv) H1 Q E
def ES(C:Addr)(m:Str)(sp:Sp)(xv:List V)(E:XK)(ta:TE)(t:TA):TE:=fun σ H Q=>ta σ H fun x H1=>∃a dx fs,x=.ref a∧H1 a=some (.ins C dx fs)∧fs.lookup m=none∧
 t σ H1 fun vs H2=>sp (x::(vs++xv)) H2 Q E
def Lz(C:Addr)(sp:Sp)(xv:List V)(E:XK)(t:TA):TE:=fun σ H Q=>t σ H fun vs H1=>∀x dx,H1 x=none→H1 dx=none→dx≠x→
 sp (.ref x::(vs++xv)) (upd (upd H1 dx (.own x)) x (.ins C dx [])) (fun v H2=>v=.iP∧Q (.ref x) H2) E
def Binds(K:Qqy)(fd:FuncData)(ps:List Str)(ds:List Value):Prop:=
 ∀(s:Shared)(us:List Value),K.In s.heap→(us++ds).length=ps.length→BindsTo s fd ⟨us,[]⟩ (ps.zip (us++ds))
theorem Binds.all{K:Qqy}{fd:FuncData}{ps:List Str}(h:∀us:List Value,us.length=ps.length→bindArgs fd ⟨us,[]⟩=pure (ps.zip us)):Binds K fd ps []:=fun s us _ hl=>by
 rw[aaF] at hl ⊢
 exact .of_eq (h us hl)
def Passes(CX:ER)(X:Cx)(E:XK):Prop:=∀(c_:Qqz)(σ:St)(H:Hp)(s:Shared)(e:Value)(s':Shared),Inv X c_ σ H s→CX X.stack H s E e s'→X.xe e s'
section
variable{X:Cx}{CX:ER}{k:Nat}{f C:Addr}{fd:FuncData}{ps:List Str}{sp:Sp}{xv:List V}{ds:List Value}{E:XK}{x m:Str}{p pos apos:Pos}{e o:Expr}{es:List Expr}{ta:TE}{t:TA}
theorem DT{c_:Qqz}{σ:St}{H:Hp}{s:Shared}{Q:VK}{us:List Value}{vs:List V}(F:iz X.prog X.w X.K X.mg X.base CX k f fd ps sp)(hr:j9 k X.A)(hb:Binds X.K fd ps ds)(hd:Vals xv ds)(hx:Passes CX X E)
  (I:Inv X c_ σ H s) (r:Vals vs us) (h:sp (vs++xv) H Q E):wpAny (model X.prog X.w) X.A (call (.ref f) us) (EP X c_ σ Q) X.xe s:=by
 have r2:Vals (vs++xv) (us++ds):=r.append hd
 have hl:(us++ds).length=ps.length:=by rw[←r2.length];exact F.len _ _ _ _ h
 refine wpAny_call (codeAny_mono (F.run X.A X.stack s H ⟨us,[]⟩ (us++ds) (vs++xv) Q E hr I.Pn (hb s us I.vH hl) r2 h) fun r s' hq=>?_)
 cases r with
 | error e=>exact hx c_ σ H s e s' I hq
 | ok fl=>
  cases fl with
  | ret u=>exact I.after hq
  | next=>exact False.elim hq
  | brk=>exact False.elim hq
  | cont=>exact False.elim hq
theorem tN(F:iz X.prog X.w X.K X.mg X.base CX k f fd ps sp)(hr:j9 k X.A)(hg:Gl X x)(hm:X.mg x=some (.ref f))(hk:W.keepIn X.K (.ref f)=true)(hb:Binds X.K fd ps ds)(hd:Vals xv ds)(hx:Passes CX X E)
  (ha:PA X (e::es) t) (Ey:(x ==("__debug__":Str))=false:=by decide) (he:starEach (e::es) X.env=(false,eval e X.env)::starEach es X.env:=by rfl) (nQ:(backTo pos (starEach es X.env)).any (·.1)=false:=by rfl) :
  PE X (.Call (.Name x p) (e::es) [] pos) (G6 sp xv E t):=by
 intro c_ s σ H Q I h
 refine wpAny_Call_Name_kw (tJ I hg hm ?_ Ey)
 refine W.callWith_K (h₀:=X.base) I.ok.mod.OA hk (i6 (ha pos c_ s σ H _ I h) fun us s1 iI=>?_) he nQ
 obtain⟨vs,H1,I1,r,q⟩:=iI
 refine⟨I1.vH,?_⟩
 exact DT F hr hb hd hx I1 r q
theorem ET{pl:Sem Bool}(he:PE X o ta)(c:DC X.K C)(hm:Meth X.K C m f)(F:iz X.prog X.w X.K X.mg X.base CX k f fd ps sp)(hr:j9 k X.A)(hb:Binds X.K fd ps ds)(hd:Vals xv ds)(hx:Passes CX X E)(ha:PA X (e::es) t)
  (Ex:starEach (e::es) X.env=(false,eval e X.env)::starEach es X.env:=by rfl) (nQ:(backTo pos (starEach es X.env)).any (·.1)=false:=by rfl)
  (ht:eval (.Call (.Attribute o m apos) (e::es) [] pos) X.env=(do
   let ov ←eval o X.env
   standAt apos.atName
   let (f,first) ←holding [ov] (getMethod ov m pl)
   callWith pos f first (backTo pos (starEach (e::es) X.env)) (backToKw pos (keywordEach [] X.env))):=by rfl) :
  PE X (.Call (.Attribute o m apos) (e::es) [] pos) (ES C m sp xv E ta t):=by
 intro c_ s σ H Q I h
 refine W.methodCall_KW (pl:=pl) (i6 (he c_ s σ H _ I h) fun u s1 iI=>?_) ht
 obtain⟨x,H1,I1,rx,a,dx,fs,ex,ea,l,q⟩:=iI
 subst ex
 obtain rfl:u=Value.ref a:=rx
 refine xE I1 ea c hm l ?_
 refine W.callWith_K (first:=[.ref a]) (h₀:=X.base) I.ok.mod.OA hm.kp (i6 (ha pos c_ s1 σ H1 _ I1 q) fun us s2 iI=>?_) Ex nQ
 obtain⟨vs,H2,I2,r,q2⟩:=iI
 refine⟨I2.vH,?_⟩
 exact DT (us:=.ref a::us) (vs:=.ref a::vs) F hr hb hd hx I2 (.cons rfl r) q2
theorem G7{pl:Sem Bool}(he:PE X o ta)(c:DC X.K C)(hm:Meth X.K C m f)(F:iz X.prog X.w X.K X.mg X.base CX k f fd ps sp)(hr:j9 k X.A)(hb:Binds X.K fd ps ds)(hd:Vals xv ds)(hx:Passes CX X E)
  (ht:eval (.Call (.Attribute o m apos) [] [] pos) X.env=(do
   let ov ←eval o X.env
   standAt apos.atName
   let (f,first) ←holding [ov] (getMethod ov m pl)
   callWith pos f first (backTo pos (starEach [] X.env)) (backToKw pos (keywordEach [] X.env))):=by rfl) :
  PE X (.Call (.Attribute o m apos) [] [] pos) (ES C m sp xv E ta Mt):=by
 intro c_ s σ H Q I h
 refine W.methodCall_KW (pl:=pl) (i6 (he c_ s σ H _ I h) fun u s1 iI=>?_) ht
 obtain⟨x,H1,I1,rx,a,dx,fs,ex,ea,l,q⟩:=iI
 subst ex
 obtain rfl:u=Value.ref a:=rx
 refine xE I1 ea c hm l ?_
 exact W.callWith_K0 (first:=[.ref a]) I1.vH hm.kp (DT (us:=[.ref a]) (vs:=[.ref a]) F hr hb hd hx I1 (.cons rfl .nil) q)
structure Mk(K:Qqy)(C f:Addr):Prop where
 makes:W.makesIn K C=true
 init:W.findIn K (.ref C) "__init__"=some (some (.ref f))
 fn:W.isFn K (.ref f)=true
 kp:W.keepIn K (.ref C)=true
theorem Cd{c_:Qqz}{σ:St}{H:Hp}{s:Shared}{Q:VK}{us:List Value}{vs:List V}(M:Mk X.K C f)(F:iz X.prog X.w X.K X.mg X.base CX k f fd ps sp)(hr:j9 (k+1) X.A)(hb:Binds X.K fd ps ds)(hd:Vals xv ds)
  (hx:Passes CX X E) (I:Inv X c_ σ H s) (r:Vals vs us)
  (h:∀x dx,H x=none→H dx=none→dx≠x→sp (.ref x::(vs++xv)) (upd (upd H dx (.own x)) x (.ins C dx [])) (fun v H2=>v=.iP∧Q (.ref x) H2) E) :
  wpAny (model X.prog X.w) X.A (call (.ref C) us) (EP X c_ σ Q) X.xe s:=by
 have hq:=h (s.heap.objs.size+1) s.heap.objs.size (I.iM.fresh (Nat.le_succ _)) (I.iM.fresh (TU _)) (aaP (acd _))
 have I2:=Inv.made (C:=C) I
 have r2:Vals (V.ref (s.heap.objs.size+1)::(vs++xv)) (Value.ref (s.heap.objs.size+1)::(us++ds)):=.cons rfl (r.append hd)
 have hl:(Value.ref (s.heap.objs.size+1)::us++ds).length=ps.length:=by
  have e:=r2.length
  rw[F.len _ _ _ _ hq] at e
  exact e.symm
 refine wpAny_call (G5 (f:=f) I.vH M.makes M.init (abR.mp M.fn) (codeAny_mono (F.run _ X.stack _ _ ⟨Value.ref (s.heap.objs.size+1)::us,[]⟩ (Value.ref (s.heap.objs.size+1)::(us++ds)) _ _ E (hr.make C us [])
  (I2.Pn.make C us []) (hb _ (Value.ref (s.heap.objs.size+1)::us) I2.vH hl) r2 hq) fun r s' Qt=>?_))
 cases r with
 | error e=>exact hx c_ σ _ _ e s' I2 Qt
 | ok fl=>
  cases fl with
  | ret u=>
   obtain⟨v,H',I3,rv,ev,q3⟩:=I2.after Qt
   subst ev
   exact⟨rv,⟨V.ref (s.heap.objs.size+1),H',I3,rfl,q3⟩⟩
  | next=>exact False.elim Qt
  | brk=>exact False.elim Qt
  | cont=>exact False.elim Qt
theorem tO(M:Mk X.K C f)(F:iz X.prog X.w X.K X.mg X.base CX k f fd ps sp)(hr:j9 (k+1) X.A)(hg:Gl X x)(hm:X.mg x=some (.ref C))(hb:Binds X.K fd ps ds)(hd:Vals xv ds)(hx:Passes CX X E)
  (ha:PA X (e::es) t) (Ey:(x ==("__debug__":Str))=false:=by decide) (he:starEach (e::es) X.env=(false,eval e X.env)::starEach es X.env:=by rfl) (nQ:(backTo pos (starEach es X.env)).any (·.1)=false:=by rfl) :
  PE X (.Call (.Name x p) (e::es) [] pos) (Lz C sp xv E t):=by
 intro c_ s σ H Q I h
 refine wpAny_Call_Name_kw (tJ I hg hm ?_ Ey)
 refine W.callWith_K (h₀:=X.base) I.ok.mod.OA M.kp (i6 (ha pos c_ s σ H _ I h) fun us s1 iI=>?_) he nQ
 obtain⟨vs,H1,I1,r,q⟩:=iI
 refine⟨I1.vH,?_⟩
 exact Cd M F hr hb hd hx I1 r q
theorem G8(M:Mk X.K C f)(F:iz X.prog X.w X.K X.mg X.base CX k f fd ps sp)(hr:j9 (k+1) X.A)(hg:Gl X x)(hm:X.mg x=some (.ref C))(hb:Binds X.K fd ps ds)(hd:Vals xv ds)(hx:Passes CX X E)
  (Ey:(x ==("__debug__":Str))=false:=by decide):PE X (.Call (.Name x p) [] [] pos) (Lz C sp xv E Mt):=by
 intro c_ s σ H Q I h
 refine wpAny_Call_Name_kw (tJ I hg hm ?_ Ey)
 exact W.callWith_K0 I.vH M.kp (Cd (us:=[]) M F hr hb hd hx I .nil h)
end
def PK(X:Cx)(W0:List Keyword)(t:TA):Prop:=
 ∀(pos:Pos)(c_:Qqz)(s:Shared)(σ:St)(H:Hp)(Q:List V→Hp→Prop),Inv X c_ σ H s→t σ H Q→wpAny (model X.prog X.w) X.A (evalAll ((backToKw pos (keywordEach W0 X.env)).map (·.2))) (AP X c_ σ Q) X.xe s
section
variable{X:Cx}{CX:ER}{k:Nat}{f C:Addr}{fd:FuncData}{ps ks:List Str}{sp:Sp}{E:XK}{x m:Str}{p pos apos kpos:Pos}{e o:Expr}{es:List Expr}{W0:List Keyword}{te ta:TE}{t tk:TA}{nm:Option Str}
variable{g:List Value→List Value→List Value}{gV:List V→List V→List V}
end
structure g8(N P:List Str)(sc:Scope):Prop where
 kind:sc.kind=.function
 co:sc.isCoroutine=false
 gen:sc.isGenerator=false
 nd:N.Nodup
 pre:N.take P.length=P
 par:∀x∈P,sc.names.lookup x=some .local∨sc.names.lookup x=some .cell
 Mu:∀y∈sc.names,y.2≠.free
theorem zE{kindOf:Str→Option NameKind}{x:Str}:∀{binds:List (Str×Value)} {m:Qqx},(∀v,(x,v)∉binds)→bindL kindOf binds m x=m x
 | [],_,_=>rfl
 | (n,v)::r,m,h=>by
  unfold bindL
  rw[zE fun w hw=>h w (Z4 _ hw)]
  split
  ·have:x≠n:=by rintro rfl;exact h v aal
   simp[this]
  ·rfl
theorem zF{kindOf:Str→Option NameKind}{x:Str}:∀{binds:List (Str×Value)} {m:Qqx},(∀v,(x,v)∉binds)→bindC kindOf binds m x=m x
 | [],_,_=>rfl
 | (n,v)::r,m,h=>by
  unfold bindC
  rw[zF fun w hw=>h w (Z4 _ hw)]
  split
  ·rfl
  ·have:x≠n:=by rintro rfl;exact h v aal
   simp[this]
theorem zG{kindOf:Str→Option NameKind}{x:Str}{v:Value}:∀{P:List Str} {vs:List Value} {i:Nat} {m:Qqx},P.Nodup→P[i]?=some x→vs[i]?=some v→kindOf x=some .local→
  bindL kindOf (P.zip vs) m x=some v
 | [],_,_,_,_,h,_,_=>by simp at h
 | _::_,[],_,_,_,_,h,_=>by simp at h
 | p::P,w::vs,0,m,nd,h1,h2,hk=>by
  simp at h1 h2;subst h1;subst h2
  show bindL kindOf ((p,w)::P.zip vs) m p=_
  unfold bindL
  rw[zE fun v hv=>(aaT.mp nd).1 (List.of_mem_zip hv).1,aak hk]
  simp
 | p::P,w::vs,i+1,m,nd,h1,h2,hk=>by
  show bindL kindOf ((p,w)::P.zip vs) m x=_
  unfold bindL
  exact zG (i:=i) (aaT.mp nd).2 (by simpa using h1) (by simpa using h2) hk
theorem zH{kindOf:Str→Option NameKind}{x:Str}{v:Value}:∀{P:List Str} {vs:List Value} {i:Nat} {m:Qqx},P.Nodup→P[i]?=some x→vs[i]?=some v→kindOf x≠some .local→
  bindC kindOf (P.zip vs) m x=some v
 | [],_,_,_,_,h,_,_=>by simp at h
 | _::_,[],_,_,_,_,h,_=>by simp at h
 | p::P,w::vs,0,m,nd,h1,h2,hk=>by
  simp at h1 h2;subst h1;subst h2
  show bindC kindOf ((p,w)::P.zip vs) m p=_
  unfold bindC
  rw[zF fun v hv=>(aaT.mp nd).1 (List.of_mem_zip hv).1,aai hk]
  simp
 | p::P,w::vs,i+1,m,nd,h1,h2,hk=>by
  show bindC kindOf ((p,w)::P.zip vs) m x=_
  unfold bindC
  exact zH (i:=i) (aaT.mp nd).2 (by simpa using h1) (by simpa using h2) hk
noncomputable def start(N:List Str)(vs:List V):St:=vs.map some++List.replicate (N.length-vs.length) none
noncomputable def uS(CX:ER)(P:Program)(w:World)(K:Qqy)(mg:Qqx)(base:Heap)(N:List Str)(qual:Str)(scope:Scope)(f:Addr)(cd:Value)(A:Around)(outer:List Env)(s:Shared)(H:Hp)(E:XK):Cx where
 prog:=P
 w:=w
 K:=K
 mg:=mg
 base:=base
 A:=A.deeper (envOfC qual scope s.heap.objs.size f cd)
 N:=N
 s₀:=s
 H₀:=H
 env:=envOfC qual scope s.heap.objs.size f cd
 outer:=outer
 stack:=envOfC qual scope s.heap.objs.size f cd::outer
 ex:=[]
 calm:=true
 fn:=fun _=>true
 pn:=[]
 xe:=fun e s'=>wpAny (model P w) (A.deeper (envOfC qual scope s.heap.objs.size f cd)) (leaving (envOfC qual scope s.heap.objs.size f cd) e) (fun _ GD=>CX outer H s E e GD) (fun e' GD=>CX outer H s E e' GD) s'
theorem Ce{sc:Scope}{n:Nat}{x:Str}(h:sc.names.lookup x=some .cell):∃c,(cellsFrom n sc.names []).lookup x=some c:=by
 have q:=W.cellsFrom_some sc.names n [] (.inl h)
 exact Option.isSome_iff_exists.mp q
theorem FC{CX:ER}{P:Program}{w:World}{K:Qqy}{mg:Qqx}{base:Heap}{N ps:List Str}{qual:Str}{scope:Scope}{f:Addr}{cd:Value}{A:Around}{outer:List Env}{s s1:Shared}{H:Hp}{E:XK}{us:List Value}{vs:List V}
  (S:g8 N ps scope) (hd:A.handled=none) (e0:DS P w K mg base A outer s H) (hl:vs.length=ps.length) (r:Vals vs us)
  (x:InCallC s s.heap.objs.size (bindL (envOfC qual scope s.heap.objs.size f cd).kindOf (ps.zip us) fun _=>none) (cellsFrom (s.heap.objs.size+1) scope.names []) (bindC (envOfC qual scope s.heap.objs.size f cd).kindOf (ps.zip us) fun _=>none) s1) :
  Inv (uS CX P w K mg base N qual scope f cd A outer s H E) [] (start N vs) H s1:=by
 have nQ:ps.length≤N.length:=by have:=aaQ List.length S.pre;rw[aaG] at this;omega
 obtain⟨h1,tk,rfl,hk⟩:=x.done
 have Qu:∀b:Addr,b∉(uS CX P w K mg base N qual scope f cd A outer s H E).ex:=fun b z=>absurd (show b∈([]:List Addr) from z) (by simp)
 refine⟨⟨e0.mod,S.kind,rfl,rfl,TU _,fun y z c h1 h2=>?_,fun y hy=>?_,fun y c _ h=>?_,fun _=>hd,Around.frames_deeper e0.frames,.inr ⟨rfl,rfl⟩,fun b z=>absurd z (Qu b),e0.bs,e0.JQ,fun b _ _=>Qu b,fun b z=>absurd z (Qu b),e0.tI,e0.Lw⟩,
  rfl,e0.bare,Un.kept hk,⟨_,x.toInCall.ns,fun i y v h1 h2 h3=>?_⟩,fun y c h=>⟨_,x.cell y c h⟩,e0.iM.fresh (TU _),fun y c h=>?_,fun p hp=>absurd (show p∈([]:Qqz) from hp) (by simp),e0.iM.kept hk,?_⟩
 ·exact name_of_addr x.apart (abu h1) (abu h2)
 ·have hy:scope.names.lookup y=some .cell∨scope.names.lookup y=some .free:=hy
  rcases hy with hy|hy
  ·exact Ce hy
  ·exact absurd rfl (S.Mu _ (abu hy))
 ·exact Nat.le_of_lt (x.above y c (abu h))
 ·have hi:i<vs.length:=by
   unfold start at h2
   by_cases hi:i<vs.length
   ·exact hi
   ·rw[aa0 (by simpa using hi)] at h2
    rw[List.getElem?_replicate] at h2
    split at h2<;>cases h2
  have ha:vs[i]?=some v:=by
   unfold start at h2
   rw[abv (by simpa using hi),ZZ] at h2
   cases e:vs[i]? with
   | none=>rw[e] at h2;cases h2
   | some a=>rw[e] at h2;cases h2;rfl
  obtain⟨u,hu,rv⟩:=r.get ha
  have hp:ps[i]?=some y:=by
   rw[←S.pre,List.getElem?_take_of_lt (by omega)];exact h1
  have W3:ps.Nodup:=by rw[←S.pre];exact S.nd.sublist (aca _ _)
  refine⟨u,rv,?_⟩
  rcases S.par y (UK hp) with k|k
  ·exact .inl ⟨k,zG W3 hp hu k⟩
  ·obtain⟨c,e⟩:=Ce (n:=s.heap.objs.size+1) k
   refine .inr ⟨.inl k,c,e,?_⟩
   have q:=x.cell y c e
   rw[zH W3 hp hu (by show scope.names.lookup y≠_;rw[k];decide)] at q
   exact q
 ·exact e0.iM.fresh (Nat.le_of_lt (x.above y c (abu h)))
 ·unfold start
  show _=N.length
  rw[TZ,QR,List.length_replicate]
  omega
theorem LA{CX:ER}{P:Program}{w:World}{K:Qqy}{mg:Qqx}{base:Heap}{k:Nat}{f:Addr}{name qual:Str}{params:Arguments}{body:List Stmt}{scope:Scope}{dV kV doc pm jw ct oc:Value}{an od:Option Addr}
  {GN:Array (Option Value)} {N ps:List Str} {sp:Sp} (lk:K.lookup f=some ⟨oc,od,.func (W.fnOf name qual params body scope dV kV doc pm an jw ct),GN⟩) (An:W.codeIn K jw qual=true) (S:g8 N ps scope)
  (len:∀vs H Q E,sp vs H Q E→vs.length=ps.length)
  (uH:∀(A:Around)(outer:List Env)(s:Shared)(H:Hp)(vs:List V)(Q:VK)(E:XK),j9 k (A.deeper (envOfC qual scope s.heap.objs.size f jw))→sp vs H Q E→
   ∃t,DB (uS CX P w K mg base N qual scope f jw A outer s H E) body t∧t {nx:=fun _ H'=>Q .iP H',rt:=Q} (start N vs) H) :
  iz P w K mg base CX (k+1) f (W.fnOf name qual params body scope dV kV doc pm an jw ct) ps sp:=by
 refine⟨len,fun A outer s H args us vs Q E hr e0 hb r JC=>?_⟩
 have hl:=len _ _ _ _ JC
 have KX:K.In s.heap:=e0.mod.OA.keeps fun b o e=>(e0.bs b o e).1
 have lim:s.heap.NoLimit:=e0.mod.nolimit.keeps fun b o e=>(e0.bs b o e).1
 have Qv:∀y∈ps.zip us,scope.names.lookup y.1=some .local∨(scope.names.lookup y.1=some .cell∧((cellsFrom (s.heap.objs.size+1) scope.names []).lookup y.1).isSome=true):=fun⟨n,v⟩ hy=>by
  rcases S.par n (List.of_mem_zip hy).1 with q|q
  ·exact .inl q
  ·exact .inr ⟨q,W.cellsFrom_some _ _ _ (.inl q)⟩
 refine codeAny_call_function hr.depth (KX _ _ lk) rfl S.co S.gen rfl (W.codeRec_of KX An) (hb _ _ _ _ ?_)
 refine wpAny_newFunctionEnv_cells S.kind Qv fun env he s1 x=>?_
 subst he
 refine⟨lim.keeps x.toInCall.keep,codeAny_func ?_⟩
 obtain⟨t,ht,hq⟩:=uH A outer s H vs Q E (hr.deeper _) JC
 have I:Inv (uS CX P w K mg base N qual scope f jw A outer s H E) [] (start N vs) H s1:=FC S hr.hd e0 hl r x
 refine abr (ht [] s1 (start N vs) H _ I hq) (fun fl s' hs=>?_) fun e s' hs=>hs
 have fin:∀{σ':St} {H':Hp} {v:V} {u:Value},Inv (uS CX P w K mg base N qual scope f jw A outer s H E) [] σ' H' s'→RelV v u→Q v H'→CE outer P w H s Q u s':=
  fun{σ' H' v u} J rv q=>⟨v,H',J.os,J.bare,J.base,J.iM,rv,q⟩
 cases fl with
 | ret u=>
  obtain⟨v,σ',H',J,rv,q⟩:=hs
  exact fin J rv q
 | next=>
  obtain⟨σ',H',J,q⟩:=hs
  exact fin (v:=V.iP) (u:=Value.none) J rfl q
 | brk=>
  obtain⟨_,_,_,q⟩:=hs
  exact False.elim q
 | cont=>
  obtain⟨_,_,_,q⟩:=hs
  exact False.elim q
section
variable{X:Cx}{x:Str}{p pos:Pos}{e:Expr}{es:List Expr}{t:TA}{id T:String}{r:List V→Hp→VK→Prop}
def WG(r:List V→Hp→VK→Prop)(t:TA):TE:=fun σ H Q=>t σ H fun vs H1=>r vs H1 Q
theorem hE(hc:vI X (.builtin id) r)(hg:Gl X x)(hm:X.mg x=none)(hv:bootBuiltins x=some (.builtin id))(ha:PA X (e::es) t)(hn:x≠"__name__":=by decide)(Ey:(x ==("__debug__":Str))=false:=by decide)
  (he:starEach (e::es) X.env=(false,eval e X.env)::starEach es X.env:=by rfl) (nQ:(backTo pos (starEach es X.env)).any (·.1)=false:=by rfl):PE X (.Call (.Name x p) (e::es) [] pos) (WG r t):=by
 intro c_ s σ H Q I h
 refine wpAny_Call_Name_kw (mV I hg hm hv ?_ hn Ey)
 exact PyProof.Rows.callWith_builtin1 (i6 (ha pos c_ s σ H _ I h) fun us s1 ⟨vs,H1,I1,r1,q1⟩=>hc c_ s1 σ H1 vs us Q I1 r1 q1) he nQ
theorem uT(hc:vI X (.type T) r)(hg:Gl X x)(hm:X.mg x=none)(hv:bootBuiltins x=some (.type T))(ha:PA X (e::es) t)(hn:x≠"__name__":=by decide)(Ey:(x ==("__debug__":Str))=false:=by decide)
  (he:starEach (e::es) X.env=(false,eval e X.env)::starEach es X.env:=by rfl) (nQ:(backTo pos (starEach es X.env)).any (·.1)=false:=by rfl):PE X (.Call (.Name x p) (e::es) [] pos) (WG r t):=by
 intro c_ s σ H Q I h
 refine wpAny_Call_Name_kw (mV I hg hm hv ?_ hn Ey)
 exact aaN (i6 (ha pos c_ s σ H _ I h) fun us s1 ⟨vs,H1,I1,r1,q1⟩=>hc c_ s1 σ H1 vs us Q I1 r1 q1) he nQ
end
end L2
namespace HT
open PySem PyProof.Rows
section
open PySem.SeqAt
open PySem.AutoSeq1 (wpAny_loadPart')
open PySem.MeetsSeq PySem.MeetsSeq2 PySem.MeetsSeq3
end
section
variable{prog:Program}{w:World}{A:Around}{E:Qqq}{s:Shared}
noncomputable def Cf(n d:Nat):Option Int→Nat
 | none=>d
 | some v=>if v<0 then(v+(n:Int)).toNat else min v.toNat n
theorem tP(n d:Nat):Cf n d none=d:=rfl
theorem xj(n d k:Nat):Cf n d (some (k:Int))=min k n:=by
 show(if(k:Int)<0 then((k:Int)+(n:Int)).toNat else min (k:Int).toNat n)=min k n
 rw[aai (by omega),aa7]
end
end HT
namespace L2
open PySem PySem.Spec PyProof.Rows
abbrev TO:=St→Hp→(Option Int→Hp→Prop)→Prop
def PO(X:Cx)(e:Option Expr)(t:TO):Prop:=
 ∀(c_:Qqz)(s:Shared)(σ:St)(H:Hp)(Q:Option Int→Hp→Prop),Inv X c_ σ H s→t σ H Q→
  wpAny (model X.prog X.w) X.A (evalPart e X.env) (fun u s'=>∃o H',Inv X c_ σ H' s'∧IsPart u o∧Q o H') X.xe s
def JW:TO:=fun _ H Q=>Q none H
def Po(t:TE):TO:=fun σ H Q=>t σ H fun x H1=>∃i,x=.int i∧Q (some i) H1
section
variable{X:Cx}{e:Expr}{te:TE}{lo hi:Option Expr}{tl th:TO}{pos p2:Pos}
theorem lZ:PO X none JW:=by
 intro c_ s σ H Q I h
 rw[evalPart_none]
 exact aag ⟨none,H,I,.none,h⟩
theorem l0(h:PE X e te):PO X (some e) (Po te):=by
 intro c_ s σ H Q I hw
 rw[evalPart_some]
 refine i6 (h c_ s σ H _ I hw) fun u s1 iI=>?_
 obtain⟨x,H1,I1,r1,q1⟩:=iI
 obtain⟨i,rfl,q⟩:=q1
 obtain⟨t,rfl⟩:=r1
 exact⟨some i,H1,I1,.int i t,q⟩
def WH(X:Cx)(r:V→Option Int→Option Int→Hp→VK→Prop):Prop:=
 ∀(c_:Qqz)(s:Shared)(σ:St)(H:Hp)(x:V)(v vl vu:Value)(lo hi:Option Int)(sl:Addr)(Q:VK),Inv X c_ σ H s→RelV x v→s.heap.IsSliceOf sl vl vu .none→IsPart vl lo→IsPart vu hi→r x lo hi H Q→
  ∃T id,typeLookup (.type T) "__getitem__"=pure (some (.builtin id))∧s.TypeIs v T∧wpAny (model X.prog X.w) X.A (getItem v (.ref sl)) (EP X c_ σ Q) X.xe s
def ZX(r:V→Option Int→Option Int→Hp→VK→Prop)(te:TE)(tl th:TO):TE:=fun σ H Q=>te σ H fun x H1=>tl σ H1 fun l H2=>th σ H2 fun u H3=>r x l u H3 Q
theorem kI{r:V→Option Int→Option Int→Hp→VK→Prop}(hr:WH X r)(he:PE X e te)(hl:PO X lo tl)(hu:PO X hi th):PE X (.Subscript e (.Slice lo hi none p2) pos) (ZX r te tl th):=by
 intro c_ s σ H Q I h
 refine Subscript_ (i6 (he c_ s σ H _ I h) fun v s1 iI=>?_)
 obtain⟨x,H1,I1,r1,q1⟩:=iI
 refine wpAny_Slice (i6 (hl c_ s1 σ H1 _ I1 q1) fun vl s2 iI=>?_)
 obtain⟨l,H2,I2,pl,q2⟩:=iI
 refine i6 (hu c_ s2 σ H2 _ I2 q2) fun vu s3 GB=>?_
 obtain⟨u,H3,I3,pu,q3⟩:=GB
 rw[evalPart_none]
 refine aag ?_
 have I4:Inv X c_ σ H3 {s3 with heap:=s3.heap.push {cls:=.type "slice",data:=.fields #[vl,vu,.none]}}:=I3.kept (t':=s3.toks) fun b ob q=>WN _ q
 obtain⟨T,id,hT,ht,hg⟩:=hr c_ {s3 with heap:=s3.heap.push {cls:=.type "slice",data:=.fields #[vl,vu,.none]}} σ H3 x v vl vu l u s3.heap.objs.size Q I4 r1 (Heap.IsSliceOf.new ..) pl pu q3
 show wpAny (model X.prog X.w) X.A (subscriptTail e (.Slice lo hi none p2) v (.ref s3.heap.objs.size)) (EP X c_ σ Q) X.xe {s3 with heap:=s3.heap.push {cls:=.type "slice",data:=.fields #[vl,vu,.none]}}
 exact tail_any (ops:=[.ref s3.heap.objs.size,v]) ht hT hg (by with_unfolding_all rfl)
noncomputable def pA(xs:List V)(lo hi:Option Int):List V:=(xs.drop (HT.Cf xs.length 0 lo)).take (HT.Cf xs.length xs.length hi-HT.Cf xs.length 0 lo)
theorem Cg(xs:List V)(lo hi:Option Int):(pA xs lo hi).length≤xs.length:=by
 unfold pA
 rw[aaG,abY]
 omega
end
noncomputable def G9(n:Nat)(i:Int):Option Nat:=if 0≤i then(if i<n then some i.toNat else none) else if -(n:Int)≤i then some (i+n).toNat else none
noncomputable def FD{α:Type}(xs:List α)(i:Int):Option α:=(G9 xs.length i).bind fun j=>xs[j]?
theorem EU{n:Nat}{i:Int}{j:Nat}(h:G9 n i=some j):seqIndex? i n=some j∧j<n∧-(n:Int)≤i∧i<n:=by
 unfold G9 at h
 by_cases h0:0≤i
 ·rw[aak h0] at h
  by_cases h1:i<n
  ·rw[aak h1] at h
   have e:i.toNat=j:=aao h
   exact⟨by rw[seqIndex_of h0 h1,e],by omega,by omega,h1⟩
  ·rw[aai h1] at h;cases h
 ·rw[aai h0] at h
  by_cases h1:-(n:Int)≤i
  ·rw[aak h1] at h
   have e:(i+n).toNat=j:=aao h
   exact⟨by rw[seqIndex_neg (by omega) h1,e],by omega,h1,by omega⟩
  ·rw[aai h1] at h;cases h
theorem AB{α:Type}{xs:List α}{i:Int}{v:α}(h:FD xs i=some v):∃j,seqIndex? i xs.length=some j∧xs[j]?=some v∧j<xs.length∧-(xs.length:Int)≤i∧i<xs.length:=by
 unfold FD at h
 cases e:G9 xs.length i with
 | none=>rw[e] at h;cases h
 | some j=>
  rw[e] at h
  obtain⟨h1,h2,h3,h4⟩:=EU e
  exact⟨j,h1,h,h2,h3,h4⟩
theorem JX{α:Type}{xs:List α}{j:Nat}{v:α}(h:xs[j]?=some v):FD xs (j:Int)=some v:=by
 have hj:j<xs.length:=(List.getElem?_eq_some_iff.mp h).1
 have e:G9 xs.length (j:Int)=some j:=by
  unfold G9
  rw[aak (by omega),aak (by omega)];simp
 unfold FD;rw[e];exact h
theorem G_{α:Type}(xs:List α)(v:α):FD (xs++[v]) (-1)=some v:=by
 have hl:(xs++[v]).length=xs.length+1:=by simp
 have e:G9 (xs++[v]).length (-1)=some xs.length:=by
  unfold G9
  rw[hl,aai (by decide),aak (by omega)]
  congr 1
  omega
 unfold FD
 rw[e]
 show(xs++[v])[xs.length]?=some v
 simp
def EV(b:Expr):Prop:=∀o i,subscripted b false o i=operate [o,i] (getItem o i)
def RW(X:Cx)(r:R2):Prop:=
 ∀(value slice:Expr)(c_:Qqz)(s:Shared)(σ:St)(H:Hp)(x y:V)(v u:Value)(Q:VK),Inv X c_ σ H s→RelV x v→RelV y u→r x y H Q→
  subscripted slice false v u=operate [v,u] (getItem v u)→wpAny (model X.prog X.w) X.A (subscriptTail value slice v u) (EP X c_ σ Q) X.xe s
def Tt(X:Cx)(id:String)(r:V→List V→Hp→VK→Prop):Prop:=
 ∀(c_:Qqz)(s:Shared)(σ:St)(H:Hp)(x:V)(xs:List V)(v:Value)(us:List Value)(Q:VK),Inv X c_ σ H s→RelV x v→Vals xs us→r x xs H Q→
  wpAny (model X.prog X.w) X.A (call (.builtin id) (v::us)) (EP X c_ σ Q) X.xe s
section
variable{X:Cx}{a b:Expr}{ta tb:TE}{pos:Pos}
theorem iC{r:R2}(hr:RW X r)(ha:PE X a ta)(hb:PE X b tb)(hs:EV b):PE X (.Subscript a b pos) (Ph r ta tb):=by
 intro c_ s σ H Q I h
 exact Subscript_ (Mo ha hb I h fun v u s2 x y H2 I2 rx ry q=>hr a b c_ s2 σ H2 x y v u Q I2 rx ry q (hs _ _))
noncomputable def Pp(K:Qqy):R2:=fun x y H Q=>∃p xs i v,x=.ref p∧y=.int i∧ib K H p xs∧FD xs i=some v∧Q v H
noncomputable def Tu(K:Qqy):R2:=fun x y H Q=>∃p xs i v,x=.ref p∧y=.int i∧lJ K H p xs∧FD xs i=some v∧Q v H
noncomputable def Tv:R2:=fun x y H Q=>∃z i c,x=.str z∧y=.int i∧z.length≤sizeLine∧FD z.cps.toList i=some c∧Q (.str ⟨#[c]⟩) H
theorem kx:RW X (Pp X.K):=by
 intro value slice c_ s σ H x y v u Q I rx ry h hs
 obtain⟨p,xs,i,z,rfl,rfl,hq,he,q⟩:=h
 cases rx
 obtain⟨t,rfl⟩:=ry
 obtain⟨ic,r,pl,hz⟩:=I.list hq
 obtain⟨j,h1,h2,h3,h4,h5⟩:=AB he
 obtain⟨w,ew,Dj⟩:=r.get h2
 have hl:=r.length
 have hn:=sI
 have fin:EP X c_ σ Q w s:=⟨z,H,I,Dj,q⟩
 by_cases h0:0≤i
 ·have hj:i.toNat=j:=by
   rw[seqIndex_of h0 h5] at h1
   exact aao h1
  exact item_listR pl.isList h0 (by omega) (by rw[hj];simpa using ew) fin hs
 ·have hj:(i+(ic.toArray.size:Int)).toNat=j:=by
   rw[seqIndex_neg (by omega) h4] at h1
   rw[aaa,←hl]
   exact aao h1
  exact subscriptTail_builtinR (x:=w) pl.isList.typeIs slot_list_getitem.lookup
   (wpAny_getItem_list_neg (Q:=fun r s'=>r=w∧EP X c_ σ Q r s') pl.isList (by omega) (by rw[aaa]<;>omega) (by omega) (by rw[hj];simpa using ew) ⟨rfl,fin⟩) hs
theorem iF:RW X (Tu X.K):=by
 intro value slice c_ s σ H x y v u Q I rx ry h hs
 obtain⟨p,xs,i,z,rfl,rfl,hq,he,q⟩:=h
 cases rx
 obtain⟨t,rfl⟩:=ry
 obtain⟨ic,r,pl,hz⟩:=I.tuple hq
 obtain⟨j,h1,h2,h3,h4,h5⟩:=AB he
 obtain⟨w,ew,Dj⟩:=r.get h2
 have hl:=r.length
 have hn:=sI
 have fin:EP X c_ σ Q w s:=⟨z,H,I,Dj,q⟩
 exact subscriptTail_builtinR (x:=w) pl.typeIs slot_tuple_getitem.lookup
  (getItem_tuple (j:=j) (Q:=fun r s'=>r=w∧EP X c_ σ Q r s') pl (by omega) (by omega) (by rw[aaa,←hl];exact h1) (by simpa using ew) ⟨rfl,fin⟩) hs
theorem DU:RW X Tv:=by
 intro value slice c_ s σ H x y v u Q I rx ry h hs
 obtain⟨z,i,c,rfl,rfl,hz,he,q⟩:=h
 obtain⟨t,rfl⟩:=rx
 obtain⟨t',rfl⟩:=ry
 obtain⟨j,h1,h2,h3,h4,h5⟩:=AB he
 have hl:z.cps.toList.length=z.length:=by simp[Str.length]
 rw[hl] at h1 h4 h5
 have hn:=sI
 exact tail_any (typeIs_str s z t) slot_str_getitem.lookup (getItem_str (c:=c) (by
  have e1:decide (i < -(2 ^ 63:Int))=false:=aab (by omega)
  have e2:decide (i≥2 ^ 63)=false:=aab (by omega)
  rw[e1,e2,Bool.or_false]) (by rw[h1];simpa using h2) ⟨.str ⟨#[c]⟩,H,I.tok _,⟨_,rfl⟩,q⟩) hs
theorem DV(ic:List Value)(n j:Nat)(u:Value):Obj.mapSeq (·.setIfInBounds j u) {cls:=.type "list",data:=.seq ic.toArray n}={cls:=.type "list",data:=.seq (ic.set j u).toArray n}:=by
 simp[Obj.mapSeq]
theorem Inv.lst{c_:Qqz}{σ:St}{H:Hp}{s:Shared}{p:Addr}{xs:List V}(I:Inv X c_ σ H s)(h:H p=some (.lst xs)) :
  ∃(ic:List Value)(n:Nat),Vals xs ic∧s.heap.get? p=some {cls:=.type "list",data:=.seq ic.toArray n}∧xs.length≤sizeLine:=by
 obtain⟨z,ic,n,r,e⟩:=I.iM p _ h
 exact⟨ic,n,r,e,z⟩
theorem Inv.Mv{c_:Qqz}{σ:St}{H:Hp}{s:Shared}{p:Addr}{xs ys:List V}{ic its':List Value}{n n':Nat}{f:Obj→Obj}(I:Inv X c_ σ H s)(h:H p=some (.lst xs))
  (ho:s.heap.get? p=some {cls:=.type "list",data:=.seq ic.toArray n}) (hf:f {cls:=.type "list",data:=.seq ic.toArray n}={cls:=.type "list",data:=.seq its'.toArray n'}) (r:Vals ys its') (hz:ys.length≤sizeLine) (t:Nat) :
  Inv X c_ σ (upd H p (.lst ys)) {s with heap:=s.heap.update p f,toks:=t}:=by
 have e:(s.heap.update p f).get? p=some {cls:=.type "list",data:=.seq its'.toArray n'}:=by
  rw[aa3 f ho (by rw[hf]<;>rfl),hf]
 refine I.write (x:=p) (e:=p) (by rw[h];trivial) (.inl rfl) (fun b u hb q=>(abK _ _ (abA hb)).trans q) ⟨_,e⟩ ?_
 exact⟨hz,its',n',r,e⟩
noncomputable def Pq:V→V→V→Hp→(Hp→Prop)→Prop:=fun o i v H Q=>∃p xs k j,o=.ref p∧i=.int k∧H p=some (.lst xs)∧G9 xs.length k=some j∧Q (upd H p (.lst (xs.set j v)))
theorem set_list:Pb X Pq:=by
 intro c_ s σ H o i v ov iv u Q I ro ri rv h
 obtain⟨p,xs,k,j,rfl,rfl,hp,hj,q⟩:=h
 cases ro
 obtain⟨t,rfl⟩:=ri
 obtain⟨ic,n,r,ho,hz⟩:=I.lst hp
 obtain⟨h1,h2,h3,h4⟩:=EU hj
 have hl:=r.length
 have hn:=sI
 have I':Inv X c_ σ (upd H p (.lst (xs.set j v))) {s with heap:=s.heap.update p (Obj.mapSeq (·.setIfInBounds j u))}:=
  I.Mv hp ho (DV ic n j u) (r.set rv j) (by rw[ach];exact hz) s.toks
 by_cases h0:0≤k
 ·have hk:k.toNat=j:=by
   rw[seqIndex_of h0 h4] at h1
   exact aao h1
  exact W.ki_setAt ho h0 (by omega) (by rw[aaa,←hl];exact h4) (by rw[hk];exact⟨_,I',q⟩)
 ·have hk:(k+(ic.toArray.size:Int)).toNat=j:=by
   rw[seqIndex_neg (by omega) h3] at h1
   rw[aaa,←hl]
   exact aao h1
  exact W.ki_setBack ho (by omega) (by rw[aaa,←hl];exact h3) (by omega) (by rw[hk];exact⟨_,I',q⟩)
theorem AD(lo hi:Option Int)(n:Nat):(sliceBounds lo hi none n).1=((HT.Cf n 0 lo:Nat):Int)∧(sliceBounds lo hi none n).2.1=((HT.Cf n n hi:Nat):Int)∧(sliceBounds lo hi none n).2.2=1:=by
 refine⟨?_,?_,rfl⟩
 ·cases lo with
  | none=>simp[sliceBounds,HT.Cf]
  | some i=>
   simp only [sliceBounds,HT.Cf,Option.getD_none,show(1:Int)>0 by decide,if_true]
   by_cases h:i<0
   ·simp only [h,if_true]<;>omega
   ·simp only [h,ab3]<;>omega
 ·cases hi with
  | none=>simp[sliceBounds,HT.Cf]
  | some i=>
   simp only [sliceBounds,HT.Cf,Option.getD_none,show(1:Int)>0 by decide,if_true]
   by_cases h:i<0
   ·simp only [h,if_true]<;>omega
   ·simp only [h,ab3]<;>omega
theorem y_(ic:List Value)(lo hi:Option Int):slicePick ic.toArray lo hi none=((ic.drop (HT.Cf ic.length 0 lo)).take (HT.Cf ic.length ic.length hi-HT.Cf ic.length 0 lo)).toArray:=by
 obtain⟨h1,h2,h3⟩:=AD lo hi ic.toArray.size
 unfold slicePick
 rw[h1,h2,h3]
 simp only [sliceRange_one,pick_run,aaa]<;>rfl
noncomputable def Tw(K:Qqy):V→Option Int→Option Int→Hp→VK→Prop:=fun x lo hi H Q=>∃a xs,x=.ref a∧ib K H a xs∧∀p,H p=none→Q (.ref p) (upd H p (.lst (pA xs lo hi)))
theorem l4:WH X (Tw X.K):=by
 intro c_ s σ H x v vl vu lo hi sl Q I rx hs pl pu h
 obtain⟨a,xs,rfl,hx,q⟩:=h
 cases rx
 obtain⟨ic,r,ht,hz⟩:=I.list hx
 have hlen:=r.length
 refine⟨"list",_,slot_list_getitem.lookup,ht.isList.typeIs,?_⟩
 refine wpAny_getItem_list_slice ht.isList hs pl pu .none (by simp) ?_ (by rw[aaa]<;>omega)
 rw[y_,←hlen]
 refine⟨.ref s.heap.objs.size,_,I.laid (t':=s.toks) (o:=.lst (pA xs lo hi)) (fun b ob q=>WN _ q) (TU _) ?_,rfl,q _ (I.iM.fresh (TU _))⟩
 exact⟨aac (Cg xs lo hi) hz,_,0,(r.drop (HT.Cf xs.length 0 lo)).take (HT.Cf xs.length xs.length hi-HT.Cf xs.length 0 lo),aat _ rfl⟩
noncomputable def qE:V→Bool
 | .iP=>true
 | .bl _=>true
 | .int _=>true
 | .str _=>true
 | _=>false
noncomputable def OE:V→V→Bool
 | .iP,.iP=>true
 | .bl a,.bl b=>a ==b
 | .bl a,.int b=>(if a then 1 else 0) ==b
 | .int a,.bl b=>a ==(if b then 1 else 0)
 | .int a,.int b=>a ==b
 | .str a,.str b=>a ==b
 | _,_=>false
theorem Mw{A:Around}{s:Shared}{y x:V}{u v:Value}(ry:RelV y u)(rx:RelV x v)(fy:qE y=true)(fx:qE x=true):SeqAt.EqAt A s u v (OE y x):=by
 cases y with
 | iP=>
  cases ry
  cases x with
  | iP=>cases rx;exact SeqAt.EqAt.same _
  | bl b=>cases rx;exact SeqAt.EqAt.none_bool b
  | int b=>obtain⟨t,rfl⟩:=rx;exact SeqAt.EqAt.none_int b t
  | str b=>obtain⟨t,rfl⟩:=rx;exact SeqAt.EqAt.none_str b t
  | _=>exact absurd (show false=true from fx) Z9
 | bl a=>
  cases ry
  cases x with
  | iP=>cases rx;exact SeqAt.EqAt.bool_none a
  | bl b=>cases rx;exact SeqAt.EqAt.bool_bool a b
  | int b=>obtain⟨t,rfl⟩:=rx;exact SeqAt.EqAt.bool_int a b t
  | str b=>obtain⟨t,rfl⟩:=rx;exact SeqAt.EqAt.bool_str a b t
  | _=>exact absurd (show false=true from fx) Z9
 | int a=>
  obtain⟨t',rfl⟩:=ry
  cases x with
  | iP=>cases rx;exact SeqAt.EqAt.int_none a t'
  | bl b=>cases rx;exact SeqAt.EqAt.int_bool a t' b
  | int b=>obtain⟨t,rfl⟩:=rx;exact SeqAt.EqAt.int_int a t' b t
  | str b=>obtain⟨t,rfl⟩:=rx;exact SeqAt.EqAt.int_str a t' b t
  | _=>exact absurd (show false=true from fx) Z9
 | str a=>
  obtain⟨t',rfl⟩:=ry
  cases x with
  | iP=>cases rx;exact SeqAt.EqAt.str_none a t'
  | bl b=>cases rx;exact SeqAt.EqAt.str_bool a t' b
  | int b=>obtain⟨t,rfl⟩:=rx;exact SeqAt.EqAt.str_int a t' b t
  | str b=>obtain⟨t,rfl⟩:=rx;exact SeqAt.EqAt.str_str a t' b t
  | _=>exact absurd (show false=true from fx) Z9
 | _=>exact absurd (show false=true from fy) Z9
theorem gg:vI X (.builtin "len") (fun xs H Q=>∃p ys,xs=[.ref p]∧(ib X.K H p ys∨lJ X.K H p ys)∧Q (.int ys.length) H):=by
 intro c_ s σ H xs us Q I r h
 obtain⟨p,ys,rfl,hq,q⟩:=h
 obtain⟨u,rfl,rx⟩:=vals1 r
 cases rx
 have hn:=sI
 rcases hq with hq|hq
 ·obtain⟨ic,r',pl,hz⟩:=I.list hq
  have hlen:=r'.length
  exact Calls.call_len_list pl.isList (by simp only [aaa]<;>omega) ⟨.int ys.length,H,I.tok _,⟨s.toks+1,by rw[aaa,hlen]⟩,q⟩
 ·obtain⟨ic,r',pl,hz⟩:=I.tuple hq
  have hlen:=r'.length
  exact len_tuple pl (by simp only [aaa]<;>omega) ⟨.int ys.length,H,I.tok _,⟨s.toks+1,by rw[aaa,hlen]⟩,q⟩
theorem tQ:vI X (.builtin "len") (fun xs H Q=>∃z,xs=[.str z]∧z.length≤sizeLine∧Q (.int z.length) H):=by
 intro c_ s σ H xs us Q I r h
 obtain⟨z,rfl,hz,q⟩:=h
 obtain⟨u,rfl,t,rfl⟩:=vals1 r
 have hn:=sI
 exact len_str (by omega) ⟨.int z.length,H,I.tok _,⟨_,rfl⟩,q⟩
theorem tR:vI X (.type "list") (fun xs H Q=>∃p ys,xs=[.ref p]∧(ib X.K H p ys∨lJ X.K H p ys)∧∀l,H l=none→Q (.ref l) (upd H l (.lst ys))):=by
 intro c_ s σ H xs us Q I r h
 obtain⟨p,ys,rfl,hq,q⟩:=h
 obtain⟨u,rfl,rx⟩:=vals1 r
 cases rx
 have fin:∀(ic:List Value),Vals ys ic→ys.length≤sizeLine→∀(h':Heap)(c':Nat),(∀b o',s.heap.get? b=some o'→h'.get? b=some o')→
   h'.get? s.heap.objs.size=some {cls:=.type "list",dict:=none,data:=.seq ic.toArray c',slots:=#[]}→EP X c_ σ Q (.ref s.heap.objs.size) {s with heap:=h'}:=fun ic r' hz h' c' kp e=>
  ⟨.ref s.heap.objs.size,_,I.laid (t':=s.toks) kp (TU _) (show i9 X.prog X.w _ h' _ (.lst ys) from ⟨hz,ic,c',r',e⟩),rfl,q _ (I.iM.fresh (TU _))⟩
 rcases hq with hq|hq
 ·obtain⟨ic,r',pl,hz⟩:=I.list hq
  have hlen:=r'.length
  obtain⟨o,ho,hc,n,hd⟩:=pl.isList
  exact call_list_seq p (.inl rfl) ho hc hd (fun h' c' kp e=>fin ic r' hz h' c' kp e) (by simp only [aaa]<;>omega)
 ·obtain⟨ic,r',pl,hz⟩:=I.tuple hq
  have hlen:=r'.length
  obtain⟨o,ho,hc,n,hd⟩:=pl
  exact call_list_seq p (.inr rfl) ho hc hd (fun h' c' kp e=>fin ic r' hz h' c' kp e) (by simp only [aaa]<;>omega)
def Tx(K:Qqy)(T:String)(x:V)(H:Hp):Prop:=match x with
 | .str _=>T="str"
 | .int _=>T="int"
 | .ref p=>(T="list"∧∃xs,ib K H p xs)∨(T="tuple"∧∃o,K.lookup p=some o∧o.cls=.type "tuple"∧o.dict=none)∨
  (T="dict"∧((∃kvs,H p=some (.dK kvs))∨∃kvs,H p=some (.dT kvs)))∨(T="set"∧∃S n,H p=some (.set S n))
 | _=>False
theorem Hc{c_:Qqz}{σ:St}{H:Hp}{s:Shared}{T:String}{x:V}{v:Value}(I:Inv X c_ σ H s)(r:RelV x v)(ty:Tx X.K T x H) :
  s.TypeIs v T∧∀a,v=.ref a→∃ob,s.heap.get? a=some ob∧ob.dict=none:=by
 cases x with
 | str z=>
  obtain⟨t,rfl⟩:=r
  cases (show T="str" from ty)
  exact⟨typeIs_str s z t,fun _ e=>nomatch e⟩
 | int i=>
  obtain⟨t,rfl⟩:=r
  cases (show T="int" from ty)
  exact⟨typeIs_int s i t,fun _ e=>nomatch e⟩
 | ref p=>
  cases r
  rcases ty with⟨rfl,xs,hq⟩|⟨rfl,o,hk,hc,hd⟩|⟨rfl,hk⟩|⟨rfl,S,n,hk⟩
  ·obtain⟨ic,_,pl,_⟩:=I.list hq
   refine⟨pl.isList.typeIs,fun a e=>?_⟩
   cases e
   obtain⟨o,n,e,c,hd,_⟩:=pl
   exact⟨o,e,hd⟩
  ·refine⟨⟨o,I.vH p o hk,hc⟩,fun a e=>?_⟩
   cases e
   exact⟨o,I.vH _ o hk,hd⟩
  ·have z:∃o,s.heap.get? p=some o∧o.ExactDict:=by
    rcases hk with⟨kvs,hk⟩|⟨kvs,hk⟩
    ·obtain⟨_,_,_,_,o,_,_,e,ex,_⟩:=I.iM p _ hk
     exact⟨o,e,ex⟩
    ·obtain⟨_,_,_,_,o,_,_,e,ex,_⟩:=I.iM p _ hk
     exact⟨o,e,ex⟩
   obtain⟨o,e,ex⟩:=z
   refine⟨⟨o,e,ex.1⟩,fun a e2=>?_⟩
   cases e2
   exact⟨o,e,ex.2.1⟩
  ·obtain⟨o,_,_,_,e,ex,_⟩:=I.iM p _ hk
   refine⟨⟨o,e,ex.1⟩,fun a e2=>?_⟩
   cases e2
   exact⟨o,e,ex.2.1⟩
 | _=>exact False.elim ty
def Tz(K:Qqy)(T:String)(r:V→List V→Hp→VK→Prop)(to:TE):TE:=fun σ H Q=>to σ H fun x H1=>Tx K T x H1∧r x [] H1 Q
def ZY(K:Qqy)(T:String)(r:V→List V→Hp→VK→Prop)(to:TE)(t:TA):TE:=fun σ H Q=>to σ H fun x H1=>Tx K T x H1∧t σ H1 fun xs H2=>r x xs H2 Q
variable{o e:Expr}{es:List Expr}{to:TE}{t:TA}{name:Str}{apos kX:Pos}{T id:String}{r:V→List V→Hp→VK→Prop}
theorem Mx(pa:PlainAttrs T)(slot:Slot T name id)(Qw:typeOf (.builtin id)=pure (.type "method_descriptor"))(hm:Tt X id r)(ho:PE X o to)
  (IL:attributeBase o name X.env (eval o X.env)=eval o X.env:=by rfl) (IM:(apos.endLine ==kX.line)=true:=by rfl):PE X (.Call (.Attribute o name apos) [] [] kX) (Tz X.K T r to):=by
 intro c_ s σ H Q I h
 refine wpAny_Call_method0_late IL IM (i6 (ho c_ s σ H _ I h) fun v s1 iI=>?_)
 obtain⟨x,H1,I1,r1,ty,q1⟩:=iI
 obtain⟨h1,h2⟩:=Hc I1 r1 ty
 exact⟨T,id,pa,slot,Qw,h1,h2,abn rfl (PySem.evalArgs_none (hm c_ s1 σ H1 x [] v [] Q I1 r1 .nil q1))⟩
theorem mW(pa:PlainAttrs T)(slot:Slot T name id)(Qw:typeOf (.builtin id)=pure (.type "method_descriptor"))(hm:Tt X id r)(ho:PE X o to)(ha:PA X (e::es) t)
  (IL:attributeBase o name X.env (eval o X.env)=eval o X.env:=by rfl)
  (Ul:((backTo kX (starEach (e::es) X.env)).all (fun x=>!x.1)&&(backToKw kX (keywordEach [] X.env)).all (fun x=>x.1.isSome)
   &&decide ((e::es).length+([]:List Keyword).length+(if([]:List Keyword).isEmpty then 0 else 1)<30))=true:=by rfl)
  (IM:(apos.endLine ==kX.line)=true:=by rfl) (hs:starEach (e::es) X.env=(false,eval e X.env)::starEach es X.env:=by rfl) (NW:(backTo kX (starEach es X.env)).any (·.1)=false:=by rfl) :
  PE X (.Call (.Attribute o name apos) (e::es) [] kX) (ZY X.K T r to t):=by
 intro c_ s σ H Q I h
 refine wpAny_Call_method_late IL Ul IM rfl (i6 (ho c_ s σ H _ I h) fun v s1 iI=>?_)
 obtain⟨x,H1,I1,r1,ty,q1⟩:=iI
 obtain⟨h1,h2⟩:=Hc I1 r1 ty
 refine⟨T,id,pa,slot,Qw,h1,h2,?_⟩
 have hA:=ha kX c_ s1 σ H1 _ I1 q1
 rw[hs] at hA ⊢
 refine abn (by show(false||(backTo kX (starEach es X.env)).any (·.1))=false;rw[NW]<;>rfl) (abD ?_)
 exact i6 hA fun us s2 ⟨vs,H2,I2,r2,q2⟩=>hm c_ s2 σ H2 x vs v us Q I2 r1 r2 q2
end
def TB(X:Cx)(id:String)(r:V→List V→Hp→VK→Prop):Prop:=
 ∀(c_:Qqz)(s:Shared)(σ:St)(H:Hp)(x:V)(xs:List V)(v:Value)(us:List Value)(Q:VK),Inv X c_ σ H s→RelV x v→Vals xs us→r x xs H Q→
  wpAny (model X.prog X.w) X.A (call (.builtin id) (v::us)) (EP X c_ σ Q) X.xe s
theorem Vals.one:∀{x:V} {us:List Value},Vals [x] us→∃u,us=[u]∧RelV x u
 | _,_,.cons r .nil=>⟨_,rfl,r⟩
theorem Vals.zero:∀{us:List Value},Vals [] us→us=[]
 | _,.nil=>rfl
theorem Vals.dropLast{xs:List V}{us:List Value}(h:Vals xs us):Vals xs.dropLast us.dropLast:=by
 induction h with
 | nil=>exact .nil
 | cons r t ih=>
  cases t with
  | nil=>exact .nil
  | cons q t'=>exact .cons r ih
theorem Vals.rep{xs:List V}{us:List Value}(h:Vals xs us):∀k:Nat,Vals (List.replicate k xs).flatten (List.replicate k us).flatten
 | 0=>.nil
 | k+1=>by
  rw[aa4,aa4,abS,abS]
  exact Vals.append h (Vals.rep h k)
theorem DW{α:Type}(l:List α):l.eraseIdx (l.length-1)=l.dropLast:=by
 induction l with
 | nil=>rfl
 | cons a r ih=>
  cases r with
  | nil=>rfl
  | cons b r=>
   have e:(a::b::r).length-1=((b::r).length-1)+1:=by
    have h1:(a::b::r).length=r.length+2:=rfl
    have h2:(b::r).length=r.length+1:=rfl
    omega
   rw[e,List.eraseIdx_cons_succ,ih]
   all_goals rfl
theorem foldl_rep(ic:List Value):∀(k:Nat)(acc:List Value),
  List.foldl (fun x1 x2=>x1++x2) acc.toArray (List.replicate k ic.toArray)=(acc++(List.replicate k ic).flatten).toArray
 | 0,acc=>by simp
 | k+1,acc=>by
  have e:acc.toArray++ic.toArray=(acc++ic).toArray:=by simp
  have e2:(acc++ic)++(List.replicate k ic).flatten=acc++(List.replicate (k+1) ic).flatten:=by
   rw[aa4,abS,aaL]
  rw[←e2,←foldl_rep ic k (acc++ic),←e,aa4,List.foldl_cons]
section
variable{X:Cx}{c_:Qqz}{σ:St}{H:Hp}{s:Shared}{l b:Addr}{xs ys zs:List V}
theorem Inv.My{ic its':List Value}{n:Nat}{f:Array Value→Array Value}{t':Nat}(I:Inv X c_ σ H s)(hH:H l=some (.lst xs))
  (e:s.heap.get? l=some {cls:=.type "list",data:=.seq ic.toArray n}) (hf:f ic.toArray=its'.toArray) (hv:Vals ys its') (hz:ys.length≤sizeLine) :
  Inv X c_ σ (upd H l (.lst ys)) {s with heap:=s.heap.update l (Obj.mapSeq f),toks:=t'}:=by
 have q:=PySem.IsL.update e f
 rw[hf] at q
 refine I.write (x:=l) (e:=l) (by rw[hH];exact trivial) (.inl rfl) (fun b' u hb hu=>(abK s.heap (Obj.mapSeq f) (abA hb)).trans hu) ⟨_,q⟩ ?_
 exact⟨hz,its',_,hv,q⟩
theorem Inv.JY{ic:List Value}{t':Nat}(I:Inv X c_ σ H s)(hv:Vals ys ic)(hz:ys.length≤sizeLine) :
  Inv X c_ σ (upd H s.heap.objs.size (.lst ys)) {s with heap:=s.heap.push {cls:=.type "list",data:=.seq ic.toArray},toks:=t'}:=
 I.laid (fun _ _ q=>WN _ q) (TU _) ⟨hz,ic,0,hv,aat _ rfl⟩
theorem Inv.fresh(I:Inv X c_ σ H s):H s.heap.objs.size=none:=I.iM.fresh (TU _)
theorem Inv.DX(I:Inv X c_ σ H s)(hH:H l=some (.lst xs)):xs.length≤sizeLine∧∃(ic:List Value)(n:Nat),Vals xs ic∧xs.length=ic.length∧s.heap.get? l=some {cls:=.type "list",data:=.seq ic.toArray n}:=by
 obtain⟨z,ic,n,r,e⟩:=I.iM l _ hH
 exact⟨z,ic,n,r,r.length,e⟩
theorem Ci{n:Nat}(h:n≤sizeLine):Builtin.List.listTooLong n=false:=by
 unfold Builtin.List.listTooLong
 exact aab (by omega)
end
section
variable{X:Cx}
noncomputable def JZ:V→List V→Hp→VK→Prop:=fun x vs H Q=>∃l xs y,x=.ref l∧vs=[y]∧H l=some (.lst xs)∧xs.length<sizeLine∧Q .iP (upd H l (.lst (xs++[y])))
theorem jx:TB X "list.append" JZ:=by
 intro c_ s σ H x vs v us Q I rx rv h
 obtain⟨l,xs,y,rfl,rfl,hH,hz,q⟩:=h
 cases rx
 obtain⟨u,rfl,ru⟩:=rv.one
 obtain⟨z,ic,n,r,hl,e⟩:=I.DX hH
 refine call_meets F.slot_list_append ⟨_,e,rfl⟩ F.entry_list_append (F.args_list_append_2 _ _) (PySem.list_append l ic.toArray n u (by rw[aaa];omega)) ⟨e,?_⟩
 refine⟨.iP,_,I.My (its':=ic++[u]) hH e (by simp) (r.append (.cons ru .nil)) ?_,rfl,q⟩
 rw[TZ,List.length_singleton]
 omega
noncomputable def J0:V→List V→Hp→VK→Prop:=fun x vs H Q=>∃l b xs zs,x=.ref l∧vs=[.ref b]∧H l=some (.lst xs)∧H b=some (.lst zs)∧xs.length+zs.length≤sizeLine∧Q .iP (upd H l (.lst (xs++zs)))
theorem zI:TB X "list.extend" J0:=by
 intro c_ s σ H x vs v us Q I rx rv h
 obtain⟨l,b,xs,zs,rfl,rfl,hH,hB,hz,q⟩:=h
 cases rx
 obtain⟨u,rfl,ru⟩:=rv.one
 cases ru
 obtain⟨z,ic,n,r,hl,e⟩:=I.DX hH
 obtain⟨z2,lG,n2,r2,IP,e2⟩:=I.DX hB
 have hsz:ic.toArray.size+lG.toArray.size≤sizeLine:=by rw[aaa,aaa];omega
 have IQ:¬(!ic.toArray.isEmpty&&Builtin.List.listTooLong (ic.toArray.size+lG.toArray.size))=true:=by
  rw[Ci hsz,Bool.and_false]
  exact Z9
 refine call_meets F.slot_list_extend ⟨_,e,rfl⟩ F.entry_list_extend (F.args_list_extend_2 _ _)
  (AutoSeq1.list_extend_list_list_0 l ic.toArray n b lG.toArray n2 IQ (by rw[aaa];omega) (by omega)) ⟨e,e2,?_⟩
 refine⟨.iP,_,I.My (its':=ic++lG) hH e (by simp) (r.append r2) ?_,rfl,q⟩
 rw[TZ]
 omega
noncomputable def TC:V→List V→Hp→VK→Prop:=fun x vs H Q=>∃l xs y,x=.ref l∧vs=[]∧H l=some (.lst xs)∧xs[xs.length-1]?=some y∧Q y (upd H l (.lst xs.dropLast))
theorem Mz:TB X "list.pop" TC:=by
 intro c_ s σ H x vs v us Q I rx rv h
 obtain⟨l,xs,y,rfl,rfl,hH,hy,q⟩:=h
 cases rx
 have hus:=rv.zero
 subst hus
 obtain⟨z,ic,n,r,hl,e⟩:=I.DX hH
 obtain⟨u,hu,ru⟩:=r.get hy
 have R7:ic.toArray[ic.toArray.size-1]?=some u:=by
  show ic.toArray[ic.length-1]?=some u
  rw[←aa5,←hl]
  exact hu
 refine call_meets F.slot_list_pop ⟨_,e,rfl⟩ F.entry_list_pop (F.args_list_pop_1 _) (MeetsSeq.list_pop_last l ic.toArray n u R7 (by rw[aaa];omega)) ⟨e,?_⟩
 refine⟨y,_,I.My (its':=ic.dropLast) hH e ?_ r.dropLast ?_,ru,q⟩
 ·show ic.toArray.eraseIdxIfInBounds (ic.toArray.size-1)=ic.dropLast.toArray
  rw[aaa,List.eraseIdxIfInBounds_toArray,DW]
 ·rw[List.length_dropLast]
  omega
noncomputable def TF:R2:=fun x y H Q=>∃l b xs zs,x=.ref l∧y=.ref b∧H l=some (.lst xs)∧H b=some (.lst zs)∧xs.length+zs.length≤sizeLine∧∀p,H p=none→Q (.ref p) (upd H p (.lst (xs++zs)))
theorem mX:wN X (binaryOp .Add) TF:=by
 intro c_ s σ H x y v u Q I rx ry h
 obtain⟨l,b,xs,zs,rfl,rfl,hH,hB,hz,q⟩:=h
 cases rx
 cases ry
 obtain⟨z,ic,n,r,hl,e⟩:=I.DX hH
 obtain⟨z2,lG,n2,r2,IP,e2⟩:=I.DX hB
 refine PySem.P.add_list e e2 ?_ (by rw[aaa,aaa];omega)
 have ea:ic.toArray++lG.toArray=(ic++lG).toArray:=by simp
 rw[ea]
 exact⟨.ref _,_,I.JY (t':=s.toks) (r.append r2) (by rw[TZ];omega),rfl,q _ I.fresh⟩
noncomputable def TH:R2:=fun x y H Q=>∃l k xs,x=.ref l∧y=.int k∧H l=some (.lst xs)∧-(2 ^ 63)≤k∧k<2 ^ 63∧xs.length*k.toNat≤sizeLine∧
 ∀p,H p=none→Q (.ref p) (upd H p (.lst (List.replicate k.toNat xs).flatten))
theorem len_rep{α:Type}(xs:List α)(k:Nat):(List.replicate k xs).flatten.length=k*xs.length:=by
 induction k with
 | zero=>simp
 | succ k ih=>rw[aa4,abS,TZ,ih,Nat.succ_mul,Nat.add_comm]
theorem DY:wN X (binaryOp .Mult) TH:=by
 intro c_ s σ H x y v u Q I rx ry h
 obtain⟨l,k,xs,rfl,rfl,hH,h1,h2,hz,q⟩:=h
 cases rx
 obtain⟨t,rfl⟩:=ry
 obtain⟨z,ic,n,r,hl,e⟩:=I.DX hH
 have hlen:ic.toArray.size*k.toNat≤sizeLine:=by rw[aaa,←hl];exact hz
 have Um:¬ic.toArray.size*k.toNat>(2 ^ 63-1)/8:=by
  have:(sizeLine:Nat)≤(2 ^ 63-1)/8:=by decide
  omega
 have Uo:¬(!Builtin.List.listFitsIndex k)=true:=by
  rw[fitsIndex_both h1 h2]
  exact Z9
 have IQ:¬Builtin.List.listTooLong (ic.toArray.size*k.toNat)=true:=by
  rw[Ci hlen]
  exact Z9
 have Up:List.foldl (fun x1 x2=>x1++x2) #[] (List.replicate (if ic.toArray.isEmpty=true then 0 else k.toNat) ic.toArray)=(List.replicate k.toNat ic).flatten.toArray:=by
  have f0:∀m:Nat,List.foldl (fun x1 x2=>x1++x2) #[] (List.replicate m ic.toArray)=(List.replicate m ic).flatten.toArray:=fun m=>by
   have:=foldl_rep ic m []
   rw[List.nil_append] at this
   exact this
  rw[f0]
  cases ic with
  | nil=>simp
  | cons a r'=>rw[aai (by simp)]
 refine wpAny_binaryOp_repeat_ref (T:="list") (U:="int") (by decide) ⟨_,e,rfl⟩ (fun s'=>typeIs_int s' k t) noFill_list_mul F.fills_int_mul F.slot_int_rmul repeat_list F.slot_int_index.lookup
  (call_meets F.slot_int_rmul (typeIs_int s k t) F.entry_int_rmul (F.args_int_rmul_2 _ _) (int___rmul___int_list k t l ic.toArray n)
   ⟨e,rfl,⟨_,e,rfl⟩,call_meets F.slot_list_mul ⟨_,e,rfl⟩ F.entry_list_mul (F.args_list_mul_2 _ _) (AutoListH.list___mul___list_int_3 l ic.toArray n k t Uo Um IQ) ⟨e,?_⟩⟩)
 rw[Up]
 exact⟨.ref _,_,I.JY (t':=s.toks) (r.rep k.toNat) (by rw[len_rep,Nat.mul_comm];exact hz),rfl,q _ I.fresh⟩
end
section
variable{prog:Program}{w:World}{A:Around}{E:Qqq}{s:Shared}
end
section
variable{X:Cx}
end
section
variable{κ:Type}[DecidableEq κ]
noncomputable def iU(kvs:List (κ×V))(k:κ):Option V:=(kvs.find? fun kv=>decide (kv.1=k)).map (·.2)
noncomputable def putK(kvs:List (κ×V))(k:κ)(v:V):List (κ×V):=
 if(kvs.any fun kv=>decide (kv.1=k))=true then kvs.map (fun kv=>if kv.1=k then(kv.1,v) else kv) else kvs++[(k,v)]
noncomputable def kF(kvs:List (κ×V))(k:κ):List (κ×V):=kvs.filter fun kv=>decide (kv.1≠k)
theorem jf{p:κ×V}{r:List (κ×V)}{k:κ}(e:p.1=k):iU (p::r) k=some p.2:=by simp[iU,abw,e]
theorem jb{p:κ×V}{r:List (κ×V)}{k:κ}(e:¬p.1=k):iU (p::r) k=iU r k:=by simp[iU,abw,e]
theorem qF(k:κ):∀kvs:List (κ×V),(kvs.any fun kv=>decide (kv.1=k))=(iU kvs k).isSome
 | []=>rfl
 | p::r=>by
  rw[List.any_cons]
  by_cases e:p.1=k
  ·simp only [jf e,UN e,Bool.true_or,Option.isSome_some]
  ·rw[jb e,aab e,Bool.false_or];exact qF k r
theorem Cj(k j:κ)(y:V):∀kvs:List (κ×V),iU (kvs.map fun kv=>if kv.1=k then(kv.1,y) else kv) j=(iU kvs j).map fun x=>if j=k then y else x
 | []=>rfl
 | p::r=>by
  have ih:=Cj k j y r
  rw[aaq]
  by_cases h:p.1=k
  ·rw[aak h]
   by_cases e:p.1=j
   ·rw[jf (p:=(p.1,y)) e,jf e,abI,aak (e.symm.trans h)]
   ·rw[jb (p:=(p.1,y)) e,jb e,ih]
  ·rw[aai h]
   by_cases e:p.1=j
   ·rw[jf (p:=p) e,jf e,abI,aai (fun z=>h (e.trans z))]
   ·rw[jb (p:=p) e,jb e,ih]
theorem zJ(k j:κ)(y:V):∀kvs:List (κ×V),iU kvs k=none→iU (kvs++[(k,y)]) j=if j=k then some y else iU kvs j
 | [],_=>by
  by_cases e:k=j
  ·rw[aak e.symm];exact jf (p:=(k,y)) e
  ·rw[aai (fun z=>e z.symm)];exact jb (p:=(k,y)) e
 | p::r,hn=>by
  rw[List.cons_append]
  have hk:¬p.1=k:=fun z=>by rw[jf z] at hn;cases hn
  rw[jb hk] at hn
  have ih:=zJ k j y r hn
  by_cases e:p.1=j
  ·rw[jf e,jf e,aai (fun z=>hk (e.trans z))]
  ·rw[jb e,jb e,ih]
theorem j0(kvs:List (κ×V))(k j:κ)(y:V):iU (putK kvs k y) j=if j=k then some y else iU kvs j:=by
 unfold putK
 by_cases a:(kvs.any fun kv=>decide (kv.1=k))=true
 ·rw[aak a,Cj]
  rw[qF] at a
  by_cases e:j=k
  ·obtain⟨x,hx⟩:=Option.isSome_iff_exists.mp a
   rw[aak e,e,hx,abI,aak rfl]
  ·rw[aai e]
   cases iU kvs j with
   | none=>rfl
   | some x=>rw[abI,aai e]
 ·rw[aai a]
  refine zJ k j y kvs ?_
  rw[qF] at a
  cases q:iU kvs k with
  | none=>rfl
  | some x=>rw[q] at a;exact(a rfl).elim
theorem jk(kvs:List (κ×V))(k:κ)(v:V):(putK kvs k v).length≤kvs.length+1:=by
 unfold putK
 split
 ·rw[QR];omega
 ·rw[TZ,WJ,List.length_nil];omega
theorem Ck{kvs:List (κ×V)}{k:κ}(v:V)(h:iU kvs k=none):putK kvs k v=kvs++[(k,v)]:=by
 unfold putK
 rw[qF,h]
 exact aai (by decide)
theorem pq.oK{o:Option V}{u:Option Value}(r:pq o u):o.isSome=u.isSome:=by
 cases o with
 | none=>cases u with
  | none=>rfl
  | some _=>exact(show False from r).elim
 | some _=>cases u with
  | none=>exact(show False from r).elim
  | some _=>rfl
theorem pq.getD{o:Option V}{u:Option Value}{d:V}{d':Value}(r:pq o u)(rd:RelV d d'):RelV (o.getD d) (u.getD d'):=by
 cases o with
 | none=>cases u with
  | none=>exact rd
  | some _=>exact(show False from r).elim
 | some _=>cases u with
  | none=>exact(show False from r).elim
  | some _=>exact r
theorem KV.val{kvs:List (κ×V)}{vs:List (κ×Value)}(r:KV kvs vs)(k:κ):pq (iU kvs k) (valueAt vs k):=by
 unfold KV at r
 induction r with
 | nil=>exact True.intro
 | @cons p q ps qs h t ih=>
  obtain⟨h1,h2⟩:=h
  by_cases e:p.1=k
  ·have e':q.1=k:=h1.symm.trans e
   have b:valueAt (q::qs) k=some q.2:=by simp[valueAt,abw,e']
   rw[jf e,b];exact h2
  ·have e':¬q.1=k:=fun z=>e (h1.trans z)
   have b:valueAt (q::qs) k=valueAt qs k:=by simp[valueAt,abw,e']
   rw[jb e,b];exact ih
theorem KV.any{kvs:List (κ×V)}{vs:List (κ×Value)}(r:KV kvs vs)(k:κ):(kvs.any fun kv=>decide (kv.1=k))=vs.any fun kv=>decide (kv.1=k):=by
 unfold KV at r
 induction r with
 | nil=>rfl
 | cons h t ih=>rw[List.any_cons,List.any_cons,ih,h.1]
theorem KV.MA{kvs:List (κ×V)}{vs:List (κ×Value)}(r:KV kvs vs)(k:κ){y:V}{u:Value}(ry:RelV y u) :
  KV (kvs.map fun kv=>if kv.1=k then(kv.1,y) else kv) (vs.map fun kv=>if kv.1=k then(kv.1,u) else kv):=by
 unfold KV at r ⊢
 induction r with
 | nil=>exact .nil
 | @cons p q ps qs h t ih=>
  rw[aaq,aaq]
  refine .cons ?_ ih
  obtain⟨h1,h2⟩:=h
  by_cases e:p.1=k
  ·rw[aak e,aak (h1.symm.trans e)];exact⟨h1,ry⟩
  ·rw[aai e,aai (fun z=>e (h1.trans z))];exact⟨h1,h2⟩
theorem KV.put{kvs:List (κ×V)}{vs:List (κ×Value)}(r:KV kvs vs)(k:κ){y:V}{u:Value}(ry:RelV y u):KV (putK kvs k y) (stored vs k u):=by
 unfold putK stored
 rw[r.any k]
 by_cases e:(vs.any fun kv=>decide (kv.1=k))=true
 ·rw[aak e,aak e];exact r.MA k ry
 ·rw[aai e,aai e];exact Paired.snoc r ⟨rfl,ry⟩
theorem KV.length{kvs:List (κ×V)}{vs:List (κ×Value)}(r:KV kvs vs):kvs.length=vs.length:=aad r
theorem Hd(kvs:List (κ×V))(k:κ):(kF kvs k).length≤kvs.length:=aaU _ _
end
theorem zK{P:Program}{w:World}{k:Key}{u:Value}(r:RelV (kV k) u):(jg P w).is k u=true:=by
 cases k with
 | inl i=>obtain⟨t,e⟩:=(show ∃t,u=Value.int i t from r);subst e;exact B3 P w i t
 | inr x=>obtain⟨t,e⟩:=(show ∃t,u=Value.str x t from r);subst e;exact B4 P w x t
theorem zL{P:Program}{w:World}:∀{ks:List Key} {us:List Value},Vals (ks.map kV) us→ItemsAre (jg P w) ks us
 | [],_,r=>by rw[List.map_nil] at r;cases r;exact .nil
 | k::ks,_,r=>by
  rw[aaq] at r
  cases r with
  | cons h t=>exact .cons (zK h) (zL t)
abbrev KT(H:Hp):List (List Key×V)→List (List Key×Addr×Value)→Prop:=Paired fun p q=>p.1=q.1∧H q.2.1=some (.tup (p.1.map kV))∧RelV p.2 q.2.2
theorem KT.val{H:Hp}{kvs:List (List Key×V)}{xs:List (List Key×Addr×Value)}(r:KT H kvs xs)(k:List Key):pq (iU kvs k) ((atKey xs k).map (·.2)):=by
 induction r with
 | nil=>exact True.intro
 | @cons p q ps qs h t ih=>
  obtain⟨h1,_,h2⟩:=h
  by_cases e:p.1=k
  ·have e':q.1=k:=h1.symm.trans e
   have b:atKey (q::qs) k=some q.2:=by simp[atKey,abw,e']
   rw[jf e,b];exact h2
  ·have e':¬q.1=k:=fun z=>e (h1.trans z)
   have b:atKey (q::qs) k=atKey qs k:=by simp[atKey,abw,e']
   rw[jb e,b];exact ih
theorem KT.MA{H:Hp}{kvs:List (List Key×V)}{xs:List (List Key×Addr×Value)}(r:KT H kvs xs)(k:List Key){y:V}{u:Value}(ry:RelV y u) :
  KT H (kvs.map fun kv=>if kv.1=k then(kv.1,y) else kv) (xs.map (putAt k u)):=by
 induction r with
 | nil=>exact .nil
 | @cons p q ps qs h t ih=>
  rw[aaq,aaq]
  refine .cons ?_ ih
  obtain⟨h1,h2,h3⟩:=h
  unfold putAt
  by_cases e:p.1=k
  ·rw[aak e,aak (h1.symm.trans e)];exact⟨h1,h2,ry⟩
  ·rw[aai e,aai (fun z=>e (h1.trans z))];exact⟨h1,h2,h3⟩
theorem KT.put{H:Hp}{kvs:List (List Key×V)}{xs:List (List Key×Addr×Value)}(r:KT H kvs xs)(k:List Key){b:Addr}{y:V}{u:Value}(hb:H b=some (.tup (k.map kV)))(ry:RelV y u) :
  KT H (putK kvs k y) (storedH xs k b u):=by
 have e:(kvs.any fun kv=>decide (kv.1=k))=(atKey xs k).isSome:=by
  rw[qF,(r.val k).oK,Option.isSome_map]
 unfold putK storedH
 rw[e]
 by_cases q:(atKey xs k).isSome=true
 ·rw[aak q,aak q];exact r.MA k ry
 ·rw[aai q,aai q];exact Paired.snoc r ⟨rfl,hb,ry⟩
theorem KT.keeps{H H':Hp}{kvs:List (List Key×V)}{xs:List (List Key×Addr×Value)}(r:KT H kvs xs)(ht:∀b ys,H b=some (.tup ys)→H' b=some (.tup ys)):KT H' kvs xs:=
 Paired.jK r fun _ _ z=>⟨z.1,ht _ _ z.2.1,z.2.2⟩
section
variable{P:Program}{w:World}{H:Hp}{h:Heap}{a:Addr}
theorem LB{u:HO}(ok:qA P w H h)(e:Rd H a u):i9 P w H h a u:=e.ok ok
theorem vL{kvs:List (Key×V)}(ok:qA P w H h)(e:Rd H a (.dK kvs)):kvs.length≤sizeLine∧(a ==sysModules)=false∧∃vs,KV kvs vs∧h.DictOf (jg P w) a vs:=
 show i9 P w H h a (.dK kvs) from LB ok e
theorem LC{kvs:List (Key×V)}(ok:qA P w H h)(e:H a=some (.dK kvs)):kvs.length≤sizeLine∧(a ==sysModules)=false∧∃vs,KV kvs vs∧h.DictOf (jg P w) a vs:=vL ok (.inl e)
theorem sJ{ks:List Key}(ok:qA P w H h)(e:H a=some (.tup (ks.map kV))):(tupleKind (jg P w)).is h ks a:=by
 obtain⟨_,ic,r,o,h1,h2,n,h3⟩:=(show i9 P w H h a (.tup (ks.map kV)) from ok a _ e)
 exact⟨o,ic.toArray,n,h1,h2,h3,by simpa using zL r⟩
theorem vM{kvs:List (List Key×V)}(ok:qA P w H h)(e:Rd H a (.dT kvs)):kvs.length≤sizeLine∧(a ==sysModules)=false∧
  ∃xs,KT H kvs xs∧h.DictOfH (tupleKind (jg P w)) a xs:=by
 obtain⟨z,y,xs,r,o,es,ep,h1,h2,h3,h4,h5⟩:=(show i9 P w H h a (.dT kvs) from LB ok e)
 refine⟨z,y,xs,r,o,es,ep,h1,h2,h3,h4,fun x hx=>?_,h5⟩
 have all:∀{l:List (List Key×V)} {m:List (List Key×Addr×Value)},KT H l m→∀x∈m,(tupleKind (jg P w)).is h x.1 x.2.1:=by
  intro l m q
  induction q with
  | nil=>intro x hx;exact nomatch hx
  | @cons p q ps qs hq t ih=>
   intro x hx
   rcases WK.mp hx with e|hx
   ·subst e
    exact sJ ok (by rw[←hq.1];exact hq.2.1)
   ·exact ih x hx
 exact all r x hx
theorem He{kvs:List (List Key×V)}(ok:qA P w H h)(e:H a=some (.dT kvs)):kvs.length≤sizeLine∧(a ==sysModules)=false∧
 ∃xs,KT H kvs xs∧h.DictOfH (tupleKind (jg P w)) a xs:=vM ok (.inl e)
end
def js(H:Hp)(a:Addr)(y:V)(r:Option V):Prop:=
 (∃kvs k,Rd H a (.dK kvs)∧y=kV k∧r=iU kvs k)∨∃kvs k b,Rd H a (.dT kvs)∧y=.ref b∧H b=some (.tup (k.map kV))∧r=iU kvs k
def mY(H:Hp)(a:Addr)(y v:V)(H':Hp):Prop:=
 (∃kvs k,H a=some (.dK kvs)∧y=kV k∧kvs.length<sizeLine∧H'=upd H a (.dK (putK kvs k v)))∨
 ∃kvs k b,H a=some (.dT kvs)∧y=.ref b∧H b=some (.tup (k.map kV))∧kvs.length<sizeLine∧H'=upd H a (.dT (putK kvs k v))
theorem js.k{H:Hp}{a:Addr}{kvs:List (Key×V)}{k:Key}(e:H a=some (.dK kvs)):js H a (kV k) (iU kvs k):=.inl ⟨kvs,k,.inl e,rfl,rfl⟩
theorem js.t{H:Hp}{a b:Addr}{kvs:List (List Key×V)}{k:List Key}(e:H a=some (.dT kvs))(eb:H b=some (.tup (k.map kV))):js H a (.ref b) (iU kvs k):=.inr ⟨kvs,k,b,.inl e,rfl,eb,rfl⟩
theorem mY.k{H:Hp}{a:Addr}{kvs:List (Key×V)}{k:Key}{v:V}(e:H a=some (.dK kvs))(hl:kvs.length<sizeLine):mY H a (kV k) v (upd H a (.dK (putK kvs k v))):=.inl ⟨kvs,k,e,rfl,hl,rfl⟩
theorem mY.t{H:Hp}{a b:Addr}{kvs:List (List Key×V)}{k:List Key}{v:V}(e:H a=some (.dT kvs))(eb:H b=some (.tup (k.map kV)))(hl:kvs.length<sizeLine) :
 mY H a (.ref b) v (upd H a (.dT (putK kvs k v))):=.inr ⟨kvs,k,b,e,rfl,eb,hl,rfl⟩
section
variable{X:Cx}{c_:Qqz}{σ:St}{H:Hp}{s:Shared}{a:Addr}{y v:V}{u r:Value}{o:Option V}{A:Around}{E:Qqq}
theorem Inv.big(I:Inv X c_ σ H s):sysModules<s.heap.objs.size:=by
 have h:mainGlobals<s.heap.objs.size:=(I.mod.glob.keeps I.bk).lt
 exact Nat.lt_trans (by decide) h
theorem FE{Q:Qqq}(hu:A.units+1<cLine)(I:Inv X c_ σ H s)(g:js H a y (some v))(ry:RelV y u)(h:∀w' s',Inv X c_ σ H s'→RelV v w'→Q w' s') :
  wpAny (model X.prog X.w) A (getItem (.ref a) u) Q E s:=by
 rcases g with⟨kvs,k,e,ey,l⟩|⟨kvs,k,b,e,ey,eb,l⟩
 ·subst ey
  obtain⟨z,hd,vs,rel,dd⟩:=vL I.iM e
  obtain⟨w',hw,Dj⟩:=pq.some_of (v:=v) (o:=valueAt vs k) (by rw[l];exact rel.val k)
  exact wpAny_getItem_of (zK ry) dd.mapOf hw (h w' _ (I.tok _) Dj)
 ·subst ey
  cases (show u=Value.ref b from ry)
  obtain⟨z,hd,xs,rel,dd⟩:=vM I.iM e
  obtain⟨w',hw,Dj⟩:=pq.some_of (v:=v) (o:=(atKey xs k).map (·.2)) (by rw[l];exact rel.val k)
  obtain⟨p,hp,zx⟩:=Option.map_eq_some_iff.mp hw
  refine wpAny_getItem_heap (abz hu) (sJ I.iM eb) dd hp ?_
  rw[zx]
  exact h w' _ (I.tok _) Dj
theorem TJ{Q:Qqq}(hu:A.units+1<cLine)(I:Inv X c_ σ H s)(g:js H a y o)(ry:RelV y u)(h:∀s',Inv X c_ σ H s'→Q (.bool o.isSome) s') :
  wpAny (model X.prog X.w) A (compareOp .In u (.ref a)) Q E s:=by
 rcases g with⟨kvs,k,e,ey,l⟩|⟨kvs,k,b,e,ey,eb,l⟩
 ·subst ey
  obtain⟨z,hd,vs,rel,dd⟩:=vL I.iM e
  refine wpAny_in_of (zK ry) hd dd.mapOf ?_
  rw[←(rel.val k).oK,←l]
  exact h _ (I.tok _)
 ·subst ey
  cases (show u=Value.ref b from ry)
  obtain⟨z,hd,xs,rel,dd⟩:=vM I.iM e
  refine wpAny_in_heap (abz hu) (sJ I.iM eb) hd dd ?_
  have q:=(rel.val k).oK
  rw[Option.isSome_map] at q
  rw[←q,←l]
  exact h _ (I.tok _)
theorem J2{Q:Qqq}(hu:A.units+1<cLine)(I:Inv X c_ σ H s)(g:js H a y o)(ry:RelV y u)(h:∀s',Inv X c_ σ H s'→Q (.bool (!o.isSome)) s') :
  wpAny (model X.prog X.w) A (compareOp .NotIn u (.ref a)) Q E s:=by
 rcases g with⟨kvs,k,e,ey,l⟩|⟨kvs,k,b,e,ey,eb,l⟩
 ·subst ey
  obtain⟨z,hd,vs,rel,dd⟩:=vL I.iM e
  refine wpAny_notIn_of (zK ry) hd dd.mapOf ?_
  rw[←(rel.val k).oK,←l]
  exact h _ (I.tok _)
 ·subst ey
  cases (show u=Value.ref b from ry)
  obtain⟨z,hd,xs,rel,dd⟩:=vM I.iM e
  refine wpAny_notIn_heap (abz hu) (sJ I.iM eb) hd dd ?_
  have q:=(rel.val k).oK
  rw[Option.isSome_map] at q
  rw[←q,←l]
  exact h _ (I.tok _)
theorem tS{h':Heap}{t':Nat}{ob:HO}(I:Inv X c_ σ H s)(mu:Lv (H a))(hs:Heap.SameBut a s.heap h')(he:∃q,h'.get? a=some q)(new:i9 X.prog X.w (upd H a ob) h' a ob) :
  Inv X c_ σ (upd H a ob) {s with heap:=h',toks:=t'}:=
 I.write (x:=a) (e:=a) mu (.inl rfl) (fun b q hb z=>(hs.2 b hb).trans z) he new
theorem Hf{P:Program}{w:World}{H':Hp}{h':Heap}{kvs:List (Key×V)}{vs:List (Key×Value)}(z:kvs.length≤sizeLine)(hd:(a ==sysModules)=false)(rel:KV kvs vs)(dd:h'.DictOf (jg P w) a vs) :
 i9 P w H' h' a (.dK kvs):=⟨z,hd,vs,rel,dd⟩
theorem FF{H':Hp}{Q:Unit→Shared→Prop}(hu:A.units+1<cLine)(I:Inv X c_ σ H s)(g:mY H a y v H')(ry:RelV y u)(rv:RelV v r)(h:∀s',Inv X c_ σ H' s'→Q () s') :
  wpAny (model X.prog X.w) A (setItem (.ref a) u r) Q E s:=by
 rcases g with⟨kvs,k,e,ey,l,eH⟩|⟨kvs,k,b,e,ey,eb,l,eH⟩
 ·subst ey eH
  obtain⟨z,hd,vs,rel,dd⟩:=LC I.iM e
  have hz:vs.length≤sizeLine:=by rw[←rel.length];exact z
  have hl:(putK kvs k v).length≤sizeLine:=by have:=jk kvs k v;omega
  refine wpAny_setItem_pairs (hsz:=hz) (zK ry) dd fun h' NX hs=>h _ ?_
  have he:∃q,h'.get? a=some q:=let ⟨q,_,_,hq,_⟩:=NX;⟨q,hq⟩
  exact tS I (by rw[e];exact True.intro) hs he (Hf hl hd (rel.put k rv) NX)
 ·subst ey eH
  cases (show u=Value.ref b from ry)
  obtain⟨z,hd,xs,rel,dd⟩:=He I.iM e
  have hz:xs.length≤sizeLine:=by rw[←aad rel];exact z
  have hl:(putK kvs k v).length≤sizeLine:=by have:=jk kvs k v;omega
  refine wpAny_setItem_heap (hsz:=hz) (abz hu) (sJ I.iM eb) dd fun h' NX hs=>h _ ?_
  obtain⟨q,es,ep,hq,h2,h3,h4,_,h5⟩:=NX
  refine tS I (by rw[e];exact True.intro) hs ⟨q,hq⟩ ⟨hl,hd,_,(rel.put k eb rv).keeps fun c ys ec=>?_,q,es,ep,hq,h2,h3,h4,h5⟩
  rw[d_ (jc ec e (fun z=>nomatch z))]
  exact ec
end
section
variable{X:Cx}{c_:Qqz}{σ:St}{H:Hp}{s:Shared}{a:Addr}{kvs:List (Key×V)}{k:Key}{u:Value}{A:Around}{E:Qqq}
end
def MB(i:Expr):Prop:=∀ov iv,subscripted i false ov iv=operate [ov,iv] (getItem ov iv)
theorem J3{prog:Program}{w:World}{A:Around}{E:Qqq}{s:Shared}{env:Env}{value slice:Expr}{pos:Pos}{T id:String}{Q:Qqq}
  (hl:typeLookup (.type T) "__getitem__"=pure (some (.builtin id))) (hs:MB slice)
  (h:wpAny (model prog w) A (eval value env) (fun o s₁=>wpAny (model prog w) A (eval slice env) (fun i s₂=>s₂.TypeIs o T∧wpAny (model prog w) A (getItem o i) Q E s₂) E s₁) E s) :
  wpAny (model prog w) A (eval (.Subscript value slice pos) env) Q E s:=by
 refine Subscript_ (abr h (fun o s₁ h₁=>abr h₁ (fun i s₂ h₂=>?_) fun _ _ x=>x) fun _ _ x=>x)
 obtain⟨hT,h₂⟩:=h₂
 unfold subscriptTail
 refine QW ?_
 rw[getitemInPython_of_ne hT.not_modules]
 refine QW (ab6 hT hl ?_)
 have fin:wpAny (model prog w) A (subscripted slice false o i) (fun r s₃=>wpAny (model prog w) A (letTemporaryGo value o r >>= fun _=>pure r) Q E s₃) E s₂:=by
  rw[hs o i]
  exact wpAny_operating (abr h₂ (fun r s₃ h₃=>QW (wpAny_letTemporaryGo (aag h₃))) fun _ _ x=>x)
 first
  | exact aag (QW fin)
  | exact QW (aag (QW fin))
  | exact QW fin
theorem Cm{X:Cx}{c_:Qqz}{σ:St}{H:Hp}{s:Shared}{a:Addr}{y:V}{o:Option V}(I:Inv X c_ σ H s)(g:js H a y o):s.TypeIs (.ref a) "dict":=by
 rcases g with⟨kvs,k,e,_,_⟩|⟨kvs,k,b,e,_,_,_⟩
 ·obtain⟨_,_,vs,_,dd⟩:=vL I.iM e
  exact dd.typeIs
 ·obtain⟨_,_,xs,_,dd⟩:=vM I.iM e
  exact dd.typeIs
def LD(td ty:TE):TE:=fun σ H Q=>td σ H fun x H1=>ty σ H1 fun y H2=>∃a v,x=.ref a∧js H2 a y (some v)∧Q v H2
def TK(ty td:TE):TE:=fun σ H Q=>ty σ H fun y H1=>td σ H1 fun x H2=>∃a o,x=.ref a∧js H2 a y o∧Q (.bl o.isSome) H2
def J4(ty td:TE):TE:=fun σ H Q=>ty σ H fun y H1=>td σ H1 fun x H2=>∃a o,x=.ref a∧js H2 a y o∧Q (.bl (!o.isSome)) H2
def Pr(td ty tv:TE):TS:=fun D σ H=>tv σ H fun v H1=>td σ H1 fun x H2=>ty σ H2 fun y H3=>∃a H4,x=.ref a∧mY H3 a y v H4∧D.nx σ H4
section
variable{X:Cx}{o i e value:Expr}{pos pos' NV:Pos}{td ty tv:TE}
theorem J6(hu:X.A.units+1<cLine)(ho:PE X o td)(hi:PE X i ty)(hs:MB i):PE X (.Subscript o i pos) (LD td ty):=by
 intro c_ s σ H Q I h
 refine J3 PySem.F.slot_dict_getitem.lookup hs (i6 (ho c_ s σ H _ I h) fun u s1 iI=>?_)
 obtain⟨x,H1,I1,rx,q1⟩:=iI
 refine i6 (hi c_ s1 σ H1 _ I1 q1) fun iv s2 GB=>?_
 obtain⟨y,H2,I2,ry,a,v,ex,g,q2⟩:=GB
 subst ex
 obtain rfl:u=Value.ref a:=rx
 exact⟨Cm I2 g,FE hu I2 g ry fun w' s3 I3 Dj=>⟨v,H2,I3,Dj,q2⟩⟩
theorem qG(hu:X.A.units+1<cLine)(hi:PE X i ty)(ho:PE X o td):PC X .In i o (TK ty td):=by
 intro c_ s σ H Q I h
 refine i6 (hi c_ s σ H _ I h) fun iv s1 iI=>?_
 obtain⟨y,H1,I1,ry,q1⟩:=iI
 refine i6 (ho c_ s1 σ H1 _ I1 q1) fun u s2 GB=>?_
 obtain⟨x,H2,I2,rx,a,ov,ex,g,q2⟩:=GB
 subst ex
 obtain rfl:u=Value.ref a:=rx
 exact TJ hu I2 g ry fun s3 I3=>⟨.bl ov.isSome,H2,I3,rfl,q2⟩
theorem lM(hu:X.A.units+1<cLine)(hi:PE X i ty)(ho:PE X o td):PC X .NotIn i o (J4 ty td):=by
 intro c_ s σ H Q I h
 refine i6 (hi c_ s σ H _ I h) fun iv s1 iI=>?_
 obtain⟨y,H1,I1,ry,q1⟩:=iI
 refine i6 (ho c_ s1 σ H1 _ I1 q1) fun u s2 GB=>?_
 obtain⟨x,H2,I2,rx,a,ov,ex,g,q2⟩:=GB
 subst ex
 obtain rfl:u=Value.ref a:=rx
 exact J2 hu I2 g ry fun s3 I3=>⟨.bl (!ov.isSome),H2,I3,rfl,q2⟩
theorem jB(hu:X.A.units+1<cLine)(ho:PE X o td)(hi:PE X i ty)(hv:PE X value tv)(hs:swapsWith value (some (.Subscript o i pos')) pos.line X.env=pure false) :
  PS X (.Assign [.Subscript o i pos'] value pos) (Pr td ty tv):=by
 intro c_ s σ H D I h
 refine wpAny_Assign_Subscript (i6 (hv c_ s σ H _ I h) fun r s1 iI=>?_) hs
 obtain⟨v,H1,I1,rv,q1⟩:=iI
 refine i6 (ho c_ s1 σ H1 _ I1 q1) fun u s2 GB=>?_
 obtain⟨x,H2,I2,rx,q2⟩:=GB
 refine i6 (hi c_ s2 σ H2 _ I2 q2) fun iv s3 zz2=>?_
 obtain⟨y,H3,I3,ry,a,H4,ex,g,q3⟩:=zz2
 subst ex
 obtain rfl:u=Value.ref a:=rx
 exact FF hu I3 g ry rv fun s4 I4=>⟨σ,H4,I4,q3⟩
end
theorem Hg{P:Program}{w:World}{H:Hp}(h:Heap)(hb:sysModules<h.objs.size):i9 P w H (h.push {cls:=.type "dict",data:=.dict #[]}) h.objs.size (.dK []):=
 ⟨aaE _,beq_eq_false_iff_ne.mpr (abA (aaP hb)),[],.nil,Heap.DictOf.new h⟩
theorem Hh{P:Program}{w:World}{H:Hp}(h:Heap)(hb:sysModules<h.objs.size):i9 P w H (h.push {cls:=.type "dict",data:=.dict #[]}) h.objs.size (.dT []):=
 ⟨aaE _,beq_eq_false_iff_ne.mpr (abA (aaP hb)),[],.nil,_,#[],0,aat _ rfl,⟨rfl,rfl,rfl⟩,rfl,rfl,abi⟩
def MC:TE:=fun _ H Q=>∀p,H p=none→Q (.ref p) (upd H p (.dK []))
def MD:TE:=fun _ H Q=>∀p,H p=none→Q (.ref p) (upd H p (.dT []))
section
variable{X:Cx}{pos:Pos}
theorem mZ:PE X (.Dict [] [] pos) MC:=fun c_ s σ H Q I h=>
 wpAny_Dict_empty ⟨.ref s.heap.objs.size,_,I.laid (a:=s.heap.objs.size) (o:=.dK []) (t':=s.toks) (fun _ _ q=>WN _ q) (TU _) (Hg s.heap I.big),rfl,h _ (I.iM.fresh (TU _))⟩
theorem l9:PE X (.Dict [] [] pos) MD:=fun c_ s σ H Q I h=>
 wpAny_Dict_empty ⟨.ref s.heap.objs.size,_,I.laid (a:=s.heap.objs.size) (o:=.dT []) (t':=s.toks) (fun _ _ q=>WN _ q) (TU _) (Hh s.heap I.big),rfl,h _ (I.iM.fresh (TU _))⟩
end
structure M1(X:Cx)(o:Expr)(m:Str)(apos:Pos)(e:Expr)(kX:Pos):Prop where
 base:attributeBase o m X.env (eval o X.env)=eval o X.env
 kq:((backTo kX (starEach [e] X.env)).all (fun x=>!x.1)&&(backToKw kX (keywordEach [] X.env)).all (fun x=>x.1.isSome)
  &&decide (([e]:List Expr).length+([]:List Keyword).length+(if([]:List Keyword).isEmpty then 0 else 1)<30))=true
 line:(apos.endLine ==kX.line)=true
 trees:backTo kX (starEach [e] X.env)=[(false,eval e X.env)]
structure M2(X:Cx)(o:Expr)(m:Str)(apos:Pos)(e f:Expr)(kX:Pos):Prop where
 base:attributeBase o m X.env (eval o X.env)=eval o X.env
 kq:((backTo kX (starEach [e,f] X.env)).all (fun x=>!x.1)&&(backToKw kX (keywordEach [] X.env)).all (fun x=>x.1.isSome)
  &&decide (([e,f]:List Expr).length+([]:List Keyword).length+(if([]:List Keyword).isEmpty then 0 else 1)<30))=true
 line:(apos.endLine ==kX.line)=true
 trees:backTo kX (starEach [e,f] X.env)=[(false,eval e X.env),(false,eval f X.env)]
def Pu(H:Hp)(a:Addr):Prop:=(∃kvs,Rd H a (.dK kvs))∨∃kvs,Rd H a (.dT kvs)
theorem AE{X:Cx}{c_:Qqz}{σ:St}{H:Hp}{s:Shared}{a:Addr}(I:Inv X c_ σ H s)(d:Pu H a) :
  s.TypeIs (.ref a) "dict"∧(∀b,Value.ref a=.ref b→∃ob,s.heap.get? b=some ob∧ob.dict=none)∧(a ==sysModules)=false:=by
 rcases d with⟨kvs,e⟩|⟨kvs,e⟩
 ·obtain⟨_,hd,vs,_,dd⟩:=vL I.iM e
  refine⟨dd.typeIs,fun b q=>?_,hd⟩
  cases q
  obtain⟨ob,_,_,h1,h2,_⟩:=dd
  exact⟨ob,h1,h2.2.1⟩
 ·obtain⟨_,hd,xs,_,dd⟩:=vM I.iM e
  refine⟨dd.typeIs,fun b q=>?_,hd⟩
  cases q
  obtain⟨ob,_,_,h1,h2,_⟩:=dd
  exact⟨ob,h1,h2.2.1⟩
section
variable{X:Cx}{c_:Qqz}{σ:St}{H:Hp}{s:Shared}{a:Addr}{y d:V}{u r:Value}{o:Option V}{A:Around}{E:Qqq}
theorem ME{Q:Qqq}(hu:A.units+1<cLine)(I:Inv X c_ σ H s)(g:js H a y o)(ry:RelV y u)(rd:RelV d r)(h:∀w' s',Inv X c_ σ H s'→RelV (o.getD d) w'→Q w' s') :
  wpAny (model X.prog X.w) A (call (.builtin "dict.get") [.ref a,u,r]) Q E s:=by
 rcases g with⟨kvs,k,e,ey,l⟩|⟨kvs,k,b,e,ey,eb,l⟩
 ·subst ey
  obtain⟨z,hd,vs,rel,dd⟩:=vL I.iM e
  refine call_meetsIn PySem.F.slot_dict_get dd.typeIs PySem.F.entry_dict_get (PySem.F.args_dict_get_3 _ _ _) (meets_dict_get_default (jg X.prog X.w) a (zK ry) hd r) ⟨_,dd.mapOf,h _ _ (I.tok _) ?_⟩
  rw[l]
  exact(rel.val k).getD rd
 ·subst ey
  cases (show u=Value.ref b from ry)
  obtain⟨z,hd,xs,rel,dd⟩:=vM I.iM e
  refine call_meetsIn PySem.F.slot_dict_get dd.typeIs PySem.F.entry_dict_get (PySem.F.args_dict_get_3 _ _ _) (meetsH_dict_get_default (tupleKind (jg X.prog X.w)) a b hd r) ⟨abz hu,k,xs,sJ I.iM eb,dd,h _ _ (I.tok _) ?_⟩
  rw[l]
  exact(rel.val k).getD rd
end
def MF(td ty tx:TE):TE:=fun σ H Q=>td σ H fun x H1=>∃a,x=.ref a∧Pu H1 a∧ty σ H1 fun y H2=>tx σ H2 fun z H3=>∃o,js H3 a y o∧Q (o.getD z) H3
section
variable{X:Cx}{o e f:Expr}{apos kX:Pos}{td ty tx:TE}
theorem Hi(hu:X.A.units+1<cLine)(ho:PE X o td)(he:PE X e ty)(hf:PE X f tx)(m:M2 X o "get" apos e f kX):PE X (.Call (.Attribute o "get" apos) [e,f] [] kX) (MF td ty tx):=by
 intro c_ s σ H Q I h
 refine wpAny_Call_method m.base m.kq m.line abU PySem.F.slot_dict_get PySem.F.type_dict_get (i6 (ho c_ s σ H _ I h) fun u s1 iI=>?_)
 obtain⟨x,H1,I1,rx,a,ex,d,q1⟩:=iI
 subst ex
 obtain rfl:u=Value.ref a:=rx
 obtain⟨t1,t2,_⟩:=AE I1 d
 refine⟨t1,t2,?_⟩
 rw[m.trees]
 refine abn rfl (abD (abk (i6 (he c_ s1 σ H1 _ I1 q1) fun iv s2 ⟨y,H2,I2,ry,q2⟩=>
  abk (i6 (hf c_ s2 σ H2 _ I2 q2) fun fv s3 ⟨z,H3,I3,rz,ov,g,q3⟩=>abE ?_))))
 exact ME hu I3 g ry rz fun w' s4 I4 Dj=>⟨_,H3,I4,Dj,q3⟩
end
section
variable{X:Cx}{c_:Qqz}{σ:St}{H:Hp}{s:Shared}{a:Addr}{kvs:List (Key×V)}{A:Around}{E:Qqq}
end
section
variable{X:Cx}{c_:Qqz}{σ:St}{H:Hp}{s:Shared}{a:Addr}{y:V}{u:Value}{A:Around}{E:Qqq}
end
end L2
namespace WI
open PySem PySem.W PySem.Calls PyProof.Rows
theorem wO{P:Params}{h:Heap}:∀(ns:List Int)(vs:List Value),WellAll P h vs (ns.map WData.int)→IntsAre vs ns:=by
 intro ns
 induction ns with
 | nil=>
  intro vs w
  rw[List.map_nil] at w
  cases w
  exact .nil
 | cons n ns ih=>
  intro vs w
  rw[aaq] at w
  cases w with
  | cons a b=>
   cases a
   exact .cons _ _ (ih _ b)
theorem FG{l:OpenLaw}{n:Nat}(hn:l.most=some n){P:Params}{h:Heap}{args:List WData}{vals:List Value}
  (Lb:l.row.toRowW.claim.pre args=true) (LQ:WellAll P h vals args) :
  ∃a vs ns,vals=[Value.ref a]∧args=[WData.list (ns.map WData.int)]∧h.get? a=some {cls:=.type "list",data:=.seq vs.toArray}∧IntsAre vs ns∧ns.length≤n:=by
 have hsh:WShape.hasAll [] args [.list .int]=true:=(pre_splitW Lb).1
 have hc:l.pre.holds [] {args:=args}=true:=(pre_splitW Lb).2
 obtain⟨d,r,rfl,h1,h2⟩:=hasAllW_cons hsh
 obtain rfl:=hasAllW_nil h2
 obtain⟨xs,rfl,h3⟩:=hasW_list h1
 obtain⟨ns,rfl⟩:=items_int h3
 have hlen:ns.length≤n:=by
  unfold OpenLaw.pre at hc
  have h4:(WTm.not (.lt (.lit (.int (n:Int))) (.len (.arg 0)))).holds [] {args:=[.list (ns.map .int)]}=true:=by
   have h4:=(holds_andW hc).1
   rw[hn] at h4
   exact h4
  have h5:=condW_of h4 (w_not (w_lt w_lit (w_len_list (w_arg rfl))))
  rw[QR] at h5
  refine Nat.le_of_not_lt fun q=>?_
  have q':(n:Int)<((ns.length:Nat):Int):=by omega
  first
   | (rw[UN q'] at h5;exact absurd h5 (by decide))
   | (simp at h5;omega)
 cases LQ with
 | cons w1 w2=>
  cases w2
  cases w1 with
  | list ho GF=>exact⟨_,_,ns,rfl,rfl,ho,wO ns _ GF,hlen⟩
theorem FH(l:OpenLaw)(args:List WData):l.row.toRowW.claim.post args (.bool true) args=true:=
 postW_of (r:=l.row.toRowW) (X:=(true ==true))
  (show WShape.has [] (.bool true) .bool=true by first|rfl|decide|simp[WShape.has,WShape.arms,WShape.armsAll])
  (show(WTm.eq .res (.lit (.bool true))).value [] {args:=args,res:=some (.bool true),after:=args}=some (.bool (true ==true)) from w_eq_bool (w_res rfl) w_lit) rfl
theorem Cn{l:OpenLaw}{n:Nat}{q:Program}{loose:List Str}{XP:(Qqx)→Heap→Prop}{YP:World→Heap→Prop}{d:DefRec}
  (hn:l.most=some n) (Qx:d.params.defaults=[])
  (call:∀(w:World)(s₀ s₁:Shared)(mg mb:Qqx)(fa:Addr)(o:Obj)(pm cd doc:Value)(a:Addr)(vs:List Value)(ns:List Int),
   Ground q loose [] XP w s₀ mg mb s₁.heap→YP w s₁.heap→
   s₁.heap.get? fa=some o→o.data=.func (docDef d.name d.params d.body d.scope pm cd doc)→s₁.heap.CodeRec cd d.name→mg d.name=some (.ref fa)→
   s₁.heap.get? a=some {cls:=.type "list",data:=.seq vs.toArray}→IntsAre vs ns→ns.length≤n→s₁.gens=#[]→
   codeAny (model l.prog w) callerA (.call (.ref fa) ⟨[.ref a],[]⟩) (fun r s'=>r=.ok (.ret (.bool true))∧OldK s₁.heap s'.heap∧s'.os=s₁.os∧AllBare s'.gens) s₁) :
  WalkO q loose XP YP l.row.toRowW d [] (fun f vs=>PySem.call f vs):=by
 intro w s₀ s₁ mg mb G Y fa o pm cd doc dV kV ho hd An hD Qy hg args vals as Lb hlay hrd LQ Uq
 obtain rfl:dV=.none:=Dflts.none hD Qx
 obtain rfl:kV=.none:=Dflts.noKw hD
 obtain⟨a,vs,ns,rfl,rfl,NY,hints,hlen⟩:=FG hn Lb LQ
 refine enter_call (codeAny_mono (call w s₀ s₁ mg mb fa o pm cd doc a vs ns G Y ho (fd_plain hd) An Qy NY hints hlen hg) fun r s' hq=>?_)
 obtain⟨rfl,h2,h3,h4⟩:=hq
 exact⟨.inl ⟨.bool true,.bool true,[],rfl,fun _=>rfl,.bool true,FH l _,fun _=>⟨List.Pairwise.nil,fun _ hm=>(nomatch hm)⟩⟩,h2,h3,h4⟩
section
variable{prog:Program}{w:World}{A:Around}{E:Qqq}{s:Shared}{K:Frag}
def ledger(h:Heap)(L d:Addr):Qqz:=(List.range h.objs.size).filterMap fun a=>if a=L∨a=d then none else(h.get? a).map fun o=>(a,o)
end
end WI
namespace L2
open PySem PySem.Spec PyProof.Rows
theorem zM:∀{vs:List Value} {ns:List Int},IntsAre vs ns→Vals (ns.map V.int) vs
 | _,_,.nil=>.nil
 | _,_,.cons n t h=>.cons ⟨t,rfl⟩ (zM h)
def MG(H:Hp):Prop:=∀b,H b=none∨∃o xs,H b=some (.nR o (.lst xs))
theorem Hj{P:Program}{w:World}{K:Qqy}{mg mb:Qqx}{CX:ER}{k:Nat}{fa a:Addr}{fd:FuncData}{x:Str}{sp:Sp}{s₁:Shared}{vs:List Value}{ns:List Int}
  (KX:K.In s₁.heap) (W5:s₁.heap.Ns mainGlobals mg) (hb:s₁.heap.Ns builtinsNs mb) (hbb:∀x:Str,x≠"__name__"→mb x=bootBuiltins x) (Ur:s₁.heap.NoLimit) (hg:s₁.gens=#[])
  (ha:s₁.heap.get? a=some {cls:=.type "list",data:=.seq vs.toArray}) (hi:IntsAre vs ns) (hl:ns.length≤sizeLine) (hr:j9 k callerA)
  (F:∀base:Heap,K.In base→base.Ns mainGlobals mg→iz P w K mg base CX k fa fd [x] sp) (Qz:∀(s:Shared)(u:Value),BindsTo s fd ⟨[u],[]⟩ [(x,u)])
  (JC:∀H:Hp,MG H→ib K H a (ns.map V.int)→sp [.ref a] H (fun v _=>v=.bl true) fun _ _ _=>False)
  (Us:∀H e s',CX [] H s₁ (fun _ _ _=>False) e s'→False) :
  codeAny (model P w) callerA (.call (.ref fa) ⟨[.ref a],[]⟩) (fun r s'=>r=.ok (.ret (.bool true))∧OldK s₁.heap s'.heap∧s'.os=s₁.os∧AllBare s'.gens) s₁:=by
 have rv:=zM hi
 have Ut:=hi.length
 have core:∀H:Hp,MG H→ib K H a (ns.map V.int)→qA P w H s₁.heap→(∀b,H b≠none→b=a)→(H a≠none→K.lookup a=none)→
   codeAny (model P w) callerA (.call (.ref fa) ⟨[.ref a],[]⟩) (fun r s'=>r=.ok (.ret (.bool true))∧OldK s₁.heap s'.heap∧s'.os=s₁.os∧AllBare s'.gens) s₁:=by
  intro H hO hS iM hA hK
  have Fg:∀{b:Addr} {o:Obj},s₁.heap.get? b=some o→H b=none→(Au s₁.heap H).get? b=some o:=fun e n=>GV e n
  have Qu:∀{b:Addr} {o:Obj} {es:Array DictEntry} {ep:Nat},s₁.heap.get? b=some o→o.data=.dict es ep→H b=none:=fun{b o es ep} e d=>by
   cases q:H b with
   | none=>rfl
   | some u=>
    have e':b=a:=hA b (by rw[q];simp)
    subst e'
    rw[ha] at e;cases e
    have d':Data.seq vs.toArray _=Data.dict es ep:=d
    cases d'
  have R8:∀{b:Addr} {m:Qqx},s₁.heap.Ns b m→(Au s₁.heap H).Ns b m:=fun{b m} ⟨o,es,ep,e,d,r⟩=>⟨o,es,ep,Fg e (Qu e d),d,r⟩
  have W6:K.In (Au s₁.heap H):=fun b o e=>Fg (KX b o e) (by
   cases q:H b with
   | none=>rfl
   | some u=>
    have e':b=a:=hA b (by rw[q];simp)
    subst e'
    rw[hK (by rw[q];simp)] at e;cases e)
  have hM:Mod K mg (Au s₁.heap H):=⟨W6,R8 W5,⟨mb,R8 hb,hbb⟩,let ⟨mc,h1,h2⟩:=Ur;⟨mc,R8 h1,h2⟩⟩
  have e0:DS P w K mg (Au s₁.heap H) callerA [] s₁ H:=⟨rfl,hM,fun b o e=>JO e,Nat.le_of_eq (Ft _ _),trivial,fun b hb=>absurd (show b∈([]:List Addr) from hb) (by simp),iM,.of_eq hg⟩
  refine codeAny_mono ((F _ W6 (R8 W5)).run callerA [] s₁ H ⟨[.ref a],[]⟩ [.ref a] [.ref a] _ _ hr e0 (Qz s₁ (.ref a)) (.cons rfl .nil) (JC H hO hS)) fun r s' h=>?_
  cases r with
  | error e=>exact(Us H e s' h).elim
  | ok fl=>
   cases fl with
   | next=>exact False.elim h
   | brk=>exact False.elim h
   | cont=>exact False.elim h
   | ret u=>
    obtain⟨v,H',os,bare,un,Uu,r',q⟩:=h
    have q':v=.bl true:=q
    subst q'
    obtain rfl:u=Value.bool true:=r'
    refine⟨rfl,OldK.of_keep fun b o e=>?_,os,bare⟩
    cases q:H b with
    | none=>exact un.keep b o e q (by intro z;exact absurd (show b∈([]:List Addr) from z) (by simp)) (by simp)
    | some u=>
     rcases hO b with z|⟨ob,xs,z⟩
     ·rw[q] at z;cases z
     ·have z2:=un.tH b ob _ z
      obtain⟨e1,_⟩:=iM b _ z
      obtain⟨e2,_⟩:=Uu b _ z2
      rw[e] at e1;cases e1
      exact e2
 cases hk:K.lookup a with
 | some o=>
  have e:=KX a o hk
  rw[ha] at e
  cases e
  refine core (fun _=>none) (fun _=>.inl rfl) (.inr ⟨_,vs.toArray,_,hk,rfl,rfl,rfl,by rw[aaa,Ut];exact hl,by simpa using rv⟩) (fun b u z=>by have z':(none:Option HO)=some u:=z;cases z') (fun b z=>absurd rfl z) fun z=>absurd rfl z
 | none=>
  refine core (fun b=>if b=a then some (.nR {cls:=.type "list",data:=.seq vs.toArray} (.lst (ns.map V.int))) else none) (fun b=>?_) (.inl (.inr ⟨{cls:=.type "list",data:=.seq vs.toArray},aak rfl⟩)) (fun b u z=>?_) (fun b z=>?_) fun _=>hk
  ·by_cases hb:b=a
   ·exact .inr ⟨_,_,aak hb⟩
   ·exact .inl (aai hb)
  ·by_cases hb:b=a
   ·have z':=(aak hb).symm.trans z
    cases z'
    subst hb
    exact⟨ha,by rw[QR];exact hl,vs,_,rv,ha⟩
   ·have z':=(aai hb).symm.trans z
    cases z'
  ·by_cases hb:b=a
   ·exact hb
   ·exact absurd (aai hb) z
theorem J7{l:W.OpenLaw}{n k:Nat}{q:Program}{loose:List Str}{XP:(Qqx)→Heap→Prop}{YP:World→Heap→Prop}{d:DefRec}{K:Params→Qqy}{CX:World→ER}{sp:World→Sp}{x:Str}
  (hn:l.most=some n) (La:n≤sizeLine) (Qx:d.params.defaults=[]) (hr:j9 k callerA)
  (hY:∀(w:World)(h:Heap),YP w h→(K w.params).In h)
  (F:∀(w:World)(mg:Qqx)(fa:Addr)(h:Heap),(K w.params).In h→h.Ns mainGlobals mg→mg d.name=some (.ref fa)→
   ∃fd:FuncData,(∀(s:Shared)(u:Value),BindsTo s fd ⟨[u],[]⟩ [(x,u)])∧
    ∀base:Heap,(K w.params).In base→base.Ns mainGlobals mg→iz l.prog w (K w.params) mg base (CX w) k fa fd [x] (sp w))
  (JC:∀(w:World)(H:Hp)(a:Addr)(ns:List Int),ns.length≤n→MG H→ib (K w.params) H a (ns.map V.int)→sp w [.ref a] H (fun v _=>v=.bl true) fun _ _ _=>False)
  (Us:∀(w:World)(H:Hp)(s:Shared)(e:Value)(s':Shared),CX w [] H s (fun _ _ _=>False) e s'→False) :
  W.WalkO q loose XP YP l.row.toRowW d [] (fun f vs=>PySem.call f vs):=by
 refine WI.Cn hn Qx fun w s₀ s₁ mg mb fa o pm cd doc a vs ns G Y ho hd An Qy NY hints hlen hg=>?_
 have KX:=hY w _ Y
 obtain⟨fd,hb,hF⟩:=F w mg fa _ KX G.T.g Qy
 exact Hj KX G.T.g G.T.b G.T.builtins G.T.nolimit hg NY hints (aac hlen La) hr hF hb (fun H hO hS=>JC w H a ns hlen hO hS) fun H e s'=>Us w H s₁ e s'
noncomputable def inClass(s:Stmt)(j:Nat):Stmt:=match s with
 | .ClassDef _ _ _ body _ _ _ _ _ _ _=>body.getD j (.Pass ⟨0,0,0,0⟩)
 | _=>.Pass ⟨0,0,0,0⟩
noncomputable def nU(s:Stmt):Arguments:=match s with
 | .FunctionDef _ a _ _ _ _ _ _ _ _=>a
 | _=>{posonlyargs:=[],args:=[],vararg:=none,kwonlyargs:=[],kw_defaults:=[],kwarg:=none,defaults:=[]}
noncomputable def kL(s:Stmt):List Stmt:=match s with
 | .FunctionDef _ _ b _ _ _ _ _ _ _=>b
 | _=>[]
noncomputable def fW(s:Stmt):Scope:=match s with
 | .FunctionDef _ _ _ _ _ _ sc _ _ _=>sc
 | _=>{kind:=.function,names:=[],isGenerator:=false,isCoroutine:=false}
abbrev mB:ER:=fun _ _ _ _ _ _=>False
abbrev E0:XK:=fun _ _ _=>False
theorem qj{X:Cx}:Passes mB X E0:=fun _ _ _ _ _ _ _ h=>h.elim
structure vN(K:Qqy)(x qual:Str)(st:Stmt)(f:Addr)(fd:FuncData):Prop where
 ex:∃(oc:Value)(od:Option Addr)(kV doc pm:Value)(an:Option Addr)(jw ct:Value)(GN:Array (Option Value)),
  fd=W.fnOf x qual (nU st) (kL st) (fW st) .none kV doc pm an jw ct∧K.lookup f=some ⟨oc,od,.func fd,GN⟩∧W.codeIn K jw qual=true
 kp:W.keepIn K (.ref f)=true
section
variable{P:Program}{w:World}{K:Qqy}{mg:Qqx}{base:Heap}
theorem vN.ok{x qual:Str}{st:Stmt}{f:Addr}{fd:FuncData}{N ps:List Str}{k:Nat}{sp:Sp}(F:vN K x qual st f fd)(S:g8 N ps (fW st))(len:∀vs H Q E,sp vs H Q E→vs.length=ps.length)
  (uH:∀(jw:Value)(A:Around)(outer:List Env)(s:Shared)(H:Hp)(vs:List V)(Q:VK)(E:XK),j9 k (A.deeper (envOfC qual (fW st) s.heap.objs.size f jw))→sp vs H Q E→
   ∃t,DB (uS mB P w K mg base N qual (fW st) f jw A outer s H E).O8 (kL st) t∧t {nx:=fun _ H'=>Q .iP H',rt:=Q} (start N vs) H):iz P w K mg base mB (k+1) f fd ps sp:=by
 obtain⟨oc,od,kV,doc,pm,an,jw,ct,GN,rfl,lk,An⟩:=F.ex
 refine LA lk An S len fun A outer s H vs Q E hr JC=>?_
 obtain⟨t,h,q⟩:=uH jw A outer s H vs Q E hr JC
 exact⟨t,h.O8,q⟩
theorem vN.binds{x qual:Str}{st:Stmt}{f:Addr}{fd:FuncData}{ps:List Str}(F:vN K x qual st f fd)
  (h:∀(kV doc pm:Value)(an:Option Addr)(jw ct:Value)(us:List Value),us.length=ps.length→bindArgs (W.fnOf x qual (nU st) (kL st) (fW st) .none kV doc pm an jw ct) ⟨us,[]⟩=pure (ps.zip us)):Binds K fd ps []:=by
 obtain⟨oc,od,kV,doc,pm,an,jw,ct,GN,rfl,lk,An⟩:=F.ex
 exact .all (h kV doc pm an jw ct)
theorem Hk{x qual:Str}{st:Stmt}{f:Addr}{oc:Value}{od an:Option Addr}{GN:Array (Option Value)}{kV doc pm jw ct:Value}(l:K.lookup f=some ⟨oc,od,.func (W.fnOf x qual (nU st) (kL st) (fW st) .none kV doc pm an jw ct),GN⟩)
 (c:W.codeIn K jw qual=true) (k:W.keepIn K (.ref f)=true):vN K x qual st f (W.fnOf x qual (nU st) (kL st) (fW st) .none kV doc pm an jw ct):=⟨⟨oc,od,kV,doc,pm,an,jw,ct,GN,rfl,l,c⟩,k⟩
end
theorem ja{A:Around}{k:Nat}(hr:j9 k A):A.units+1<cLine:=abl (Nat.add_le_add_left (by decide:1≤64) _) hr.units
section
variable{X:Cx}
theorem pv(i:Nat){x:Str}{pos:Pos}(hN:X.N[i]?=some x:=by rfl)(hv:S6 X.env.scope x:=by first|exact Or.inl rfl|exact Or.inr (Or.inl rfl)|exact Or.inr (Or.inr rfl))(hd:(x ==("__debug__":Str))=false:=by decide)
 (An:(x ==("__classdict__":Str))=false:=by decide):PE X (.Name x pos) (O4 i):=Me hN hv hd An
end
theorem jC{A B:Prop}(h:B):if false=true then A else B:=by
 rw[aai Z9]
 exact h
theorem nM{A B:Prop}(h:A):if true=true then A else B:=by
 rw[aak rfl]
 exact h
theorem l_{c A B:Prop}[Decidable c](h1:c→A)(h2:¬c→B):if c then A else B:=by
 by_cases h:c
 ·rw[aak h]
  exact h1 h
 ·rw[aai h]
  exact h2 h
def gc(H H':Hp):Prop:=∀b o,H b=some o→H' b=some o
theorem gc.refl(H:Hp):gc H H:=fun _ _ h=>h
theorem gc.trans{H H1 H2:Hp}(a:gc H H1)(b:gc H1 H2):gc H H2:=fun c o h=>b c o (a c o h)
theorem gc.free{H H':Hp}(e:gc H H'){l:Addr}(h:H' l=Option.none):H l=Option.none:=by
 cases q:H l with
 | none=>rfl
 | some o=>
  rw[e l o q] at h
  cases h
section
variable{κ:Type}[DecidableEq κ]
theorem zN{p:κ×V}{r:List (κ×V)}{k:κ}(e:p.1=k):kF (p::r) k=kF r k:=by
 unfold kF
 rw[ace,aai (by simp[e])]
theorem zO{p:κ×V}{r:List (κ×V)}{k:κ}(e:¬p.1=k):kF (p::r) k=p::kF r k:=by
 unfold kF
 rw[ace,aak (by simp[e])]
end
section
variable{prog:Program}{w:World}{A:Around}{R:Result→Shared→Prop}{s:Shared}
abbrev J9:Qqq:=fun _ _=>False
theorem AF{elt target iter:Expr}{ifs:List Expr}{scope:Scope}{pos:Pos}{it acc:Value}{env:Env}(I:Nat→Shared→Prop)
  (turn:∀n s,I n s→wpAny (model prog w) A (pyNext it) (fun r s1=>match r with
   | none=>R (.ok .next) s1
   | some v=>wpAny (model prog w) A (letOwnedTupleGo target it v) (fun _ W7=>wpAny (model prog w) A (assign target env v) (fun _ s2=>
    wpAny (model prog w) A (forIn ifs true fun c r=>if r=true then do let ok ←isTrue c env (eval c env);pure (ForInStep.yield ok) else pure (ForInStep.yield r)) (fun ok s3=>
     if ok=true then wpAny (model prog w) A (eval elt env) (fun x s4=>wpAny (model prog w) A (call (.builtin "list.append") [acc,x]) (fun _ s5=>∃m,m<n∧I m s5) J9 s4) J9 s3
     else ∃m,m<n∧I m s3) J9 s2) J9 W7) J9 s1) J9 s)
  (n:Nat) (h:I n s):codeAny (model prog w) A (.compLoop (.ListComp elt [⟨target,iter,ifs,0⟩] scope pos) 0 it acc env) R s:=by
 refine codeAny_loop rfl I (fun n s hI=>?_) n h
 show wpAny _ A ((compTurn (.ListComp elt [⟨target,iter,ifs,0⟩] scope pos) 0 it acc env).onRaise (fun x=>do noteFrame x env;theTreesLotGoes x)) _ _ s
 refine wpAny_noted ?_
 rw[compTurn_list]
 refine QW (wpAny_standAt (QW (abr (turn n s hI) (fun r s1 h1=>?_) fun _ _ h'=>h'.elim)))
 cases r with
 | none=>exact aag h1
 | some v=>
  refine QW (abr h1 (fun _ W7 Lc=>?_) fun _ _ h'=>h'.elim)
  refine QW (abr Lc (fun _ s2 h2=>QW (abr h2 (fun ok s3 h3=>?_) fun _ _ h'=>h'.elim)) fun _ _ h'=>h'.elim)
  cases ok with
  | false=>exact aag ⟨rfl,h3⟩
  | true=>
   exact QW (QW (abr h3 (fun x s4 h4=>QW (abr h4 (fun _ s5 h5=>aag (aag ⟨rfl,h5⟩)) fun _ _ h'=>h'.elim)) fun _ _ h'=>h'.elim))
end
noncomputable def jt(cells:List (Str×Addr)):List (Str×NameKind)→List (Str×Addr)→List (Str×Addr)
 | [],cs=>cs
 | (n,k)::r,cs=>jt cells r (if k ==.free then(n,(cells.lookup n).getD 0)::cs else cs)
theorem zP{cells:List (Str×Addr)}:∀{names:List (Str×NameKind)} {cs:List (Str×Addr)} {x:Str} {c:Addr},(∀y∈names,y.2=.free→∃c,cells.lookup y.1=some c)→
  (jt cells names cs).lookup x=some c→cs.lookup x=some c∨cells.lookup x=some c
 | [],_,_,_,_,h=>.inl h
 | (n,k)::r,cs,x,c,hf,h=>by
  rcases zP (fun y hy=>hf y (Z4 _ hy)) (show(jt cells r (if k ==.free then(n,(cells.lookup n).getD 0)::cs else cs)).lookup x=some c from h) with q|q
  ·by_cases hk:(k ==NameKind.free)=true
   ·rw[aak hk] at q
    by_cases hx:(x ==n)=true
    ·rw[abZ,hx] at q
     obtain⟨c',e⟩:=hf (n,k) aal (eq_of_beq hk)
     have e:cells.lookup n=some c':=e
     rw[e] at q
     have q:some c'=some c:=q
     rw[eq_of_beq hx,e,q]
     exact .inr rfl
    ·rw[abZ,abF.mpr hx] at q
     exact .inl q
   ·rw[aai hk] at q
    exact .inl q
  ·exact .inr q
theorem xF{cells:List (Str×Addr)}:∀{names:List (Str×NameKind)} {cs:List (Str×Addr)} {x:Str},(∃c,cs.lookup x=some c)→∃c,(jt cells names cs).lookup x=some c
 | [],_,_,h=>h
 | (n,k)::r,cs,x,h=>by
  refine xF (names:=r) ?_
  by_cases hk:(k ==NameKind.free)=true
  ·rw[aak hk,abZ]
   cases x ==n with
   | true=>exact⟨_,rfl⟩
   | false=>exact h
  ·rw[aai hk];exact h
theorem uU{cells:List (Str×Addr)}:∀{names:List (Str×NameKind)} {cs:List (Str×Addr)} {x:Str},(x,NameKind.free)∈names→∃c,(jt cells names cs).lookup x=some c
 | [],_,_,h=>nomatch h
 | (n,k)::r,cs,x,h=>by
  rcases WK.mp h with e|h2
  ·cases e
   refine xF (names:=r) ⟨(cells.lookup n).getD 0,?_⟩
   rw[aak (by rfl),abZ,beq_self_eq_true]
  ·exact uU (names:=r) h2
theorem r_{scope:Scope}{env:Env}(hf:∀y∈scope.names,y.2=.free→∃c,env.cells.lookup y.1=some c):closureFor scope env=pure (jt env.cells scope.names []):=by
 have key:∀(names:List (Str×NameKind))(cs:List (Str×Addr)),(∀y∈names,y.2=.free→∃c,env.cells.lookup y.1=some c)→
   (forIn names cs fun(x:Str×NameKind) (r:List (Str×Addr))=>(match x with
    | (name,kind)=>if(kind ==NameKind.free)=true then(do let a ←cellOf env name;pure (ForInStep.yield ((name,a)::r))) else pure (ForInStep.yield r):Sem (ForInStep (List (Str×Addr)))))=(pure (jt env.cells names cs):Sem (List (Str×Addr))):=by
  intro names
  induction names with
  | nil=>intro cs _;rfl
  | cons y r ih=>
   intro cs h
   obtain⟨n,k⟩:=y
   rw[List.forIn_cons]
   by_cases hk:(k ==NameKind.free)=true
   ·obtain⟨c,e⟩:=h (n,k) aal (eq_of_beq hk)
    have e:env.cells.lookup n=some c:=e
    have ec:cellOf env n=pure c:=by unfold cellOf;rw[e]
    simp only [hk,if_true,ec,pure_bind]
    rw[ih _ fun y hy=>h y (Z4 _ hy)]
    simp only [jt,hk,if_true,e,Option.getD_some]
   ·simp only [hk,ab3,pure_bind,aaV]
    rw[ih _ fun y hy=>h y (Z4 _ hy)]
    simp only [jt,hk,ab3,aaV]
 have q:=key scope.names [] hf
 simp only [closureFor]
 first
  | (rw[q];rfl)
  | (simp only [q,pure_bind])
  | exact(aaQ (fun t=>t >>= pure) q).trans (pure_bind _ _)
theorem qk{f:Str→NameKind→NameKind}:∀{names:List (Str×NameKind)} {x:Str},(names.map fun y=>(y.1,f y.1 y.2)).lookup x=(names.lookup x).map (f x)
 | [],_=>rfl
 | (n,k)::r,x=>by
  show List.lookup x ((n,f n k)::_)=_
  rw[abZ,abZ]
  cases h:x ==n with
  | true=>rw[eq_of_beq h];rfl
  | false=>exact qk (names:=r)
theorem lb{scope:Scope}{env:Env}{x:Str}:(relabel scope env).names.lookup x=(scope.names.lookup x).map fun k=>if(k ==.free&&env.scope.kind ==.function&&env.kindOf x ==some .cell)=true then .cell else k:=by
 have e:(relabel scope env).names=scope.names.map fun y=>(y.1,(fun(n:Str) (k:NameKind)=>if(k ==.free&&env.scope.kind ==.function&&env.kindOf n ==some .cell)=true then NameKind.cell else k) y.1 y.2):=by
  show(scope.names.map _)=_
  refine abV fun y _=>?_
  obtain⟨n,k⟩:=y
  show(if(k ==.free&&env.scope.kind ==.function&&env.kindOf n ==some .cell)=true then(n,NameKind.cell) else(n,k))=(n,if(k ==.free&&env.scope.kind ==.function&&env.kindOf n ==some .cell)=true then NameKind.cell else k)
  split<;>rfl
 rw[e]
 exact qk (f:=fun(n:Str) (k:NameKind)=>if(k ==.free&&env.scope.kind ==.function&&env.kindOf n ==some .cell)=true then NameKind.cell else k)
noncomputable def blank:List Nat→St→St
 | [],σ=>σ
 | i::r,σ=>blank r (σ.set i none)
theorem zQ:∀{is:List Nat} {σ:St},(blank is σ).length=σ.length
 | [],_=>rfl
 | i::r,σ=>by
  show(blank r (σ.set i none)).length=_
  rw[zQ,ach]
theorem AG{σ:St}{i j:Nat}{v:V}(h:(σ.set i none)[j]?=some (some v)):σ[j]?=some (some v)∧j≠i:=by
 by_cases e:j=i
 ·subst e
  by_cases hl:j<σ.length
  ·rw[aa9 hl] at h;cases h
  ·rw[List.getElem?_eq_none_iff.mpr (by rw[ach];omega)] at h;cases h
 ·rw[abm (abA e)] at h
  exact⟨h,e⟩
theorem zR:∀{is:List Nat} {σ:St} {j:Nat} {v:V},(blank is σ)[j]?=some (some v)→σ[j]?=some (some v)∧j∉is
 | [],_,_,_,h=>⟨h,by simp⟩
 | i::r,σ,j,v,h=>by
  obtain⟨h1,h2⟩:=zR (is:=r) (σ:=σ.set i none) h
  obtain⟨h3,h4⟩:=AG h1
  exact⟨h3,fun m=>(WK.mp m).elim h4 h2⟩
noncomputable def FJ(N:List Str)(out:List (Str×NameKind))(is:List Nat)(names:List (Str×NameKind)):Bool:=
 (names.all fun y=>y.2 != .cell&&(y.2 != .free||out.lookup y.1 ==some .cell||out.lookup y.1 ==some .free)&&(y.2 != .local||names.lookup y.1 ==some .local))&&
 (N.zipIdx.all fun p=>names.lookup p.1 != some .local||is.contains p.2)
structure AH(N:List Str)(out:List (Str×NameKind))(is:List Nat)(names:List (Str×NameKind)):Prop where
 DZ:∀y∈names,y.2≠.cell
 free:∀y∈names,y.2=.free→out.lookup y.1=some .cell∨out.lookup y.1=some .free
 loc:∀y∈names,y.2=.local→names.lookup y.1=some .local
 own:∀(i:Nat)(x:Str),N[i]?=some x→names.lookup x=some .local→i∈is
theorem AH.of{N:List Str}{out:List (Str×NameKind)}{is:List Nat}{names:List (Str×NameKind)}(h:FJ N out is names=true):AH N out is names:=by
 unfold FJ at h
 rw[abb] at h
 obtain⟨h1,h2⟩:=h
 have a:=abB.mp h1
 have b:=abB.mp h2
 refine⟨fun y hy e=>?_,fun y hy e=>?_,fun y hy e=>?_,fun i x hi e=>?_⟩
 ·have q:=a y hy
  rw[e] at q
  simp at q
 ·have q:=a y hy
  simp only [e,abb,ab7,bne_self_eq_false,aaV,false_or,abR] at q
  rcases q.1.2 with z|z
  ·exact .inl z
  ·exact .inr z
 ·have q:=a y hy
  simp only [e,abb,ab7,bne_self_eq_false,aaV,false_or,abR] at q
  exact q.2
 ·have hm:(x,i)∈N.zipIdx:=by
   rw[aaH]
   exact⟨i,by rw[List.getElem?_zipIdx,hi];simp⟩
  have q:=b (x,i) hm
  simp only [e,ab7,bne_self_eq_false,aaV,false_or] at q
  exact List.contains_iff_mem.mp q
noncomputable def Cx.block(X:Cx)(scope:Scope)(cl:List (Str×Addr))(C:Addr)(s:Shared)(H:Hp)(ex:List Addr):Cx:=
 {X with env:=compEnvC scope cl C X.env,s₀:=s,H₀:=H,outer:=X.stack,ex:=ex,fn:=fun _=>false,pn:=[],xe:=J9}
section
variable{X:Cx}{c_:Qqz}{σ:St}{H:Hp}{s:Shared}{scope:Scope}{is:List Nat}{ex:List Addr}{C:Addr}
theorem xG(I:Inv X c_ σ H s)(hs:AH X.N X.env.scope.names is scope.names):∀y∈scope.names,y.2=.free→∃c,X.env.cells.lookup y.1=some c:=fun y hy e=>I.ok.has y.1 (hs.free y hy e)
theorem ma(I:Inv X c_ σ H s)(hs:AH X.N X.env.scope.names is scope.names){x:Str}{c:Addr}(h:(jt X.env.cells scope.names []).lookup x=some c):X.env.cells.lookup x=some c:=
 (zP (xG I hs) h).resolve_left fun z=>nomatch z
theorem Hl(I:Inv X c_ σ H s)(hs:AH X.N X.env.scope.names is scope.names)(hk:scope.kind=.function)(hC:s.heap.objs.size≤C)(hf:∀b∈ex,sG X c_ H b)(ho:∀b∈ex,∃o,s.heap.get? b=some o) :
  (X.block scope (jt X.env.cells scope.names []) C s H ex).Ok where
 mod:=I.ok.mod
 kind:=hk
 glob:=I.ok.glob
 blt:=I.ok.blt
 above:=hC
 inj:=fun x y c h1 h2=>I.ok.inj x y c (ma I hs h1) (ma I hs h2)
 has:=fun x hx=>by
  have hx:(relabel scope X.env).names.lookup x=some .cell∨(relabel scope X.env).names.lookup x=some .free:=hx
  rw[lb] at hx
  cases e:scope.names.lookup x with
  | none=>
   rw[e] at hx
   rcases hx with z|z<;>cases z
  | some k=>
   have hm:(x,k)∈scope.names:=abu e
   have hk:k=.free:=by
    rw[e] at hx
    cases k with
    | free=>rfl
    | cell=>exact absurd rfl (hs.DZ _ hm)
    | _=>rcases hx with z|z<;>simp at z
   subst hk
   exact uU hm
 OB:=fun _ _ h=>Bool.noConfusion h
 hd:=I.ok.hd
 frames:=I.ok.frames
 O1:=.inl rfl
 S7:=fun b hb=>by
  obtain⟨o,e⟩:=ho b hb
  exact⟨aaP (aax (aar e) hC),fun x c h=>(hf b hb).2.2.2.2.1 x c (ma I hs h)⟩
 bs:=I.bs
 JQ:=aac I.ok.JQ I.sz
 rS:=fun b o e hb=>by
  rcases(hf b hb).2.2.2.1 with z|z
  ·exact I.ok.rS b o e z
  ·exact absurd (aax (aar (I.ok.bs b o e).1) z) (aba _)
 GW:=fun b hb hm=>by
  rcases WK.mp (I.uO b hm) with z|z
  ·exact(hf b hb).2.1 z
  ·exact(hf b hb).2.2.1 z
 tI:=I.stack
 Lw:=I.Av
theorem FK{h':Heap}{t':Nat}{pl:Qqz}(I:Inv X c_ σ H s)(hs:AH X.N X.env.scope.names is scope.names)(hk:scope.kind=.function)(hC:s.heap.objs.size≤C)(hf:∀b∈ex,sG X c_ H b)(ho:∀b∈ex,∃o,s.heap.get? b=some o)
  (old:∀b o,s.heap.get? b=some o→h'.get? b=some o) {m:Qqx} (hn:h'.Ns C m)
  (hp:∀p∈pl,h'.get? p.1=some p.2∧s.heap.objs.size≤p.1∧p.1≠C∧∀v,p.2.data≠.cell v) :
  Inv (X.block scope (jt X.env.cells scope.names []) C s H ex) pl (blank is σ) H {s with heap:=h',toks:=t'} where
 ok:=Hl I hs hk hC hf ho
 os:=rfl
 bare:=I.bare
 base:=Un.kept old
 loc:=⟨m,hn,fun i x v h1 h2 h3=>by
  have h3:(relabel scope X.env).names.lookup x=some .local∨(relabel scope X.env).names.lookup x=some .cell∨(relabel scope X.env).names.lookup x=some .free:=h3
  obtain⟨h2,hi⟩:=zR h2
  have h1:X.N[i]?=some x:=h1
  cases e:scope.names.lookup x with
  | none=>
   rw[lb,e] at h3
   rcases h3 with z|z|z<;>cases z
  | some k=>
   have hm:(x,k)∈scope.names:=abu e
   have hk:k=.free:=by
    rw[lb,e] at h3
    cases k with
    | free=>rfl
    | cell=>exact absurd rfl (hs.DZ _ hm)
    | «local»=>exact absurd (hs.own i x h1 e) hi
    | _=>rcases h3 with z|z|z<;>simp at z
   subst hk
   have hv:X.env.scope.names.lookup x=some .cell∨X.env.scope.names.lookup x=some .free:=hs.free _ hm rfl
   obtain⟨m0,_,hl⟩:=I.loc
   obtain⟨u,r,q⟩:=hl i x v h1 h2 (.inr hv)
   refine⟨u,r,.inr ⟨?_,?_⟩⟩
   ·show(relabel scope X.env).names.lookup x=some .cell∨(relabel scope X.env).names.lookup x=some .free
    rw[lb,e]
    show some (if _ then NameKind.cell else NameKind.free)=_∨some (if _ then NameKind.cell else NameKind.free)=_
    split
    ·exact .inl rfl
    ·exact .inr rfl
   ·rcases q with⟨z,_⟩|⟨_,c,ec,cc⟩
    ·have z:X.env.scope.names.lookup x=some .local:=z
     rcases hv with hv|hv<;>rw[hv] at z<;>cases z
    ·obtain⟨c',e'⟩:=uU (cells:=X.env.cells) (cs:=[]) hm
     have e2:=ma I hs e'
     rw[ec] at e2
     cases e2
     obtain⟨o,ho,hd⟩:=cc
     exact⟨c,e',o,old _ _ ho,hd⟩⟩
 cell:=fun x c h=>by
  obtain⟨v,o,ho,hd⟩:=I.cell x c (ma I hs h)
  exact⟨v,o,old _ _ ho,hd⟩
 free:=I.iM.fresh hC
 oH:=fun x c h=>I.oH x c (ma I hs h)
 pin:=fun p Uv=>by
  obtain⟨h1,h2,h3,h4⟩:=hp p (by simpa[Cx.block] using Uv)
  refine⟨h1,I.iM.fresh h2,h3,fun hm=>?_,h4⟩
  rcases WK.mp (I.uO p.1 hm) with z|z
  ·exact absurd (aax I.lt (by rw[←z];exact h2)) (aba _)
  ·exact I.O2 h2 z
 iM:=I.iM.kept old
 len:=by rw[zQ];exact I.len
end
theorem lg{X:Cx}{scope:Scope}{cl:List (Str×Addr)}{C:Addr}{s:Shared}{H:Hp}{ex:List Addr}:(X.block scope cl C s H ex).K=X.K:=rfl
theorem PE.eqv{X:Cx}{e:Expr}{t t':TE}(h:PE X e t')(q:t'=t):PE X e t:=q▸h
def MH(X:Cx)(ifs:List Expr)(t:TT):Prop:=
 ∀(c_:Qqz)(s:Shared)(σ:St)(H:Hp)(Q:Bool→Hp→Prop),Inv X c_ σ H s→t σ H Q→
  wpAny (model X.prog X.w) X.A (forIn ifs true fun c r=>if r=true then do let ok ←isTrue c X.env (eval c X.env);pure (ForInStep.yield ok) else pure (ForInStep.yield r)) (TP X c_ σ Q) X.xe s
def TL:TT:=fun _ H Q=>Q true H
theorem mf{X:Cx}:MH X [] TL:=fun _ _ _ H _ I h=>wpAny_tests_nil ⟨H,I,h⟩
theorem pB{X:Cx}{c:Expr}{t:TT}(h:PT X c t):MH X [c] t:=fun c_ s σ H Q I hw=>wpAny_tests_one (h c_ s σ H Q I hw)
def D1(g:TG)(tt:TT)(te:TE)(J:It)(Q:List V→Hp→Prop)(σ:St)(H:Hp):Prop:=
 ∃W:Nat→Nat→List V→St→Hp→Prop,(∃m,W 0 m [] σ H)∧∀i m ys σ H,W i m ys σ H→
  (J.stop i H∧ys.length≤sizeLine∧Q ys H)∨
  (J.go i H∧ys.length≤sizeLine∧∃N:List V→St→Hp→Prop,(∀NZ σ' H',N NZ σ' H'→∃m',m'<m∧W (i+1) m' NZ σ' H')∧
   ∀x H',J.Jw i H x H'→g x σ H' fun σ2 H2=>tt σ2 H2 fun b H3=>if b=true then te σ2 H3 fun v H4=>N (ys++[v]) σ2 H4 else N ys σ2 H3)
def RX(is:List Nat)(wi:TI)(g:TG)(tt:TT)(te:TE):TE:=fun σ H Q=>wi σ H fun J H1=>D1 g tt te J (fun ys H2=>∀p,H2 p=none→Q (.ref p) (upd H2 p (.lst ys))) (blank is σ) H1
section
variable{P:Program}{w:World}
theorem qA.Pw{H:Hp}{h:Heap}{a:Addr}{o:HO}(x:qA P w H h)(hn:H a=none)(new:i9 P w (upd H a o) h a o):qA P w (upd H a o) h:=fun b u q=>by
 by_cases hb:b=a
 ·subst hb;rw[b_] at q;cases q;exact new
 ·rw[d_ hb] at q
  exact(x b u q).xx (fun _ _ _ r=>r) (fun c r=>by rw[d_ (f_ r hn)];exact r) fun c xs r=>by rw[d_ (f_ r hn)];exact r
end
noncomputable abbrev AI(ys:List Value)(n:Nat):Obj:={cls:=.type "list",data:=.seq ys.toArray n}
section
variable{X:Cx}{c_:Qqz}{σ:St}{H:Hp}{s:Shared}{scope:Scope}{is:List Nat}
theorem zS{E:Qqq}{elt tg iter:Expr}{ifs:List Expr}{pos:Pos}{it:Addr}{fp:List Addr}{tn:Nat→Heap→Prop}{J:It}{g:TG}{tt:TT}{te:TE}{Fin:List V→Hp→Prop}{RR:Value→Addr→Result→Shared→Prop}
  (I:Inv X c_ σ H s) (hc:X.calm=true) (hs:AH X.N X.env.scope.names is scope.names) (hk:scope.kind=.function)
  (hg:∀C s H ex,PG (X.block scope (jt X.env.cells scope.names []) C s H ex) tg g) (ht:∀C s H ex,MH (X.block scope (jt X.env.cells scope.names []) C s H ex) ifs tt)
  (he:∀C s H ex,PE (X.block scope (jt X.env.cells scope.names []) C s H ex) elt te)
  (T:Turn X.prog X.w X.K tg J fp it tn) (st:tn 0 s.heap) (hf:∀b∈fp,sG X c_ H b) (h:D1 g tt te J Fin (blank is σ) H)
  (hRR:∀(D C:Addr)(ys:List V)(ic:List Value)(n:Nat)(H':Hp)(s':Shared)(m:Qqx),s.heap.objs.size≤D→s.heap.objs.size≤C→D≠C→s'.heap.Ns C m→s'.heap.get? D=some (AI ic n)→Vals ys ic→ys.length≤sizeLine→
   H' D=none→H' C=none→s'.os=s.os→AllBare s'.gens→Un (sF X.stack) fp H H' s.heap s'.heap→qA X.prog X.w H' s'.heap→Fin ys H'→RR (.ref D) C (.ok .next) s') :
  wpAny (model X.prog X.w) X.A (newList []) (fun acc s3=>wpAny (model X.prog X.w) X.A (newFunctionEnv scope X.env.globals (jt X.env.cells scope.names []) [] X.env.qual none .none (some X.env)) (fun QA s4=>
   codeAny (model X.prog X.w) X.A (.compStart (.ListComp elt [⟨tg,iter,ifs,0⟩] scope pos) 0 (.ref it) acc {QA with scope:=relabel scope X.env}) (RR acc QA.locals) s4) E s3) E s:=by
 refine wpAny_newObj_type (wpAny_newFunctionEnv hs.DZ (by intro y hy;simp at hy) (fun h1 N0 Ld=>?_) hk)
 dsimp only at N0 Ld ⊢
 generalize Uw:s.heap.push {cls:=.type "list",dict:=none,data:=.seq ([]:List Value).toArray}=H2 at N0 Ld ⊢
 have hC:H2.objs.size=s.heap.objs.size+1:=by rw[←Uw,Heap.size_push]
 have Le:s.heap.objs.size≠H2.objs.size:=by rw[hC];exact aaP (acd _)
 have QB:s.heap.objs.size≤H2.objs.size:=by rw[hC];exact Nat.le_succ _
 have below:∀b,b<s.heap.objs.size→b≠H2.objs.size∧b≠s.heap.objs.size:=fun b hb=>⟨by rw[hC];exact aaP (Nat.lt_succ_of_lt hb),aaP hb⟩
 have old:∀b o,s.heap.get? b=some o→h1.get? b=some o:=fun b o e=>Ld.extBut b o (below b (aar e)).1 (WN _ (Uw▸WN _ e))
 have yI:h1.get? s.heap.objs.size=some (AI [] 0):=Ld.extBut _ _ Le (WN _ (Uw▸aat _ rfl))
 have Ux:∀b∈fp,∃o,s.heap.get? b=some o:=fun b hb=>let ⟨o,e,_⟩:=T.obj 0 _ st b hb;⟨o,e⟩
 have W8:∀b∈fp,b≠s.heap.objs.size:=fun b hb=>let ⟨o,e⟩:=Ux b hb;(below b (aar e)).2
 have hfC:∀b∈fp,b≠H2.objs.size:=fun b hb=>let ⟨o,e⟩:=Ux b hb;(below b (aar e)).1
 generalize hD:s.heap.objs.size=D at *
 generalize hCC:H2.objs.size=C at *
 have QC:∀x c,(jt X.env.cells scope.names []).lookup x=some c→c≠D:=fun x c e z=>by
  obtain⟨v,q⟩:=I.cell x c (ma I hs e)
  exact absurd q.lt (by rw[z,hD];exact aba _)
 let XB:=X.block scope (jt X.env.cells scope.names []) C s H fp
 have I1:Inv XB [(D,AI [] 0)] (blank is σ) H {s with heap:=h1,toks:=s.toks+([]:List (Str×Value)).length}:=
  FK I hs hk (by rw[hD];exact QB) hf Ux old N0 fun p hp=>by
   rw[TN.mp hp]
   exact⟨yI,Nat.le_of_eq hD,Le,fun v z=>nomatch z⟩
 have Uy:∀{pl:Qqz} {H':Hp},(∀p∈pl,p.1=D)→(∀b∈fp,H' b=none)→∀b∈fp,sG XB pl H' b:=fun{pl H'} nQ hn b hb=>
  ⟨hn b hb,hfC b hb,fun hm=>by
   rcases WK.mp (I.uO b hm) with z|z
   ·exact(hf b hb).2.1 z
   ·exact(hf b hb).2.2.1 z,.inl hb,fun x c e=>(hf b hb).2.2.2.2.1 x c (ma I hs e),fun p hp=>by
   have hp:p∈pl:=by simpa[XB,Cx.block] using hp
   rw[nQ p hp]
   exact abA (W8 b hb)⟩
 obtain⟨W,⟨m0,w0⟩,turn⟩:=h
 have GG:tn 0 h1:=T.keep _ _ _ st fun b _ o e=>old b o e
 have loop:codeAny (model X.prog X.w) X.A (.compLoop (.ListComp elt [⟨tg,iter,ifs,0⟩] scope pos) 0 (.ref it) (.ref D) (compEnvC scope (jt X.env.cells scope.names []) C X.env)) (RR (.ref D) C) {s with heap:=h1,toks:=s.toks+([]:List (Str×Value)).length}:=by
  refine AF (fun k s'=>∃i ys ic n σ' H',Inv XB [(D,AI ic n)] σ' H' s'∧Vals ys ic∧tn i s'.heap∧(∀b∈fp,H' b=none)∧W i k ys σ' H') ?_ m0 ⟨0,[],[],0,_,_,I1,.nil,GG,fun b hb=>(hf b hb).1,w0⟩
  rintro k s3 ⟨i,ys,ic,n,σ3,H3,I3,vs,OD,Qs,w3⟩
  have nQ:∀p∈[(D,AI ic n)],p.1=D:=fun p hp=>by rw[TN.mp hp]
  rcases turn i k ys σ3 H3 w3 with⟨stop,hz,qn⟩|⟨go,hz,N,hN,step⟩
  ·refine i6 (T.done XB rfl rfl rfl hc i _ s3 σ3 H3 J9 I3 (Uy nQ Qs) OD stop) fun r s4 iI=>?_
   obtain⟨hr,I4⟩:=iI
   subst hr
   obtain⟨m',ON,_⟩:=I4.loc
   have pD:=I4.pin (D,AI ic n) (by simp[XB,Cx.block])
   exact hRR D C ys ic n H3 s4 m' (TU _) QB Le ON pD.1 vs hz pD.2.1 I4.free I4.os I4.bare I4.base I4.iM qn
  ·refine i6 (T.item XB rfl rfl rfl hc i _ s3 σ3 H3 J9 I3 (Uy nQ Qs) OD go) fun r s4 iI=>?_
   obtain⟨u,hr,h4⟩:=iI
   subst hr
   refine i6 h4 fun _ s5 iI=>?_
   obtain⟨x,H5,I5,r5,y5,NT,Ui⟩:=iI
   have Uj:=I5.pinned (Uy nQ Ui) (T.obj _ _ NT)
   refine i6 (hg C s H fp _ s5 σ3 H5 x u _ Uj r5 (step x H5 y5)) fun _ s6 iI=>?_
   obtain⟨σ6,H6,I6,q6⟩:=iI
   have Ap:∀{σ7:St} {H7:Hp} {s7:Shared},Inv XB ([(D,AI ic n)]++xA fp s5.heap) σ7 H7 s7→tn (i+1) s7.heap∧∀b∈fp,H7 b=none:=fun{σ7 H7 s7} I7=>
    ⟨T.keep _ _ _ NT fun b hb o e=>(I7.pin (b,o) (aay _ (aay _ (pz hb e)))).1,fun b hb=>by
     obtain⟨o,e,d⟩:=T.obj _ _ NT b hb
     exact(I7.pin (b,o) (aay _ (aay _ (pz hb e)))).2.1⟩
   refine i6 (ht C s H fp _ s6 σ6 H6 _ I6 q6) fun ok s7 iI=>?_
   obtain⟨H7,I7,q7⟩:=iI
   cases ok with
   | false=>
    rw[aai Z9] at q7 ⊢
    obtain⟨m',hm,w7⟩:=hN _ _ _ q7
    exact⟨m',hm,i+1,ys,ic,n,σ6,H7,I7.tL,vs,(Ap I7).1,(Ap I7).2,w7⟩
   | true=>
    rw[aak rfl] at q7 ⊢
    refine i6 (he C s H fp _ s7 σ6 H7 _ I7 q7) fun y s8 iI=>?_
    obtain⟨v,H8,I8,r8,n8⟩:=iI
    obtain⟨m',hm,w8⟩:=hN _ _ _ n8
    obtain⟨st8,fr8⟩:=Ap I8
    have pD:=I8.pin (D,AI ic n) (by simp)
    have hl:=vs.length
    refine append_at (hsz:=by show ic.toArray.size≤sizeLine;rw[aaa,←hl];exact hz) pD.1 fun h9 W9 e9=>?_
    have I9:Inv XB [] σ6 H8 {s8 with heap:=h9}:=by
     have J8:Inv XB [] σ6 H8 s8:=I8.xh fun p hp=>nomatch hp
     exact J8.turned (t':=s8.toks) (it:=D) (fun b o hb e=>W9.extBut b o hb e) pD.2.1 Le (.inr (Nat.le_of_eq hD)) (fun x c e=>QC x c e) fun p hp=>by simp[XB,Cx.block] at hp
    refine⟨m',hm,i+1,ys++[v],ic++[y],n+1,σ6,H8,I9.xh fun p hp=>?_,vs.append (.cons r8 .nil),T.keep _ _ _ st8 fun b hb o e=>W9.extBut b o (W8 b hb) e,fr8,w8⟩
    rw[TN.mp hp]
    refine⟨?_,pD.2.1,Le,fun hm=>?_,fun v z=>nomatch z⟩
    ·rw[e9]
     show some _=some _
     rw[List.push_toArray]
    ·exact pD.2.2.2.1 hm
 exact codeAny_compStart_list loop (T.self _ 0 _ _ _ GG loop)
variable{elt tg iter:Expr}{ifs:List Expr}{pos IS py:Pos}{wi:TI}{g:TG}{tt:TT}{te:TE}
theorem vO{D:Addr}{ys:List V}{ic:List Value}{n:Nat}{H':Hp}{s':Shared}{fp:List Addr}(I:Inv X c_ σ H s)(hf:∀b∈fp,sG X c_ H b)(hD:s.heap.objs.size≤D)(e:s'.heap.get? D=some (AI ic n))(vs:Vals ys ic)(hz:ys.length≤sizeLine)
  (nD:H' D=none) (os:s'.os=s.os) (bare:AllBare s'.gens) (un:Un (sF X.stack) fp H H' s.heap s'.heap) (iM:qA X.prog X.w H' s'.heap):Inv X c_ σ (upd H' D (.lst ys)) s':=by
 have neD:∀b o,s.heap.get? b=some o→b≠D:=fun b o q=>aaP (aax (aar q) hD)
 refine I.O3 (ch:=fp) os ⟨un.keep,un.slot,fun b o q nn hx=>by rw[d_ (neD b o q)];exact un.free b o q nn hx,un.there,fun b xs q=>?_,fun b o u q=>?_,fun b ps q=>?_⟩ (iM.Pw nD ⟨hz,ic,n,vs,e⟩) bare fun b hb=>?_
 ·have q':=un.pw b xs q
  rw[d_ (f_ q' nD)];exact q'
 ·have q':=un.tH b o u q
  rw[d_ (f_ q' nD)];exact q'
 ·obtain⟨more,q'⟩:=un.wL b ps q
  exact⟨more,by rw[d_ (f_ q' nD)];exact q'⟩
 ·obtain⟨f0,f1,f2,f3,f4,f5⟩:=hf b hb
  exact⟨f3,f1,f4,f5⟩
theorem xH{C:Addr}{h':Heap}{s0:Shared}(I:Inv X c_ σ H s)(hC:s0.heap.objs.size≤C)(nC:H C=none)(QD:Heap.SameBut C s.heap h')(I0:∃σ0 H0,Inv X c_ σ0 H0 s0):Inv X c_ σ H {s with heap:=h'}:=by
 obtain⟨σ0,H0,I0⟩:=I0
 obtain⟨_,f1,_,f3,f4,f5⟩:=I0.wM (H':=fun _=>none) hC rfl
 exact I.turned (t':=s.toks) (fun b o hb e=>QD.extBut b o hb e) nC f1 f3 f4 f5
theorem sd(N:List Str)(out:List (Str×NameKind))(is:List Nat)(hc:X.calm=true)(hi:PI X tg iter wi)(hk:scope.kind=.function)(hs:FJ N out is scope.names=true)
  (hg:∀C s H ex,PG (X.block scope (jt X.env.cells scope.names []) C s H ex) tg g) (ht:∀C s H ex,MH (X.block scope (jt X.env.cells scope.names []) C s H ex) ifs tt)
  (he:∀C s H ex,∃t,PE (X.block scope (jt X.env.cells scope.names []) C s H ex) elt t∧t=te) (DI:∀x,foldedSetIterable iter X.env x=pure x:=by intro _;rfl) (eN:X.N=N:=by rfl) (eo:X.env.scope.names=out:=by rfl) :
  PE X (.ListComp elt [⟨tg,iter,ifs,0⟩] scope pos) (RX is wi g tt te):=by
 intro c_ s σ H Q I h
 subst eN eo
 have S:=AH.of hs
 rw[eval_ListComp]
 refine wpAny_comprehension_free (use:=none) rfl DI (r_ (xG I S)) hk S.loc (i6 (hi c_ s σ H _ I h) fun v s1 h1=>i6 h1 fun R6 s2 h2=>?_)
 obtain⟨it,fp,tn,J,H2,rfl,I2,T,zw,f2,h2⟩:=h2
 refine zS (RR:=fun acc C=>compPost (model X.prog X.w) X.A X.xe none (EP X c_ σ Q) acc C) I2 hc S hk hg ht (fun C s H ex=>let ⟨_,h,e⟩:=he C s H ex;PE.eqv h e) T zw f2 h2 ?_
 intro D C ys ic n H' s' m hD hC Le hn e vs hz nD nC os bare un iM q
 have J1:Inv X c_ σ (upd H' D (.lst ys)) s':=vO I2 f2 hD e vs hz nD os bare un iM
 refine⟨m,hn,fun h' QD=>⟨.ref D,_,xH J1 hC (by rw[d_ (abA Le)];exact nC) QD ⟨_,_,I2⟩,rfl,q D nD⟩⟩
theorem EW{y:Str}{j:Nat}(N:List Str)(out:List (Str×NameKind))(is:List Nat)(hN:X.N.Nodup)(hj:X.N[j]?=some y)(hy:X.env.scope.names.lookup y=some .local)(hc:X.calm=true)(hi:PI X tg iter wi)(hk:scope.kind=.function)(hs:FJ N out is scope.names=true)
  (hg:∀C s H ex,PG (X.block scope (jt X.env.cells scope.names []) C s H ex) tg g) (ht:∀C s H ex,MH (X.block scope (jt X.env.cells scope.names []) C s H ex) ifs tt)
  (he:∀C s H ex,∃t,PE (X.block scope (jt X.env.cells scope.names []) C s H ex) elt t∧t=te)
  (Uz:swapsWith (.ListComp elt [⟨tg,iter,ifs,0⟩] scope pos) (some (.Name y py)) IS.line X.env=pure true:=by rfl) (DI:∀x,foldedSetIterable iter X.env x=pure x:=by intro _;rfl) (eN:X.N=N:=by rfl) (eo:X.env.scope.names=out:=by rfl) :
  PS X (.Assign [.Name y py] (.ListComp elt [⟨tg,iter,ifs,0⟩] scope pos) IS) (G0 (RX is wi g tt te) (oJ j)):=by
 intro c_ s σ H Dn I h
 subst eN eo
 have S:=AH.of hs
 rw[exec_Assign_Name_used _ _ _ _ Uz]
 refine QW (wpAny_standAt (QW ?_))
 show wpAny _ _ (do let _ ←comprehension (.ListComp elt [⟨tg,iter,ifs,0⟩] scope pos) scope X.env _ (newList []) false (eval iter X.env) (some (assign (.Name y py) X.env))) _ _ s
 refine QW (abr (wpAny_comprehension_free (use:=some (assign (.Name y py) X.env)) (Q:=fun _ s'=>SP X c_ Dn .next s') rfl DI (r_ (xG I S)) hk S.loc
  (i6 (hi c_ s σ H _ I h) fun v s1 h1=>i6 h1 fun R6 s2 h2=>?_)) (fun _ s' hq=>aag (aag hq)) fun _ _ e=>e)
 obtain⟨it,fp,tn,J,H2,rfl,I2,T,zw,f2,h2⟩:=h2
 refine zS (RR:=fun acc C=>compPost (model X.prog X.w) X.A X.xe (some (assign (.Name y py) X.env)) (fun _ s'=>SP X c_ Dn .next s') acc C) I2 hc S hk hg ht (fun C s H ex=>let ⟨_,h,e⟩:=he C s H ex;PE.eqv h e) T zw f2 h2 ?_
 intro D C ys ic n H' s' m hD hC Le hn e vs hz nD nC os bare un iM q
 have J1:Inv X c_ σ (upd H' D (.lst ys)) s':=vO I2 f2 hD e vs hz nD os bare un iM
 show wpAny _ _ (assign (.Name y py) X.env (.ref D)) _ _ _
 refine wpAny_assign_Name (zC J1 hN hj (.inl hy) (v:=.ref D) rfl (fun s5 J5 iI=>?_) (.inr hy))
 obtain⟨a,sb,ha⟩:=iI
 have hCa:C≠a:=by
  obtain⟨_,f1,_,f3,f4,f5⟩:=I2.wM (H':=fun _=>none) hC rfl
  rcases ha with z|z
  ·rw[z];exact f1
  ·exact fun q=>f4 _ _ z q.symm
 exact⟨m,hn.sameBut sb hCa,fun h' QD=>⟨_,_,xH J5 hC (by rw[d_ (abA Le)];exact nC) QD ⟨_,_,I2⟩,q D nD⟩⟩
end
section
variable{X:Cx}{elt tg iter:Expr}{ifs:List Expr}{scope:Scope}{pos:Pos}{wi:TI}{g:TG}{tt:TT}{te:TE}{py IS:Pos}
theorem AJ(N:List Str)(out:List (Str×NameKind))(is:List Nat)(hc:X.calm=true)(hi:PI X tg iter wi)(hk:scope.kind=.function)(hs:FJ N out is scope.names=true)
 (hg:∀C s H ex,PG (X.block scope (jt X.env.cells scope.names []) C s H ex) tg g) (ht:∀C s H ex,∃t,MH (X.block scope (jt X.env.cells scope.names []) C s H ex) ifs t∧t=tt)
 (he:∀C s H ex,∃t,PE (X.block scope (jt X.env.cells scope.names []) C s H ex) elt t∧t=te) (DI:∀x,foldedSetIterable iter X.env x=pure x:=by intro _;rfl) (eN:X.N=N:=by rfl) (eo:X.env.scope.names=out:=by rfl) :
 PE X (.ListComp elt [⟨tg,iter,ifs,0⟩] scope pos) (RX is wi g tt te):=sd N out is hc hi hk hs hg (fun C s H ex=>let ⟨_,h,e⟩:=ht C s H ex;e▸h) he DI eN eo
theorem xI{y:Str}{j:Nat}(N:List Str)(out:List (Str×NameKind))(is:List Nat)(hN:X.N.Nodup)(hj:X.N[j]?=some y)(hy:X.env.scope.names.lookup y=some .local)(hc:X.calm=true)(hi:PI X tg iter wi)(hk:scope.kind=.function)(hs:FJ N out is scope.names=true)
 (hg:∀C s H ex,PG (X.block scope (jt X.env.cells scope.names []) C s H ex) tg g) (ht:∀C s H ex,∃t,MH (X.block scope (jt X.env.cells scope.names []) C s H ex) ifs t∧t=tt)
 (he:∀C s H ex,∃t,PE (X.block scope (jt X.env.cells scope.names []) C s H ex) elt t∧t=te)
 (Uz:swapsWith (.ListComp elt [⟨tg,iter,ifs,0⟩] scope pos) (some (.Name y py)) IS.line X.env=pure true:=by rfl) (DI:∀x,foldedSetIterable iter X.env x=pure x:=by intro _;rfl) (eN:X.N=N:=by rfl) (eo:X.env.scope.names=out:=by rfl) :
 PS X (.Assign [.Name y py] (.ListComp elt [⟨tg,iter,ifs,0⟩] scope pos) IS) (G0 (RX is wi g tt te) (oJ j)):=EW N out is hN hj hy hc hi hk hs hg (fun C s H ex=>let ⟨_,h,e⟩:=ht C s H ex;e▸h) he Uz DI eN eo
end
theorem xJ{lo:Int}{n:Nat}{g:TG}{tt:TT}{te:TE}{Q:List V→Hp→Prop}{σ:St}{H:Hp}(hn:n≤sizeLine)(Pv:Nat→List V→St→Hp→Prop)(h0:Pv 0 [] σ H)(hlen:∀i ys σ H,Pv i ys σ H→ys.length≤i)
  (hs:∀i ys σ H,i<n→Pv i ys σ H→g (.int (lo+i)) σ H fun σ2 H2=>tt σ2 H2 fun b H3=>if b=true then te σ2 H3 fun v H4=>Pv (i+1) (ys++[v]) σ2 H4 else Pv (i+1) ys σ2 H3)
  (hd:∀ys σ H,Pv n ys σ H→Q ys H):D1 g tt te (Lx lo n) Q σ H:=by
 refine⟨fun i m ys σ H=>m=n-i∧i≤n∧Pv i ys σ H,⟨n,by simp,aaE _,h0⟩,?_⟩
 rintro i m ys σ H ⟨rfl,hi,p⟩
 have hl:=hlen i ys σ H p
 by_cases kr:i<n
 ·refine .inr ⟨kr,by omega,Pv (i+1),fun NZ σ' H' p'=>⟨n-(i+1),by omega,rfl,kr,p'⟩,fun x H' y=>?_⟩
  obtain⟨rfl,rfl⟩:=y
  exact hs i ys σ _ kr p
 ·have e:i=n:=by omega
  subst e
  exact .inl ⟨TU _,by omega,hd ys σ H p⟩
theorem jU{K:Qqy}{a:Addr}{xs:List V}{g:TG}{tt:TT}{te:TE}{Q:List V→Hp→Prop}{σ:St}{H:Hp}(hn:xs.length≤sizeLine)(Pv:Nat→List V→St→Hp→Prop)(h0:Pv 0 [] σ H)(hl:∀i ys σ H,i≤xs.length→Pv i ys σ H→ib K H a xs∧ys.length≤i)
  (hs:∀i x ys σ H,xs[i]?=some x→Pv i ys σ H→g x σ H fun σ2 H2=>tt σ2 H2 fun b H3=>if b=true then te σ2 H3 fun v H4=>Pv (i+1) (ys++[v]) σ2 H4 else Pv (i+1) ys σ2 H3)
  (hd:∀ys σ H,Pv xs.length ys σ H→Q ys H):D1 g tt te (OC K a) Q σ H:=by
 refine⟨fun i m ys σ H=>m=xs.length-i∧i≤xs.length∧Pv i ys σ H,⟨xs.length,by simp,aaE _,h0⟩,?_⟩
 rintro i m ys σ H ⟨rfl,hi,p⟩
 obtain⟨q,hy⟩:=hl i ys σ H hi p
 by_cases kr:i<xs.length
 ·refine .inr ⟨⟨xs,xs[i],q,by simp[kr]⟩,by omega,Pv (i+1),fun NZ σ' H' p'=>⟨xs.length-(i+1),by omega,rfl,kr,p'⟩,fun x H' y=>?_⟩
  obtain⟨rfl,y⟩:=y
  exact hs i x ys σ _ (y xs q) p
 ·have e:i=xs.length:=by omega
  subst e
  exact .inl ⟨⟨xs,q,TU _⟩,by omega,hd ys σ H p⟩
end L2
namespace PySem
section
variable{prog:Program}{w:World}{A:Around}{E:Qqq}{s:Shared}
end
end PySem
namespace L2
open PySem PySem.Spec PyProof.Rows
noncomputable def MJ(lo st:Int)(n:Nat):It:=⟨fun i _=>i<n,fun i H x H'=>H'=H∧x=.int (lo+i*st),fun i _=>n≤i⟩
theorem vP{P:Program}{w:World}{K:PySem.W.Frag}{tg:Expr}(it:Addr)(lo st:Int)(n:Nat):Turn P w K tg (MJ lo st n) [it] it (fun i h=>IsRangeIter h it (lo+(i:Nat)*st) ((n:Int)-(i:Nat)) st) where
 mem:=by simp
 obj:=fun i h st b hb=>by
  have e:b=it:=by simpa using hb
  subst e
  exact⟨_,st,fun v z=>by
   have z':Data.fields _=Data.cell v:=z
   cases z'⟩
 keep:=fun i h h' st k=>k it (by simp) _ st
 item:=by
  intro X hP hw hK hc i c_ s σ H E I hf stt hg
  subst hP hw hK
  obtain⟨f0,f1,f2,f3,f4,f5⟩:=hf it (by simp)
  have W:=Walks.range (prog:=X.prog) (w:=X.w) (I.ok.hd hc) it lo st n
  refine W.item i s _ _ hg stt fun v h' tk hv zv kk=>?_
  obtain⟨t,rfl⟩:=hv
  have I1:Inv X c_ σ H {s with heap:=h',toks:=tk}:=I.turned (fun b o hb e=>kk b o (by simpa using hb) e) f0 f1 f3 f4 f5
  exact⟨_,rfl,xy (s:={s with heap:=h',toks:=tk}) (n:="range_iterator") zv rfl rfl (by decide) ⟨.int (lo+i*st),H,I1,⟨t,rfl⟩,⟨rfl,rfl⟩,zv,fun b hb=>(hf b hb).1⟩⟩
 done:=by
  intro X hP hw hK hc i c_ s σ H E I hf st hg
  subst hP hw hK
  obtain⟨f0,f1,f2,f3,f4,f5⟩:=hf it (by simp)
  exact wpAny_pyNext_range_end (I.ok.hd hc) st (by have:n≤i:=hg;omega) fun h' eb=>⟨rfl,I.turned (t':=s.toks) (fun b o hb e=>eb b o hb e) f0 f1 f3 f4 f5⟩
 self:=fun _ _ _ _ _ st h=>wpAny_pyIter_rangeiter st h
theorem rangeSize_down(a b:Int):Builtin.Range.rangeSize a b (-1)=((a-b).toNat:Int):=by
 unfold Builtin.Range.rangeSize
 simp only [show ¬((-1:Int)>0) by decide,ab3]
 have e:(- -1:Int)=1:=by decide
 rw[e,Int.ediv_one]
 split<;>omega
theorem small_down{a b:Int}(ha:-(2 ^ 61)≤a)(ha':a<2 ^ 61)(hb:-(2 ^ 61)≤b)(hb':b<2 ^ 61):Builtin.Range.small a b (-1)=true:=by
 unfold Builtin.Range.small
 rw[rangeSize_down]
 simp only [Builtin.Range.rangeFitsLong,abb,ab7,abG,abR,show ¬((-1:Int)>0) by decide,ab3]
 omega
section
variable{X:Cx}{tg:Expr}
def Px(ta:TA):TI:=fun σ H R=>ta σ H fun vs H1=>∃i j:Int,vs=[.int i,.int j,.int (-1)]∧(-(2 ^ 61)≤i∧i<2 ^ 61∧-(2 ^ 61)≤j∧j<2 ^ 61)∧R (MJ i (-1) (i-j).toNat) H1
theorem uV{a b c:Expr}{ta:TA}{p pos:Pos}(hg:Gl X "range")(hm:X.mg "range"=none)(ha:PA X [a,b,c] ta)(hs:starEach [a,b,c] X.env=[(false,eval a X.env),(false,eval b X.env),(false,eval c X.env)]:=by rfl)
  (Ao:starEach [b,c] X.env=[(false,eval b X.env),(false,eval c X.env)]:=by rfl):PI X tg (.Call (.Name "range" p) [a,b,c] [] pos) (Px ta):=by
 intro c_ s σ H R I h
 refine Call_ (mV I hg hm boot_range (aaN (i6 (ha pos c_ s σ H _ I h) fun us s1 iI=>?_) (by rw[hs,Ao]) (by rw[Ao];rfl)))
 obtain⟨vs,H1,I1,r1,q1⟩:=iI
 obtain⟨i,j,e,⟨q1,q2,q3,q4⟩,q⟩:=q1
 subst e
 cases r1 with
 | cons r rr=>
  cases rr with
  | cons r' rr=>
   cases rr with
   | cons UA rr=>
    cases rr
    obtain⟨t,rfl⟩:=r
    obtain⟨t',rfl⟩:=r'
    obtain⟨R9,rfl⟩:=UA
    refine call_range_3 (by decide) ?_ (Or.inl (PyProof.noPylong_small (by decide)))
    refine wpAny_pyIter_range (IsRange.new ..) (small_down q1 q2 q3 q4) ?_
    generalize ho:({cls:=.type "range",data:=.fields #[.int i t,.int j t',.int (-1) R9]}:Obj)=o
    have I2:Inv X c_ σ H1 {s1 with heap:=s1.heap.push o,toks:=s1.toks}:=I1.kept fun b o e=>WN _ e
    refine⟨(s1.heap.push o).objs.size,[(s1.heap.push o).objs.size],_,_,H1,rfl,I2.kept (t':=s1.toks) fun b o e=>WN _ e,vP _ i (-1) (i-j).toNat,?_,fun b hb=>?_,q⟩
    ·show IsRangeIter _ _ (i+((0:Nat):Int)*(-1)) ((((i-j).toNat:Nat):Int)-((0:Nat):Int)) (-1)
     have e1:i+((0:Nat):Int)*(-1)=i:=by simp
     have e2:(((i-j).toNat:Nat):Int)-((0:Nat):Int)=Builtin.Range.rangeSize i j (-1):=by rw[rangeSize_down];simp
     rw[e1,e2]
     exact aat _ rfl
    ·have e:b=(s1.heap.push o).objs.size:=by simpa using hb
     subst e
     exact I2.wM (TU _) (I2.iM.fresh (TU _))
end
theorem sL{lo st:Int}{n:Nat}{g:TG}{tb:TS}{D:Ends}{σ:St}{H:Hp}(Pv:Nat→St→Hp→Prop)(h0:Pv 0 σ H)
  (hs:∀i σ H,i<n→Pv i σ H→g (.int (lo+i*st)) σ H fun σ2 H2=>tb {D with nx:=Pv (i+1),ct:=Pv (i+1),bk:=D.nx} σ2 H2) (hd:∀σ H,Pv n σ H→D.nx σ H) :
  ∃W:Nat→Nat→St→Hp→Prop,(∃m,W 0 m σ H)∧∀i m σ H,W i m σ H→
   ((MJ lo st n).stop i H∧D.nx σ H)∨((MJ lo st n).go i H∧∃N:St→Hp→Prop,(∀σ' H',N σ' H'→∃m',m'<m∧W (i+1) m' σ' H')∧∀x H',(MJ lo st n).Jw i H x H'→g x σ H' fun σ2 H2=>tb {D with nx:=N,ct:=N,bk:=D.nx} σ2 H2):=by
 refine⟨fun i m σ H=>m=n-i∧i≤n∧Pv i σ H,⟨n,by simp,aaE _,h0⟩,?_⟩
 rintro i m σ H ⟨rfl,hi,p⟩
 by_cases kr:i<n
 ·refine .inr ⟨kr,Pv (i+1),fun σ' H' p'=>⟨n-(i+1),by omega,rfl,kr,p'⟩,fun x H' y=>?_⟩
  obtain⟨e,y⟩:=y
  subst e y
  exact hs i σ _ kr p
 ·have e:i=n:=by omega
  subst e
  exact .inl ⟨TU _,hd σ H p⟩
section
variable{X:Cx}
theorem i5:vI X (.builtin "isinstance") (fun xs H Q=>∃x T t b,xs=[x,.ty T]∧uR X.K H x t∧W.kitOne X.K t (.type T)=some b∧Q (.bl b) H):=by
 intro c_ s σ H xs us Q I r h
 obtain⟨x,T,t,b,rfl,ty,e,q⟩:=h
 obtain⟨u,u',rfl,ru,ru'⟩:=vals2 r
 cases (show u'=Value.type T from ru')
 exact FA I ru ty e fun tk=>⟨.bl b,H,I.tok tk,rfl,q⟩
theorem xK:∀{xs:List Str} {us:List Value},Vals (xs.map V.str) us→StrsAre us xs
 | [],_,h=>by cases h;exact .nil
 | x::r,_,h=>by
  cases h with
  | cons a t=>
   obtain⟨tk,rfl⟩:=a
   exact .cons x tk (xK t)
def rJoin(K:Qqy):V→List V→Hp→VK→Prop:=fun x vs H Q=>∃z l xs,x=.str z∧vs=[.ref l]∧ib K H l (xs.map V.str)∧(xs.map (·.length)).sum+xs.length*z.length≤16777216∧Q (.str (Txt.join z xs)) H
theorem J_:Tt X "str.join" (rJoin X.K):=by
 intro c_ s σ H x xs v us Q I rx r h
 obtain⟨z,l,ys,rfl,rfl,hl,hz,q⟩:=h
 obtain⟨u,rfl,ru⟩:=vals1 r
 cases ru
 obtain⟨t,rfl⟩:=rx
 obtain⟨ic,rv,p,_⟩:=I.list hl
 exact join_list p.isList (by simpa using xK rv) hz fun t' k=>⟨.str _,H,I.tok k,⟨t',rfl⟩,q⟩
end
inductive mJ(K:Qqy)(H:Hp):Nat→V→V→Bool→Prop
 | flat {n x y} (fx:qE x=true) (fy:qE y=true):mJ K H n x y (OE x y)
 | lists {n a c xs ys} {e:Nat→Bool} (h1:ib K H a xs) (h2:ib K H c ys) (hl:xs.length=ys.length) (he:∀(j:Nat) u v,xs[j]?=some u→ys[j]?=some v→mJ K H n u v (e j)):mJ K H (n+1) (.ref a) (.ref c) ((List.range xs.length).all e)
 | Ka {n a c xs ys} (h1:ib K H a xs) (h2:ib K H c ys) (hl:xs.length≠ys.length):mJ K H n (.ref a) (.ref c) false
 | pw {n a c xs ys} {e:Nat→Bool} (h1:lJ K H a xs) (h2:lJ K H c ys) (he:∀(j:Nat) u v,xs[j]?=some u→ys[j]?=some v→mJ K H n u v (e j)):mJ K H (n+1) (.ref a) (.ref c) ((List.range (min xs.length ys.length)).all e&&xs.length ==ys.length)
 | uW {n a xs y} (h1:ib K H a xs) (fy:qE y=true):mJ K H n (.ref a) y false
 | uX {n a xs y} (h1:ib K H a xs) (fy:qE y=true):mJ K H n y (.ref a) false
 | xM {n a xs y} (h1:lJ K H a xs) (fy:qE y=true):mJ K H n (.ref a) y false
 | xN {n a xs y} (h1:lJ K H a xs) (fy:qE y=true):mJ K H n y (.ref a) false
 | xO {n a c xs ys} (h1:ib K H a xs) (h2:lJ K H c ys):mJ K H n (.ref a) (.ref c) false
 | xP {n a c xs ys} (h1:lJ K H a xs) (h2:ib K H c ys):mJ K H n (.ref a) (.ref c) false
theorem Hm:∀{x:V},qE x=true→OE x x=true:=by
 intro x h
 cases x<;>simp[qE,OE] at *
section
variable{X:Cx}{c_:Qqz}{σ:St}{H:Hp}{s:Shared}
theorem Inv.LF{a c:Addr}{xs ys:List V}(I:Inv X c_ σ H s)(h1:ib X.K H a xs)(h2:lJ X.K H c ys):a≠c:=by
 obtain⟨ic,_,p,_⟩:=I.list h1
 obtain⟨lG,_,p2,_⟩:=I.tuple h2
 exact SeqAt.ne_of_list_tuple p.isList (show s.heap.IsTuple c lG.toArray from p2)
theorem mJ.self{n:Nat}{x y:V}{b:Bool}(I:Inv X c_ σ H s)(h:mJ X.K H n x y b):x=y→b=true:=by
 induction h with
 | flat fx fy=>intro e;subst e;exact Hm fx
 | lists h1 h2 hl he ih=>
  intro e
  cases e
  have:=I.oI h1 h2
  subst this
  refine abB.mpr fun j hj=>?_
  have hj:=abN.mp hj
  exact ih j _ _ (QV hj) (QV hj) rfl
 | Ka h1 h2 hl=>intro e;cases e;exact absurd (aaQ List.length (I.oI h1 h2)) hl
 | pw h1 h2 he ih=>
  intro e
  cases e
  have:=I.Fu h1 h2
  subst this
  rw[abb]
  refine⟨abB.mpr fun j hj=>?_,by simp⟩
  have hj:=abN.mp hj
  rw[Nat.min_self] at hj
  exact ih j _ _ (QV hj) (QV hj) rfl
 | uW h1 fy=>intro e;subst e;exact absurd (show false=true from fy) Z9
 | uX h1 fy=>intro e;subst e;exact absurd (show false=true from fy) Z9
 | xM h1 fy=>intro e;subst e;exact absurd (show false=true from fy) Z9
 | xN h1 fy=>intro e;subst e;exact absurd (show false=true from fy) Z9
 | xO h1 h2=>intro e;cases e;exact absurd rfl (I.LF h1 h2)
 | xP h1 h2=>intro e;cases e;exact absurd rfl (I.LF h2 h1)
theorem pC{y:V}{v:Value}(r:RelV y v)(f:qE y=true):v=.none∨(∃b,v=.bool b)∨(∃i t,v=.int i t)∨∃x t,v=.str x t:=by
 cases y with
 | iP=>exact .inl r
 | bl b=>exact .inr (.inl ⟨b,r⟩)
 | int i=>obtain⟨t,e⟩:=r;exact .inr (.inr (.inl ⟨i,t,e⟩))
 | str x=>obtain⟨t,e⟩:=r;exact .inr (.inr (.inr ⟨x,t,e⟩))
 | _=>exact absurd (show false=true from f) Z9
theorem nV{xs:List V}{ic:List Value}(rv:Vals xs ic){j:Nat}(h:j<ic.toArray.size):∃x,xs[j]?=some x∧RelV x ic.toArray[j]:=by
 have hl:=rv.length
 have hj:j<ic.length:=by simpa using h
 have hx:j<xs.length:=by omega
 obtain⟨u,hu,ru⟩:=rv.get (QV hx)
 refine⟨xs[j],QV hx,?_⟩
 rw[QV hj] at hu
 cases hu
 simpa using ru
theorem mJ.at{n:Nat}{x y:V}{b:Bool}(I:Inv X c_ σ H s)(h:mJ X.K H n x y b):∀(A:Around)(u v:Value),RelV x u→RelV y v→A.units+n<cLine→SeqAt.EqAt A s u v b:=by
 induction h with
 | flat fx fy=>intro A u v ru rv _;exact Mw ru rv fx fy
 | @lists n a c xs ys e h1 h2 hl he ih=>
  intro A u v ru rv hu
  cases ru;cases rv
  by_cases QE:a=c
  ·subst QE
   have hb:=mJ.self I (mJ.lists h1 h2 hl he) rfl
   rw[hb]
   exact SeqAt.EqAt.same _
  ·obtain⟨ic,r1,p1,_⟩:=I.list h1
   obtain⟨lG,r2,p2,_⟩:=I.list h2
   have l1:=r1.length
   have l2:=r2.length
   refine SeqAt.EqAt.of_refs QE ?_
   have q:=SeqAt.RcAt.lists (A:=A) (e:=e) p1.isList p2.isList (by simp;omega) (by omega) fun j g1 g2=>by
    obtain⟨x,ex,rx⟩:=nV r1 g1
    obtain⟨y,ey,ry⟩:=nV r2 g2
    exact ih j x y ex ey A.in1 _ _ rx ry (by show A.units+1+n<cLine;omega)
   rw[aaa,←l1] at q
   exact q
 | @Ka n a c xs ys h1 h2 hl=>
  intro A u v ru rv hu
  cases ru;cases rv
  obtain⟨ic,r1,p1,_⟩:=I.list h1
  obtain⟨lG,r2,p2,_⟩:=I.list h2
  have l1:=r1.length
  have l2:=r2.length
  refine SeqAt.EqAt.of_refs (fun e=>?_) (SeqAt.RcAt.lists_lengths p1.isList p2.isList (by simp;omega) (by omega))
  subst e
  exact hl (aaQ List.length (I.oI h1 h2))
 | @pw n a c xs ys e h1 h2 he ih=>
  intro A u v ru rv hu
  cases ru;cases rv
  by_cases QE:a=c
  ·subst QE
   have hb:=mJ.self I (mJ.pw h1 h2 he) rfl
   rw[hb]
   exact SeqAt.EqAt.same _
  ·obtain⟨ic,r1,p1,_⟩:=I.tuple h1
   obtain⟨lG,r2,p2,_⟩:=I.tuple h2
   have l1:=r1.length
   have l2:=r2.length
   refine SeqAt.EqAt.of_refs QE ?_
   have q:=SeqAt.RcAt.tuples (A:=A) (e:=e) (show s.heap.IsTuple a ic.toArray from p1) (show s.heap.IsTuple c lG.toArray from p2) (by omega) fun j g1 g2=>by
    obtain⟨x,ex,rx⟩:=nV r1 g1
    obtain⟨y,ey,ry⟩:=nV r2 g2
    exact ih j x y ex ey A.in1 _ _ rx ry (by show A.units+1+n<cLine;omega)
   rw[aaa,aaa,←l1,←l2] at q
   exact q
 | @uW n a xs y h1 fy=>
  intro A u v ru rv hu
  cases ru
  obtain⟨ic,r1,p1,_⟩:=I.list h1
  rcases pC rv fy with rfl|⟨b,rfl⟩|⟨i,t,rfl⟩|⟨x,t,rfl⟩
  ·exact .list_none p1.isList (by omega)
  ·exact .list_bool b p1.isList (by omega)
  ·exact .list_int i t p1.isList (by omega)
  ·exact .list_str x t p1.isList (by omega)
 | @uX n a xs y h1 fy=>
  intro A u v ru rv hu
  cases rv
  obtain⟨ic,r1,p1,_⟩:=I.list h1
  rcases pC ru fy with rfl|⟨b,rfl⟩|⟨i,t,rfl⟩|⟨x,t,rfl⟩
  ·exact .none_list p1.isList (by omega)
  ·exact .bool_list b p1.isList (by omega)
  ·exact .int_list i t p1.isList (by omega)
  ·exact .str_list x t p1.isList (by omega)
 | @xM n a xs y h1 fy=>
  intro A u v ru rv hu
  cases ru
  obtain⟨ic,r1,p1,_⟩:=I.tuple h1
  have p1:s.heap.IsTuple a ic.toArray:=p1
  rcases pC rv fy with rfl|⟨b,rfl⟩|⟨i,t,rfl⟩|⟨x,t,rfl⟩
  ·exact .tuple_none p1 (by omega)
  ·exact .tuple_bool b p1 (by omega)
  ·exact .tuple_int i t p1 (by omega)
  ·exact .tuple_str x t p1 (by omega)
 | @xN n a xs y h1 fy=>
  intro A u v ru rv hu
  cases rv
  obtain⟨ic,r1,p1,_⟩:=I.tuple h1
  have p1:s.heap.IsTuple a ic.toArray:=p1
  rcases pC ru fy with rfl|⟨b,rfl⟩|⟨i,t,rfl⟩|⟨x,t,rfl⟩
  ·exact .none_tuple p1 (by omega)
  ·exact .bool_tuple b p1 (by omega)
  ·exact .int_tuple i t p1 (by omega)
  ·exact .str_tuple x t p1 (by omega)
 | @xO n a c xs ys h1 h2=>
  intro A u v ru rv hu
  cases ru;cases rv
  obtain⟨ic,r1,p1,_⟩:=I.list h1
  obtain⟨lG,r2,p2,_⟩:=I.tuple h2
  exact .list_tuple p1.isList (show s.heap.IsTuple c lG.toArray from p2) (by omega)
 | @xP n a c xs ys h1 h2=>
  intro A u v ru rv hu
  cases ru;cases rv
  obtain⟨ic,r1,p1,_⟩:=I.tuple h1
  obtain⟨lG,r2,p2,_⟩:=I.list h2
  exact .tuple_list (show s.heap.IsTuple a ic.toArray from p1) p2.isList (by omega)
def Py(x y:V):Prop:=∃a c,x=.ref a∧y=.ref c
theorem mJ.rc{n:Nat}{x y:V}{b:Bool}{A:Around}{u v:Value}(I:Inv X c_ σ H s)(h:mJ X.K H n x y b)(sq:Py x y)(ru:RelV x u)(rv:RelV y v)(hu:A.units+n+1<cLine):SeqAt.RcAt A s u v b∧SeqAt.RcNeAt A s u v (!b):=by
 obtain⟨a0,c0,rfl,rfl⟩:=sq
 cases ru;cases rv
 cases h with
 | flat fx fy=>exact absurd (show false=true from fx) Z9
 | @lists n a c xs ys e h1 h2 hl he=>
  obtain⟨ic,r1,p1,_⟩:=I.list h1
  obtain⟨lG,r2,p2,_⟩:=I.list h2
  have l1:=r1.length
  have l2:=r2.length
  have el:∀j (g1:j<ic.toArray.size) (g2:j<lG.toArray.size),SeqAt.EqAt A.in1 s ic.toArray[j] lG.toArray[j] (e j):=fun j g1 g2=>by
   obtain⟨x,ex,rx⟩:=nV r1 g1
   obtain⟨y,ey,ry⟩:=nV r2 g2
   exact(he j x y ex ey).at I A.in1 _ _ rx ry (by show A.units+1+n<cLine;omega)
  have q:=SeqAt.RcAt.lists (A:=A) (e:=e) p1.isList p2.isList (by simp;omega) (by omega) el
  have q':=SeqAt.RcNeAt.lists (A:=A) (e:=e) p1.isList p2.isList (by simp;omega) (by omega) el
  rw[aaa,←l1] at q q'
  exact⟨q,q'⟩
 | @Ka n a c xs ys h1 h2 hl=>
  obtain⟨ic,r1,p1,_⟩:=I.list h1
  obtain⟨lG,r2,p2,_⟩:=I.list h2
  have l1:=r1.length
  have l2:=r2.length
  exact⟨SeqAt.RcAt.lists_lengths p1.isList p2.isList (by simp;omega) (by omega),SeqAt.RcNeAt.lists_lengths p1.isList p2.isList (by simp;omega) (by omega)⟩
 | @pw n a c xs ys e h1 h2 he=>
  obtain⟨ic,r1,p1,_⟩:=I.tuple h1
  obtain⟨lG,r2,p2,_⟩:=I.tuple h2
  have l1:=r1.length
  have l2:=r2.length
  have el:∀j (g1:j<ic.toArray.size) (g2:j<lG.toArray.size),SeqAt.EqAt A.in1 s ic.toArray[j] lG.toArray[j] (e j):=fun j g1 g2=>by
   obtain⟨x,ex,rx⟩:=nV r1 g1
   obtain⟨y,ey,ry⟩:=nV r2 g2
   exact(he j x y ex ey).at I A.in1 _ _ rx ry (by show A.units+1+n<cLine;omega)
  have q:=SeqAt.RcAt.tuples (A:=A) (e:=e) (show s.heap.IsTuple a0 ic.toArray from p1) (show s.heap.IsTuple c0 lG.toArray from p2) (by omega) el
  have q':=SeqAt.RcNeAt.tuples (A:=A) (e:=e) (show s.heap.IsTuple a0 ic.toArray from p1) (show s.heap.IsTuple c0 lG.toArray from p2) (by omega) el
  rw[aaa,aaa,←l1,←l2] at q q'
  exact⟨q,q'⟩
 | uW h1 fy=>exact absurd (show false=true from fy) Z9
 | uX h1 fy=>exact absurd (show false=true from fy) Z9
 | xM h1 fy=>exact absurd (show false=true from fy) Z9
 | xN h1 fy=>exact absurd (show false=true from fy) Z9
 | @xO n a c xs ys h1 h2=>
  obtain⟨ic,r1,p1,_⟩:=I.list h1
  obtain⟨lG,r2,p2,_⟩:=I.tuple h2
  exact⟨.list_tuple p1.isList (show s.heap.IsTuple c0 lG.toArray from p2) (by omega),.list_tuple p1.isList (show s.heap.IsTuple c0 lG.toArray from p2) (by omega)⟩
 | @xP n a c xs ys h1 h2=>
  obtain⟨ic,r1,p1,_⟩:=I.tuple h1
  obtain⟨lG,r2,p2,_⟩:=I.list h2
  exact⟨.tuple_list (show s.heap.IsTuple a0 ic.toArray from p1) p2.isList (by omega),.tuple_list (show s.heap.IsTuple a0 ic.toArray from p1) p2.isList (by omega)⟩
end
section
variable{X:Cx}
def TM(K:Qqy)(n:Nat):R2:=fun x y H Q=>∃b,Py x y∧mJ K H n x y b∧Q (.bl b) H
theorem Hn(n:Nat)(hu:X.A.units+n+1<cLine):wN X (compareOp .Eq) (TM X.K n):=by
 intro c_ s σ H x y u v Q I rx ry h
 obtain⟨b,sq,e,q⟩:=h
 exact(e.rc I sq rx ry hu).1 X.prog X.w X.xe _ ⟨.bl b,H,I,rfl,q⟩
end
theorem mJ.Kb{K:Qqy}{H:Hp}{n:Nat}{β:Type}[DecidableEq β]{F:β→V→Prop}(hF:∀p q u v,F p u→F q v→mJ K H n u v (decide (p=q))){a c:Addr}{xs ys:List V}{ps qs:List β}
  (h1:ib K H a xs) (h2:ib K H c ys) (r1:Paired F ps xs) (r2:Paired F qs ys):mJ K H (n+1) (.ref a) (.ref c) (decide (ps=qs)):=by
 have l1:=r1.length
 have l2:=r2.length
 have QF:∀{ps:List β} {xs:List V},Paired F ps xs→∀(j:Nat) u,xs[j]?=some u→∃p,ps[j]?=some p∧F p u:=by
  intro ps xs r
  induction r with
  | nil=>intro j u h;simp at h
  | cons f t ih=>
   intro j u h
   cases j with
   | zero=>simp at h;subst h;exact⟨_,rfl,f⟩
   | succ j=>simpa using ih j u (by simpa using h)
 by_cases hl:xs.length=ys.length
 ·have e:mJ K H (n+1) (.ref a) (.ref c) ((List.range xs.length).all fun j=>decide (ps[j]?=qs[j]?)):=.lists h1 h2 hl fun j u v hu hv=>by
   obtain⟨p,ep,fp⟩:=QF r1 j u hu
   obtain⟨q,eq,fq⟩:=QF r2 j v hv
   have:=hF p q u v fp fq
   rw[ep,eq]
   have e:decide (some p=some q)=decide (p=q):=by simp
   rw[e]
   exact this
  have e2:((List.range xs.length).all fun j=>decide (ps[j]?=qs[j]?))=decide (ps=qs):=by
   by_cases h:ps=qs
   ·subst h;simp
   ·rw[aab h,abF]
    intro z
    refine h (List.ext_getElem? fun j=>?_)
    by_cases hj:j<xs.length
    ·simpa using abB.mp z j (abN.mpr hj)
    ·rw[List.getElem?_eq_none_iff.mpr (by omega),List.getElem?_eq_none_iff.mpr (by omega)]
  rw[←e2]
  exact e
 ·rw[aab fun z=>hl (by rw[←l1,←l2,z])]
  exact .Ka h1 h2 hl
theorem mJ.AK{K:Qqy}{H:Hp}{n:Nat}(p q:Str):mJ K H n (.str p) (.str q) (decide (p=q)):=by
 have:OE (.str p) (.str q)=decide (p=q):=(Bool.beq_eq_decide_eq p q)
 rw[←this]
 exact .flat rfl rfl
theorem mJ.Ho{K:Qqy}{H:Hp}{n:Nat}(p q:Int):mJ K H n (.int p) (.int q) (decide (p=q)):=by
 have:OE (.int p) (.int q)=decide (p=q):=(Bool.beq_eq_decide_eq p q)
 rw[←this]
 exact .flat rfl rfl
structure Pz(P:Program)(w:World)(outer:List Env)(H H':Hp)(s s':Shared)(e C:Addr):Prop where
 os:s'.os=s.os
 bare:AllBare s'.gens
 un:Un (sF outer) [] H H' s.heap s'.heap
 iM:qA P w H' s'.heap
 fl:∃B t,Heap.FlyingW B outer e (.ref C) (.ref t) s'.heap∧∀b o,s'.heap.get? b=some o→b∉sF outer→((∃u,H' b=some u)∨∃o',s.heap.get? b=some o')→B.get? b=some o
 new:s.heap.get? e=none
 free:H' e=none
def tT(P:Program)(w:World):ER:=fun outer H s E ev s'=>∃e C H',ev=.ref e∧Pz P w outer H H' s s' e C∧E (.ref C) none H'
theorem i9.ex{P:Program}{w:World}{H:Hp}{h:Heap}{a:Addr}{o:HO}(x:i9 P w H h a o):∃ob,h.get? a=some ob:=by
 cases o with
 | lst xs=>obtain⟨_,_,_,_,e⟩:=x;exact⟨_,e⟩
 | tup xs=>obtain⟨_,_,_,o,e,_⟩:=x;exact⟨_,e⟩
 | dK kvs=>obtain⟨_,_,_,_,o,_,_,e,_⟩:=x;exact⟨_,e⟩
 | dT kvs=>obtain⟨_,_,_,_,o,_,_,e,_⟩:=x;exact⟨_,e⟩
 | set S n=>obtain⟨o,_,_,_,e,_⟩:=x;exact⟨_,e⟩
 | ins C dx fs=>obtain⟨_,_,_,e,_⟩:=x;exact⟨_,e⟩
 | own y=>obtain⟨_,e⟩:=x;exact⟨_,e⟩
 | xd fs=>obtain⟨_,⟨_,_,_,e,_⟩,_⟩:=x;exact⟨_,e⟩
 | RT lo hi=>obtain⟨_,_,_,e⟩:=x;exact⟨_,e⟩
 | nR ob u=>obtain⟨e,_⟩:=x;exact⟨_,e⟩
 | Ju ps=>exact⟨_,(show h.get? a=some _ from x)⟩
 | met f y=>exact⟨_,(show h.get? a=some _ from x)⟩
 | ext φ=>obtain⟨_,⟨_,e⟩,_⟩:=x;exact⟨_,e⟩
section
variable{X:Cx}{c_:Qqz}{σ:St}{H H':Hp}{s s':Shared}{e C:Addr}{M:Model}{E:Qqq}
structure Bd(X:Cx):Prop where
 stack:X.stack=X.env::X.outer
 frame:X.env.frame=some X.env.locals
 ex:X.ex=[]
theorem Inv.JR(I:Inv X c_ σ H s){b:Addr}{o:Obj}(h:X.s₀.heap.get? b=some o)(nf:b∉X.fs):b∉sF X.stack:=fun hb=>by
 rcases WK.mp (I.uO b hb) with z|z
 ·rw[z] at h
  exact absurd (aax (aar h) I.ok.above) (aba _)
 ·exact nf z
theorem Hq(I:Inv X c_ σ H s)(bd:Bd X)(un:Un (sF X.stack) [] H H' s.heap s'.heap)(hos:s'.os=s.os)(QG:AllBare s'.gens)(iM:qA X.prog X.w H' s'.heap){B N1:Heap}{t:Addr}
  (hB:∀b o,s'.heap.get? b=some o→b∉sF X.stack→((∃u,H' b=some u)∨∃o',s.heap.get? b=some o')→B.get? b=some o)
  (hF:s'.heap.FunFrames B X.stack) (Jx:Heap.FlyingW B X.outer e (.ref C) (.ref t) N1) (up:s'.heap.UpToSlots N1) (new:s.heap.get? e=none) (UB:H' e=none) :
  Pz X.prog X.w X.outer X.H₀ H' X.s₀ {s' with heap:=N1} e C:=by
 have hex:=bd.ex
 have QH:∀b∈sF X.stack,H' b=none:=fun b hb=>by
  obtain⟨_,o,ho,_⟩:=I.stack.mem hb
  exact un.free b o ho (I.Av b hb) (by simp)
 have LR:∀b u,H' b=some u→b∉sF X.stack:=fun b u hu hb=>by rw[QH b hb] at hu;cases hu
 have Ap:∀b o u,s'.heap.get? b=some o→H' b=some u→N1.get? b=some o:=fun b o u ho hu=>
  Jx.1 b o (hB b o ho (LR b u hu) (.inl ⟨u,hu⟩))
 have rS:∀b,b∉X.ex:=fun b z=>by rw[hex] at z;cases z
 have outS:∀b,b∈sF X.outer→b∈sF X.stack:=fun b hb=>by
  rw[bd.stack];unfold sF;rw[abd,bd.frame];exact Z4 _ hb
 refine⟨hos.trans I.os,QG,⟨fun b o q n hb hx=>?_,fun b o q n hb hx=>?_,fun b o q n hx=>?_,fun b o q hx=>?_,fun b xs q=>un.pw b xs (I.base.pw b xs q),fun b o u q=>un.tH b o u (I.base.tH b o u q),fun b ps q=>?_⟩,fun a u ha=>?_,⟨B,t,Jx,fun b o hb nb hc=>?_⟩,?_,UB⟩
 ·have q1:=I.base.keep b o q n hb (rS b)
  have nf:=I.JR q hb
  exact Jx.1 b o (hB b o (un.keep b o q1 (I.base.free b o q n (rS b)) nf (by simp)) nf (.inr ⟨o,q1⟩))
 ·obtain⟨sl,q1⟩:=I.base.slot b o q n hb (rS b)
  obtain⟨Kc,q2⟩:=un.any q1 (I.base.free b o q n (rS b)) (by simp)
  obtain⟨_,o',p8,hd⟩:=I.ok.tI.mem hb
  rw[q] at p8;cases p8
  obtain⟨DD,q3⟩:=up b _ q2 hd
  exact⟨DD,q3⟩
 ·obtain⟨o',q1⟩:=I.base.there b o q (rS b)
  exact un.free b o' q1 (I.base.free b o q n (rS b)) (by simp)
 ·obtain⟨o1,q1⟩:=I.base.there b o q (rS b)
  obtain⟨o2,q2⟩:=un.there b o1 q1 (by simp)
  by_cases hb:b∈sF X.stack
  ·obtain⟨_,o',p8,hd⟩:=hF.mem hb
   rw[q2] at p8;cases p8
   obtain⟨DD,q3⟩:=up b _ q2 hd
   exact⟨_,q3⟩
  ·exact⟨o2,Jx.1 b o2 (hB b o2 q2 hb (.inr ⟨o1,q1⟩))⟩
 ·obtain⟨m1,e1⟩:=I.base.wL b ps q
  obtain⟨m2,e2⟩:=un.wL b _ e1
  exact⟨m1++m2,by rw[e2,Array.append_assoc]⟩
 ·refine(iM a u ha).xx (fun b v hb q=>?_) (fun _ z=>z) fun _ _ z=>z
  rcases hb with z|z
  ·rw[z] at q ⊢;exact Ap a v u q ha
  ·exact Ap b v _ q z
 ·have all:∀o1,s'.heap.get? b=some o1→b∉sF X.stack→((∃u,H' b=some u)∨∃o',s.heap.get? b=some o')→B.get? b=some o:=fun o1 q1 nf c=>by
   have z:=hB b o1 q1 nf c
   have z2:=Jx.1 b o1 z
   have hb:N1.get? b=some o:=hb
   rw[hb] at z2;cases z2
   exact z
  rcases hc with⟨u,hu⟩|⟨o',p8⟩
  ·obtain⟨o1,q1⟩:=(iM b u hu).ex
   exact all o1 q1 (LR b u hu) (.inl ⟨u,hu⟩)
  ·obtain⟨o1,q1⟩:=I.base.there b o' p8 (rS b)
   obtain⟨o2,q2⟩:=un.there b o1 q1 (by simp)
   exact all o2 q2 (I.JR p8 nb) (.inr ⟨o1,q1⟩)
 ·cases q:X.s₀.heap.get? e with
  | none=>rfl
  | some o=>
   obtain⟨o1,q1⟩:=I.base.there e o q (rS e)
   rw[new] at q1;cases q1
theorem Hr(I:Inv X c_ σ H s)(bd:Bd X)(F:Pz X.prog X.w X.stack H H' s s' e C) :
  wpAny M X.A (leaving X.env (.ref e)) (fun _ GD=>Pz X.prog X.w X.outer X.H₀ H' X.s₀ GD e C) E s':=by
 obtain⟨B,t,fl,hB⟩:=F.fl
 have W_:=fl
 rw[bd.stack] at W_
 refine wpAny_leaves_onW (by rw[I.ok.frames,bd.stack]) bd.frame W_ fun N1 Jx up=>?_
 exact Hq I bd F.un F.os F.bare F.iM hB fl.2.2.1 Jx up F.new F.free
theorem D5{vs:List Value}{h':Heap}(I:Inv X c_ σ H s)(bd:Bd X)(hx:Heap.MadeExcOf s.heap h' e (.ref C) vs) :
  wpAny M X.A (leaving X.env (.ref e)) (fun _ GD=>Pz X.prog X.w X.outer X.H₀ H X.s₀ GD e C) E {s with heap:=h'}:=by
 have IT:∀env∈X.stack,∀b,env.frame=some b→b∈sF X.stack:=fun env he b hb=>aby.mpr ⟨env,he,hb⟩
 have hF:=W.funFrames_hide I.stack IT
 have UB:H e=none:=by
  cases q:H e with
  | none=>rfl
  | some u=>
   obtain⟨o,ho⟩:=(I.iM e u q).ex
   rw[hx.new] at ho;cases ho
 have un:Un (sF X.stack) [] H H s.heap h':=Un.kept hx.keeps
 have hB:∀b o,h'.get? b=some o→b∉sF X.stack→((∃u,H b=some u)∨∃o',s.heap.get? b=some o')→(W.hideAll s.heap (sF X.stack)).get? b=some o:=fun b o hb nf c=>by
  have:∃o',s.heap.get? b=some o':=by
   rcases c with⟨u,hu⟩|c
   ·exact(I.iM b u hu).ex
   ·exact c
  obtain⟨o',p8⟩:=this
  have z:=hx.keeps b o' p8
  rw[hb] at z;cases z
  exact W.hideAll_get _ p8 nf
 have hF2:h'.FunFrames (W.hideAll s.heap (sF X.stack)) X.stack:=hF.of_keeps fun b o ho _=>⟨o,hx.keeps b o ho,rfl⟩
 refine wpAny_leaves_madeW (base:=W.hideAll s.heap (sF X.stack)) (h:=s.heap) (by rw[I.ok.frames,bd.stack]) bd.frame (fun b o q=>W.of_hideAll _ q) (by rw[←bd.stack];exact hF) hx fun N1 t Jx tup nt up=>?_
 exact Hq (s':={s with heap:=h'}) I bd un rfl I.bare (I.iM.kept hx.keeps) hB hF2 Jx up hx.new UB
structure Bx(X:Cx)(E:XK):Prop where
 bd:Bd X
 calm:X.calm=true
 xe:∀ev s',wpAny (model X.prog X.w) X.A (leaving X.env ev) (fun _ GD=>tT X.prog X.w X.outer X.H₀ X.s₀ E ev GD) (fun e' GD=>tT X.prog X.w X.outer X.H₀ X.s₀ E e' GD) s'→X.xe ev s'
theorem bx{P:Program}{w:World}{K:Qqy}{mg:Qqx}{base:Heap}{N:List Str}{qual:Str}{scope:Scope}{f:Addr}{cd:Value}{A:Around}{outer:List Env}{s:Shared}{H:Hp}{E:XK} :
 Bx (uS (tT P w) P w K mg base N qual scope f cd A outer s H E) E:=⟨⟨rfl,rfl,rfl⟩,rfl,fun _ _ h=>h⟩
theorem LG{EX:XK}(b:Bx X EX):Passes (tT X.prog X.w) X EX:=fun c_ σ H s ev s' I ⟨e,C,H',he,F,q⟩=>by
 subst he
 exact b.xe _ _ (i6 (Hr I b.bd F) fun _ GD F'=>⟨e,C,H',rfl,F',q⟩)
theorem MK{P:Program}{w:World}{K:Qqy}{mg:Qqx}{base:Heap}{N:List Str}{qual:Str}{scope:Scope}{f:Addr}{cd:Value}{A:Around}{outer:List Env}{s:Shared}{H:Hp}{E:XK} :
 PassesOwn (model P w) (uS (tT P w) P w K mg base N qual scope f cd A outer s H E).A (uS (tT P w) P w K mg base N qual scope f cd A outer s H E).env (uS (tT P w) P w K mg base N qual scope f cd A outer s H E).xe:=PassesOwn.leaving
structure Exc(K:Qqy)(mg:Qqx)(x:Str)(C:Addr):Prop where
 m:mg x=some (.ref C)
 q:W.excIn K C [.type "ValueError",.type "Exception",.type "BaseException",.type "object"] "ValueError.__new__"=true
def ML(C:Addr)(EX:XK)(ta:TE):TS:=fun _ σ H=>ta σ H fun _ H1=>EX (.ref C) none H1
theorem Kd{K:Qqy}{h:Heap}{C:Addr}{Xa:List Value}{newId:String}(X:K.In h)(q:W.excIn K C Xa newId=true):∃bm N nm q bs hdct sn sub ab col dd k0 k1 k2 k3 k5 mN,h.get? C=some (excClassObj nm q C N bs bm hdct sn sub ab col dd k0 k1 k2 k3 k5 newId)∧h.Ns N mN∧mN "__init__"=none∧OwnTail h Xa bm:=by
 unfold W.excIn at q
 split at q
 ·rename_i dd cd sl ho
  split at q
  ·rename_i C' bm k0 k1 k2 k3 n k5 hm hs
   simp only [abb,abR,Bool.not_eq_true'] at q
   obtain⟨⟨⟨⟨⟨rfl,rfl⟩,QI⟩,ht⟩,iM⟩,R_⟩:=q
   obtain⟨nm,bs,mro,ns,qn,hd,sn,sub,ab,col,del⟩:=cd
   dsimp only at hm QI iM R_
   subst hm QI
   have OO:sl=#[k0,k1,k2,k3,some (.builtin n),k5]:=by
    obtain⟨l⟩:=sl
    simp only at hs
    rw[hs]
   subst OO
   exact⟨bm,ns,nm,qn,bs,hd,sn,sub,ab,col,dd,k0,k1,k2,k3,k5,_,X _ _ ho,.of_isNs (W.isNs_of_in X iM),W.nsMap_none_of_in X iM R_,W.tail_of_in X ht⟩
  ·cases q
 ·cases q
theorem j_{EX:XK}{x:Str}{a:Expr}{ta:TE}{np kX pos:Pos}(b:Bx X EX)(O:Exc X.K X.mg x C)(hg:Gl X x)(ha:PE X a ta)
  (Ey:(x ==("__debug__":Str))=false:=by decide) (hs:starEach [a] X.env=[(false,eval a X.env)]:=by rfl):PS X (.Raise (some (.Call (.Name x np) [a] [] kX)) none pos) (ML C EX ta):=by
 intro c_ s σ H D I h
 obtain⟨bm,N,nm,q,bs,hdct,sn,sub,ab,col,dd,k0,k1,k2,k3,k5,mN,hC,hN,R_,T⟩:=Kd I.ok.mod.OA O.q
 refine wpAny_Raise_call_subT (C:=C) (nm:=nm) (q:=q) (N:=N) (bs:=bs) (bm:=bm) (hdct:=hdct) (sn:=sn) (sub:=sub) (ab:=ab) (col:=col) (dd:=dd) (k0:=k0) (k1:=k1) (k2:=k2) (k3:=k3) (k5:=k5)
  PySem.F.excBase_ValueError (mN:=mN) (T.hasType (by decide)) (I.ok.hd b.calm) (by rw[hs];rfl) R_ (tJ I hg O.m ⟨rfl,?_⟩ Ey)
 rw[hs]
 refine abD ?_
 refine abk (i6 (ha c_ s σ H _ I h) fun u s1 iI=>?_)
 obtain⟨y,H1,I1,r1,q1⟩:=iI
 refine abE ?_
 have hk:=I1.bk
 refine⟨rfl,by show 1≤sizeLine;decide,hk _ _ hC,hN.keeps hk,T.keeps hk,fun h' e hm=>?_⟩
 exact b.xe _ _ (i6 (D5 I1 b.bd hm) fun _ GD F=>⟨e,C,H1,rfl,F,q1⟩)
end
section
variable{P:Program}{w:World}{K:Qqy}{mg:Qqx}{base:Heap}
theorem vN.Z0{x qual:Str}{st:Stmt}{f:Addr}{fd:FuncData}{N ps:List Str}{k:Nat}{sp:Sp}(F:vN K x qual st f fd)(S:g8 N ps (fW st))(len:∀vs H Q E,sp vs H Q E→vs.length=ps.length)
  (uH:∀(jw:Value)(A:Around)(outer:List Env)(s:Shared)(H:Hp)(vs:List V)(Q:VK)(E:XK),j9 k (A.deeper (envOfC qual (fW st) s.heap.objs.size f jw))→sp vs H Q E→
   ∃t,DB (uS (tT P w) P w K mg base N qual (fW st) f jw A outer s H E) (kL st) t∧t {nx:=fun _ H'=>Q .iP H',rt:=Q} (start N vs) H):iz P w K mg base (tT P w) (k+1) f fd ps sp:=by
 obtain⟨oc,od,kV,doc,pm,an,jw,ct,GN,rfl,lk,An⟩:=F.ex
 exact LA lk An S len fun A outer s H vs Q E hr JC=>uH jw A outer s H vs Q E hr JC
theorem iz.OF{k:Nat}{f:Addr}{fd:FuncData}{ps:List Str}{sp:Sp}(F:iz P w K mg base (tT P w) k f fd ps sp):iz P w K mg base mB k f fd ps (fun vs H Q _=>sp vs H Q E0):=
 ⟨fun vs H Q E h=>F.len vs H Q E0 h,fun A outer s H args us vs Q E hr e0 hb hv hs=>codeAny_mono (F.run A outer s H args us vs Q E0 hr e0 hb hv hs) fun r s' h=>by
  cases r with
  | error e=>obtain⟨_,_,_,_,_,z⟩:=h;exact z
  | ok fl=>cases fl<;>exact h⟩
end
section
variable{X:Cx}
def PF(X:Cx)(k:Nat)(es:List Expr)(t:TE):Prop:=
 ∀(acc:Str)(c_:Qqz)(s:Shared)(σ:St)(H:Hp)(Q:VK),acc.length≤k*1048576→Inv X c_ σ H s→t σ H Q→wpAny (model X.prog X.w) X.A (joinParts acc (evalEach es X.env)) (EP X c_ σ Q) X.xe s
def Z1:TE:=fun _ H Q=>∀x,Q (.str x) H
def Z2(te t:TE):TE:=fun σ H Q=>te σ H fun v H1=>∃y,v=.str y∧y.length≤1048576∧t σ H1 Q
theorem ow{k:Nat}(hk:k≤8:=by decide):PF X k [] Z1:=fun acc c_ s σ H Q hl I h=>
 joinParts_nil (hsz:=by have:sizeLine=16777216:=rfl;omega) ⟨.str acc,H,I.tok _,⟨_,rfl⟩,h acc⟩
theorem iE{k:Nat}{e:Expr}{es:List Expr}{te t:TE}(he:PE X e te)(hr:PF X (k+1) es t)(hk:k≤7:=by decide)(hs:evalEach (e::es) X.env=eval e X.env::evalEach es X.env:=by rfl):PF X k (e::es) (Z2 te t):=by
 intro acc c_ s σ H Q hl I h
 rw[hs]
 refine joinParts_cons (i6 (he c_ s σ H _ I h) fun u s1 iI=>?_)
 obtain⟨v,H1,I1,r1,y,ev,hy,q⟩:=iI
 subst ev
 obtain⟨t',rfl⟩:=r1
 have e1:(acc++y).length=acc.length+y.length:=strLen_append ..
 exact⟨by rw[e1];have:sizeLine=16777216:=rfl;omega,hr (acc++y) c_ s1 σ H1 Q (by rw[e1];omega) I1 q⟩
theorem l5{e1 e2:Expr}{es:List Expr}{t:TE}{pos:Pos}(h:PF X 0 (e1::e2::es) t):PE X (.JoinedStr (e1::e2::es) pos) t:=fun c_ s σ H Q I hq=>by
 rw[arm_eval_JoinedStr]
 exact h Str.empty c_ s σ H Q (by decide) I hq
def Z3(te:TE):TE:=fun σ H Q=>te σ H fun v H1=>∃x,v=.str x∧(reprText x).length≤1048576∧Q (.str (reprText x)) H1
theorem ox{e:Expr}{te:TE}{pos:Pos}(he:PE X e te):PE X (.FormattedValue e 114 none pos) (Z3 te):=by
 intro c_ s σ H Q I h
 refine wpAny_FormattedValue_repr (i6 (he c_ s σ H _ I h) fun u s1 iI=>?_)
 obtain⟨v,H1,I1,r1,x,ev,hy,q⟩:=iI
 subst ev
 obtain⟨t',rfl⟩:=r1
 have hz:(reprText x).length≤sizeLine:=aac hy (by decide)
 refine wpAny_pyReprObj_str (hsz:=hz) ?_
 exact formatField_str (fun R9 tk=>⟨.str (reprText x),H1,I1.tok _,⟨_,rfl⟩,q⟩) hz
end
section
variable{X:Cx}{c_:Qqz}{σ:St}{H:Hp}{s:Shared}{tg:Expr}
def za(X:Cx)(d:Addr):Prop:=∀o u,X.H₀ d≠some (.nR o u)
theorem Hs{u:HO}(mu:Lv (some u)):(∀xs,u≠.tup xs)∧(∀o v,u≠.nR o v)∧(∀ps,u≠.Ju ps)∧∀x,u≠.own x:=by
 cases u<;>first|exact False.elim mu|exact⟨(fun _ z=>nomatch z),(fun _ _ z=>nomatch z),(fun _ z=>nomatch z),(fun _ z=>nomatch z)⟩
theorem Inv.MM{d:Addr}{u:HO}(I:Inv X c_ σ H s)(hd:H d=some u)(mu:Lv (some u)):za X d:=fun o v z=>by
 have:=I.base.tH d o v z
 rw[hd] at this
 exact(Hs mu).2.1 o v (aao this)
theorem Inv.Ht{d:Addr}{u v:HO}(I:Inv X c_ σ H s)(hd:H d=some u)(nt:∀xs,u≠.tup xs)(nb:∀ps,u≠.Ju ps)(no:∀x,u≠.own x)(nf:za X d)(new:i9 X.prog X.w (upd H d v) s.heap d v):Inv X c_ σ (upd H d v) s:=by
 have ne:∀b,H b=none→b≠d:=fun b e z=>by rw[z,hd] at e;cases e
 refine⟨I.ok,I.os,I.bare,⟨I.base.keep,I.base.slot,fun b o q n hx=>by rw[d_ (ne b (I.base.free b o q n hx))];exact I.base.free b o q n hx,I.base.there,fun b xs q=>?_,fun b o w q=>?_,fun b ps q=>?_⟩,I.loc,I.cell,by rw[d_ (ne _ I.free)];exact I.free,fun x c e=>by rw[d_ (ne _ (I.oH x c e))];exact I.oH x c e,fun p hp=>?_,fun b o e=>?_,I.len⟩
 ·have z:=I.base.pw b xs q
  have:b≠d:=fun y=>by rw[y,hd] at z;exact nt xs (aao z)
  rw[d_ this];exact z
 ·have z:=I.base.tH b o w q
  have:b≠d:=fun y=>by rw[y] at q;exact nf o w q
  rw[d_ this];exact z
 ·obtain⟨m,z⟩:=I.base.wL b ps q
  have:b≠d:=fun y=>by rw[y,hd] at z;exact nb _ (aao z)
  exact⟨m,by rw[d_ this];exact z⟩
 ·obtain⟨e1,e2,e3⟩:=I.pin p hp
  exact⟨e1,by rw[d_ (ne _ e2)];exact e2,e3⟩
 ·by_cases hb:b=d
  ·subst hb;rw[b_] at e;cases e;exact new
  ·rw[d_ hb] at e
   refine(I.iM b o e).xx (fun _ _ _ q=>q) (fun c q=>?_) fun c xs q=>?_
   ·have:c≠d:=fun y=>by rw[y,hd] at q;exact no _ (aao q)
    rw[d_ this];exact q
   ·have:c≠d:=fun y=>by rw[y,hd] at q;exact nt _ (aao q)
    rw[d_ this];exact q
theorem Inv.frozen{d:Addr}{u:HO}(I:Inv X c_ σ H s)(hd:H d=some u)(mu:Lv (some u)):∃o,s.heap.get? d=some o∧Inv X c_ σ (upd H d (.nR o u)) s:=by
 obtain⟨o,ho⟩:=(I.iM d u hd).ex
 obtain⟨m1,m2,m3,m4⟩:=Hs mu
 refine⟨o,ho,I.Ht hd m1 m3 m4 (I.MM hd mu) ⟨ho,?_⟩⟩
 refine(I.iM d u hd).xx (fun _ _ _ q=>q) (fun c q=>?_) fun c xs q=>?_
 ·have:c≠d:=fun y=>by rw[y,hd] at q;exact m4 _ (aao q)
  rw[d_ this];exact q
 ·have:c≠d:=fun y=>by rw[y,hd] at q;exact m1 _ (aao q)
  rw[d_ this];exact q
theorem Inv.xQ{d:Addr}{o:Obj}{u:HO}(I:Inv X c_ σ H s)(hd:H d=some (.nR o u))(nf:za X d):Inv X c_ σ (upd H d u) s:=by
 refine I.Ht hd (fun _ z=>by cases z) (fun _ z=>by cases z) (fun _ z=>by cases z) nf ?_
 obtain⟨_,q⟩:=(show i9 X.prog X.w H s.heap d (.nR o u) from I.iM d _ hd)
 refine q.xx (fun _ _ _ q=>q) (fun c q=>?_) fun c xs q=>?_
 ·have:c≠d:=fun y=>by rw[y,hd] at q;cases q
  rw[d_ this];exact q
 ·have:c≠d:=fun y=>by rw[y,hd] at q;cases q
  rw[d_ this];exact q
def PB(X:Cx)(t:TE):TE:=fun σ H Q=>t σ H fun v H2=>∃d o u,H2 d=some (.nR o u)∧za X d∧Q v (upd H2 d u)
theorem Ke{e:Expr}{t:TE}(h:PE X e t):PE X e (PB X t):=fun c_ s σ H Q I hq=>
 i6 (h c_ s σ H _ I hq) fun v s' ⟨x,H',I',r,d,o,u,hd,nf,q⟩=>⟨x,_,I'.xQ hd nf,r,q⟩
noncomputable def Ends.TQ(X:Cx)(D:Ends):Ends where
 nx:=fun σ H2=>∃d o u,H2 d=some (.nR o u)∧za X d∧D.nx σ (upd H2 d u)
 rt:=fun v H2=>∃d o u,H2 d=some (.nR o u)∧za X d∧D.rt v (upd H2 d u)
 bk:=fun σ H2=>∃d o u,H2 d=some (.nR o u)∧za X d∧D.bk σ (upd H2 d u)
 ct:=fun σ H2=>∃d o u,H2 d=some (.nR o u)∧za X d∧D.ct σ (upd H2 d u)
theorem AL{st:Stmt}{t:TS}(h:PS X st t):PS X st (fun D σ H=>t (D.TQ X) σ H):=fun c_ s σ H D I hq=>i6 (h c_ s σ H _ I hq) fun f s' q=>by
 cases f with
 | next=>obtain⟨σ',H',I',d,o,u,hd,nf,q⟩:=q;exact⟨σ',_,I'.xQ hd nf,q⟩
 | brk=>obtain⟨σ',H',I',d,o,u,hd,nf,q⟩:=q;exact⟨σ',_,I'.xQ hd nf,q⟩
 | cont=>obtain⟨σ',H',I',d,o,u,hd,nf,q⟩:=q;exact⟨σ',_,I'.xQ hd nf,q⟩
 | ret v=>obtain⟨x,σ',H',I',r,d,o,u,hd,nf,q⟩:=q;exact⟨x,σ',_,I'.xQ hd nf,r,q⟩
theorem EY{H:Hp}{d p:Addr}{u f o:HO}(hd:H d=some u)(hp:p≠d):upd (upd (upd H d f) p o) d u=upd H p o:=by
 funext b
 by_cases h1:b=d
 ·subst h1;rw[b_,d_ (abA hp),hd]
 ·rw[d_ h1]
  by_cases h2:b=p
  ·subst h2;rw[b_,b_]
  ·rw[d_ h2,d_ h2,d_ h1]
theorem FL{H:Hp}{d:Addr}{u f:HO}(hd:H d=some u):upd (upd H d f) d u=H:=by
 rw[JN]
 funext b
 by_cases h1:b=d
 ·subst h1;rw[b_,hd]
 ·rw[d_ h1]
noncomputable def TR(d:Addr)(o:Obj)(kvs:List (Key×V)):It:=
 ⟨fun i H=>H d=some (.nR o (.dK kvs))∧i<kvs.length,fun i H x H'=>H'=H∧∃k v,kvs[i]?=some (k,v)∧x=kV k,fun i H=>H d=some (.nR o (.dK kvs))∧kvs.length≤i⟩
theorem Kf{P:Program}{w:World}{k:Key}{u:Value}(h:(jg P w).is k u=true):RelV (kV k) u:=by
 rcases jj (show xw k u=true from h) with⟨i,t,rfl,rfl⟩|⟨x,t,rfl,rfl⟩
 ·exact⟨t,rfl⟩
 ·exact⟨t,rfl⟩
theorem Hu{P:Program}{w:World}{h:Heap}{d:Addr}{o:Obj}{kvs:List (Key×V)}{es:Array DictEntry}{ep:Nat}(hd:o.data=.dict es ep)(q:i9 P w H h d (.nR o (.dK kvs))):(d ==sysModules)=false∧kvs.length≤sizeLine∧∃vs,KV kvs vs∧h.DictAt (jg P w) d vs ep:=by
 obtain⟨ho,hz,hs,vs,kv,o',OM,LM,p8,h1,h2,h3⟩:=q
 rw[ho] at p8;cases p8
 rw[hd] at h2;cases h2
 exact⟨hs,hz,vs,kv,o,es,ho,h1,hd,h3⟩
theorem KV.at{κ:Type}{kvs:List (κ×V)}{vs:List (κ×Value)}(r:KV kvs vs):∀{i:Nat} {k:κ} {u:Value},vs[i]?=some (k,u)→∃v,kvs[i]?=some (k,v)∧RelV v u:=by
 induction r with
 | nil=>intro i k u e;simp at e
 | cons f t ih=>
  intro i k u e
  cases i with
  | zero=>
   simp at e
   subst e
   exact⟨_,aaQ some (Prod.ext f.1 rfl),f.2⟩
  | succ i=>
   obtain⟨v,h1,h2⟩:=ih (by simpa using e)
   exact⟨v,by simpa using h1,h2⟩
theorem FN{P:Program}{w:World}{K:Qqy}(d it:Addr)(o:Obj)(es:Array DictEntry)(ep:Nat)(kvs:List (Key×V))(IU:o.data=.dict es ep):Turn P w K tg (TR d o kvs) [it] it (fun i h=>h.IsKeyIter it d i kvs.length ep) where
 mem:=by simp
 obj:=fun i h st b hb=>by
  have e:b=it:=by simpa using hb
  subst e
  obtain⟨o,e,c,d⟩:=st
  exact⟨o,e,fun v z=>by rw[d] at z;cases z⟩
 keep:=fun i h h' st k=>st.at fun o e=>k it (by simp) o e
 item:=by
  intro X hP hw hK hc i c_ s σ H E I hf st hg
  subst hP hw hK
  obtain⟨hd,hi⟩:=hg
  obtain⟨_,_,vs,kv,da⟩:=Hu IU (I.iM d _ hd)
  have hl:kvs.length=vs.length:=kv.length
  have zy:i<vs.length:=by omega
  obtain⟨⟨k,u⟩,hx⟩:∃p,vs[i]?=some p:=⟨vs[i],by simp[zy]⟩
  obtain⟨v,hv,_⟩:=kv.at hx
  obtain⟨f0,f1,f2,f3,f4,f5⟩:=hf it (by simp)
  rw[hl] at st
  refine wpAny_pyNext_dict_item st da hx fun key h' NU zv sb=>?_
  have I1:Inv X c_ σ H {s with heap:=h'}:=I.turned (t':=s.toks) (fun b o hb e=>(sb.2 b hb).trans e) f0 f1 f3 f4 f5
  obtain⟨o',e,c,dd⟩:=id zv
  exact⟨key,rfl,xy (s:={s with heap:=h'}) e c dd (by decide) ⟨kV k,H,I1,Kf NU,⟨rfl,k,v,hv,rfl⟩,by rw[hl];exact zv,fun b hb=>(hf b hb).1⟩⟩
 done:=by
  intro X hP hw hK hc i c_ s σ H E I hf st hg
  subst hP hw hK
  obtain⟨hd,hi⟩:=hg
  obtain⟨_,_,vs,kv,da⟩:=Hu IU (I.iM d _ hd)
  have hl:kvs.length=vs.length:=kv.length
  obtain⟨f0,f1,f2,f3,f4,f5⟩:=hf it (by simp)
  rw[hl] at st
  exact wpAny_pyNext_dict_end (I.ok.hd hc) st da (by simp;omega) fun h' eb=>⟨rfl,I.turned (t':=s.toks) (fun b o hb e=>eb b o hb e) f0 f1 f3 f4 f5⟩
 self:=fun _ _ _ _ _ st h=>wpAny_pyIter_keyiter st h
def PD(X:Cx)(td:TE):TI:=fun σ H R=>td σ H fun x H1=>∃d kvs,x=.ref d∧H1 d=some (.dK kvs)∧∀o,za X d→R (TR d o kvs) (upd H1 d (.nR o (.dK kvs)))
theorem Kg{l:Expr}{td:TE}(hl:PE X l td):PI X tg l (PD X td):=by
 intro c_ s σ H R I h
 refine i6 (hl c_ s σ H _ I h) fun v s1 iI=>?_
 obtain⟨x,H1,I1,r1,q1⟩:=iI
 obtain⟨d,kvs,e,hd,q⟩:=q1
 subst e
 cases r1
 have nf:=I1.MM hd True.intro
 obtain⟨o,ho,I2⟩:=I1.frozen hd True.intro
 obtain⟨_,hs,vs,kv,o',es,ep,p8,h1,h2,h3⟩:=(show i9 X.prog X.w H1 s1.heap d (.dK kvs) from I1.iM d _ hd)
 rw[ho] at p8;cases p8
 refine wpAny_pyIter_dict (kvs:=vs) (ep:=ep) hs ⟨o,es,ho,h1,h2,h3⟩ ?_
 refine⟨s1.heap.objs.size,[s1.heap.objs.size],_,_,_,rfl,I2.kept (t':=s1.toks) fun b o e=>WN _ e,FN d _ o es ep kvs h2,⟨_,aat _ rfl,rfl,by rw[kv.length];rfl⟩,fun b hb=>?_,q o nf⟩
 have e:b=s1.heap.objs.size:=by simpa using hb
 subst e
 exact I2.wM (TU _) (I2.iM.fresh (TU _))
theorem Kh{d:Addr}{o:Obj}{kvs:List (Key×V)}{g:TG}{tt:TT}{te:TE}{Q:List V→Hp→Prop}{σ:St}{H:Hp}(hn:kvs.length≤sizeLine)(Pv:Nat→List V→St→Hp→Prop)(h0:Pv 0 [] σ H)(hl:∀i ys σ H,Pv i ys σ H→H d=some (.nR o (.dK kvs))∧ys.length≤i)
  (hs:∀i k v ys σ H,kvs[i]?=some (k,v)→Pv i ys σ H→g (kV k) σ H fun σ2 H2=>tt σ2 H2 fun b H3=>if b=true then te σ2 H3 fun v H4=>Pv (i+1) (ys++[v]) σ2 H4 else Pv (i+1) ys σ2 H3)
  (hd:∀ys σ H,Pv kvs.length ys σ H→Q ys H):D1 g tt te (TR d o kvs) Q σ H:=by
 refine⟨fun i m ys σ H=>m=kvs.length-i∧i≤kvs.length∧Pv i ys σ H,⟨kvs.length,by simp,aaE _,h0⟩,?_⟩
 rintro i m ys σ H ⟨rfl,hi,p⟩
 obtain⟨q,hy⟩:=hl i ys σ H p
 by_cases kr:i<kvs.length
 ·refine .inr ⟨⟨q,kr⟩,by omega,Pv (i+1),fun NZ σ' H' p'=>⟨kvs.length-(i+1),by omega,rfl,kr,p'⟩,fun x H' y=>?_⟩
  obtain⟨e,k,v,y,rfl⟩:=y
  subst e
  exact hs i k v ys σ _ y p
 ·have e:i=kvs.length:=by omega
  subst e
  exact .inl ⟨⟨q,TU _⟩,by omega,hd ys σ H p⟩
theorem rL{α β:Type}{F:α→β→Prop}:∀{xs:List α} {ys:List β},xs.length=ys.length→(∀(i:Nat) a b,xs[i]?=some a→ys[i]?=some b→F a b)→Paired F xs ys
 | [],[],_,_=>.nil
 | [],_::_,e,_=>by simp at e
 | _::_,[],e,_=>by simp at e
 | x::xs,y::ys,e,h=>.cons (h 0 x y rfl rfl) (rL (by simpa using e) fun i a b ha hb=>h (i+1) a b (by simpa using ha) (by simpa using hb))
end
section
variable{X:Cx}{CX:ER}{k:Nat}{f C:Addr}{fd:FuncData}{ps:List Str}{sp:Sp}{xv:List V}{ds:List Value}{E:XK}{x m:Str}{p pos apos:Pos}{e o:Expr}{es:List Expr}{ta:TE}{t:TA}{σ₀:St}
end
section
variable{X:Cx}{c_ pn:Qqz}{σ:St}{H:Hp}{s:Shared}{E:Qqq}{e:Addr}
end
section
variable{X:Cx}{c_:Qqz}{σ:St}{H:Hp}{s:Shared}{M:Model}{A:Around}{E:Qqq}
end
section
variable{P:Program}{w:World}{K:Qqy}{mg:Qqx}{base:Heap}
end
section
variable{X:Cx}{k:Nat}{f:Addr}{fd:FuncData}{ps:List Str}{sp:Sp}{x:Str}{p pos:Pos}{e:Expr}{es:List Expr}{t:TA}
end
open PySem PySem.Spec PyProof.Rows PySem.W PySem.Builtin PySem.Builtin.ObjectAttr PySem.Builtin.Getset_descriptor
section
variable{K:Qqy}{e C:Addr}{prog:Program}{w:World}{A:Around}{E:Qqq}{h:Heap}{g:Array GenState}{d:Drawn}{t:Nat}{os:OsState}
end
theorem kq{xs:List V}(h:xs.length≤15:=by simp):xs.length≤sizeLine:=aac h (by decide)
theorem gr{α:Type}{xs:List α}{i:Int}{j:Nat}{v:α}(e:i=(j:Int))(h:xs[j]?=some v):FD xs i=some v:=by subst e;exact JX h
theorem AM{n:Nat}{i:Int}{j:Nat}(e:i=(j:Int))(h:j<n):G9 n i=some j:=by
 subst e
 unfold G9
 rw[aak (by omega),aak (by omega)]
 simp
theorem gc.upd{H H':Hp}{p:Addr}{o:HO}(s:gc H H')(h:H p=none):gc H (L2.upd H' p o):=fun b u e=>by rw[d_ (f_ e h)];exact s b u e
theorem gc.new{H H':Hp}{p:Addr}{o:HO}(s:gc H H')(h:H' p=none):gc H (L2.upd H' p o):=s.upd (s.free h)
def TV(t:TS):TS:=fun D σ H=>∃J:St→Hp→Prop,t {D with nx:=J} σ H∧∀σ' H',J σ' H'→D.nx σ' H'
theorem SP.nx{X:Cx}{c_:Qqz}{D:Ends}{J:St→Hp→Prop}{f:Flow}{s:Shared}(hJ:∀σ' H',J σ' H'→D.nx σ' H')(h:SP X c_ {D with nx:=J} f s):SP X c_ D f s:=by
 cases f with
 | next=>obtain⟨σ,H,I,q⟩:=h;exact⟨σ,H,I,hJ _ _ q⟩
 | brk=>exact h
 | cont=>exact h
 | ret u=>exact h
theorem qH{X:Cx}{st:Stmt}{t:TS}(h:PS X st t):PS X st (TV t):=fun c_ s σ H D I ⟨J,h1,h2⟩=>i6 (h c_ s σ H _ I h1) fun f s' q=>SP.nx h2 q
theorem tU{α:Type}{xs:List α}{i:Int}(h0:0≤i)(h:i<(xs.length:Int)):∃v,FD xs i=some v∧xs[i.toNat]?=some v:=by
 have hi:i.toNat<xs.length:=by omega
 exact⟨xs[i.toNat],gr (j:=i.toNat) (by omega) (QV hi),QV hi⟩
theorem oM{b:Bool}{A B:Prop}(e:b=false)(h:B):if b=true then A else B:=by subst e;exact jC h
theorem EZ{b:Bool}{A B:Prop}(e:b=true)(h:A):if b=true then A else B:=by subst e;exact nM h
theorem mod_lt(a b:Int)(h:0<b):0≤a%b∧a%b<b:=⟨Int.emod_nonneg a (by omega),Int.emod_lt_of_pos a h⟩
noncomputable abbrev ia(l:List Str):List V:=l.map V.str
theorem ky(xs:List Str)(x:Str):ia xs++[V.str x]=ia (xs++[x]):=by unfold ia;rw[aam];rfl
theorem oN(x y:List Str):ia x++ia y=ia (x++y):=by unfold ia;rw[aam]
theorem kO{l:List Str}{j:Nat}{x:Str}(h:l[j]?=some x):(ia l)[j]?=some (V.str x):=by rw[ZZ,h];rfl
theorem xk{l:List Str}{j:Nat}{v:V}(h:(ia l)[j]?=some v):∃x,l[j]?=some x∧v=V.str x:=by
 rw[ZZ] at h
 cases e:l[j]? with
 | none=>rw[e] at h;cases h
 | some x=>rw[e] at h;cases h;exact⟨x,rfl,rfl⟩
theorem PH{A:Around}{k:Nat}(hr:j9 k A){n:Nat}(h:n≤60:=by decide):A.units+n+1<cLine:=by have:=hr.units;omega
theorem il{H:Hp}{a q:Addr}{o u:HO}(hq:H q=none)(h:H a=some o):upd H q u a=some o:=by rw[d_ (f_ h hq)];exact h
theorem Kc{t0 t1:TS}{D:Ends}{σ:St}{H:Hp}(h:let v1:=t1;ir t0 v1 D σ H):ir t0 t1 D σ H:=h
theorem DD{t0 t1 t2:TS}{D:Ends}{σ:St}{H:Hp}(h:let v2:=t2;let v1:=ir t1 v2;ir t0 v1 D σ H):ir t0 (ir t1 t2) D σ H:=h
theorem MN{t0 t1 t2 t3:TS}{D:Ends}{σ:St}{H:Hp}(h:let v3:=t3;let v2:=ir t2 v3;let v1:=ir t1 v2;ir t0 v1 D σ H):ir t0 (ir t1 (ir t2 t3)) D σ H:=h
theorem MO{t0 t1 t2 t3 t4:TS}{D:Ends}{σ:St}{H:Hp}(h:let v4:=t4;let v3:=ir t3 v4;let v2:=ir t2 v3;let v1:=ir t1 v2;ir t0 v1 D σ H):ir t0 (ir t1 (ir t2 (ir t3 t4))) D σ H:=h
theorem RY{t0 t1 t2 t3 t4 t5:TS}{D:Ends}{σ:St}{H:Hp}(h:let v5:=t5;let v4:=ir t4 v5;let v3:=ir t3 v4;let v2:=ir t2 v3;let v1:=ir t1 v2;ir t0 v1 D σ H):ir t0 (ir t1 (ir t2 (ir t3 (ir t4 t5)))) D σ H:=h
theorem Z5{t0 t1 t2 t3 t4 t5 t6:TS}{D:Ends}{σ:St}{H:Hp}(h:let v6:=t6;let v5:=ir t5 v6;let v4:=ir t4 v5;let v3:=ir t3 v4;let v2:=ir t2 v3;let v1:=ir t1 v2;ir t0 v1 D σ H):ir t0 (ir t1 (ir t2 (ir t3 (ir t4 (ir t5 t6))))) D σ H:=h
theorem Z6{t0 t1 t2 t3 t4 t5 t6 t7 t8:TS}{D:Ends}{σ:St}{H:Hp}(h:let v8:=t8;let v7:=ir t7 v8;let v6:=ir t6 v7;let v5:=ir t5 v6;let v4:=ir t4 v5;let v3:=ir t3 v4;let v2:=ir t2 v3;let v1:=ir t1 v2;ir t0 v1 D σ H):ir t0 (ir t1 (ir t2 (ir t3 (ir t4 (ir t5 (ir t6 (ir t7 t8))))))) D σ H:=h
theorem TX{t0 t1 t2 t3 t4 t5 t6 t7 t8 t9 Xb Xc:TS}{D:Ends}{σ:St}{H:Hp}(h:let v11:=Xc;let v10:=ir Xb v11;let v9:=ir t9 v10;let v8:=ir t8 v9;let v7:=ir t7 v8;let v6:=ir t6 v7;let v5:=ir t5 v6;let v4:=ir t4 v5;let v3:=ir t3 v4;let v2:=ir t2 v3;let v1:=ir t1 v2;ir t0 v1 D σ H):ir t0 (ir t1 (ir t2 (ir t3 (ir t4 (ir t5 (ir t6 (ir t7 (ir t8 (ir t9 (ir Xb Xc)))))))))) D σ H:=h
theorem MP{w:TI}{g:TG}{b u:TS}{D:Ends}{σ:St}{H:Hp}(h:let v:=b;ir (Mm w g v) u D σ H):ir (Mm w g b) u D σ H:=h
noncomputable abbrev rr(a:Addr):Option V:=some (.ref a)
noncomputable abbrev rs(x:Str):Option V:=some (.str x)
noncomputable abbrev ri(i:Int):Option V:=some (.int i)
section
variable{X:Cx}{tg:Expr}
noncomputable def OG(x:Str):It:=⟨fun i _=>i<x.length,fun i H v H'=>H'=H∧∃c,x.cps[i]?=some c∧v=.str ⟨#[c]⟩,fun i _=>i=x.length⟩
theorem zT{P:Program}{w:World}{K:PySem.W.Frag}(it:Addr)(ty:String)(x:Str)(t:Tok)(Qw:["enumerate","zip","dict_itemiterator","dict_reverseitemiterator","odict_iterator","itertools.zip_longest","itertools.pairwise"].contains ty=false)
  (W:∀A:Around,A.handled=none→Walks P w A it [it] [it] x.cps.size (SignAt x) (fun i h=>h.IsStrIter it ty x t i))
  (self:∀(A:Around)(i:Nat)(s:Shared)(Q:Qqq)(E:Qqq),s.heap.IsStrIter it ty x t i→Q (.ref it) s→wpAny (model P w) A (pyIter (.ref it)) Q E s):Turn P w K tg (OG x) [it] it (fun i h=>h.IsStrIter it ty x t i) where
 mem:=by simp
 obj:=fun i h st b hb=>by
  have e:b=it:=by simpa using hb
  subst e
  obtain⟨o,e,c,d⟩:=st
  exact⟨o,e,fun v z=>by rw[d] at z;cases z⟩
 keep:=fun i h h' ⟨o,ho,r⟩ k=>⟨o,k it (by simp) o ho,r⟩
 item:=by
  intro X hP hw hK hc i c_ s σ H E I hf st hg
  subst hP hw hK
  obtain⟨f0,f1,f2,f3,f4,f5⟩:=hf it (by simp)
  refine(W X.A (I.ok.hd hc)).item i s _ _ hg st fun v h' tk hv zv kk=>?_
  obtain⟨c,t',Am,rfl⟩:=hv
  have I1:Inv X c_ σ H {s with heap:=h',toks:=tk}:=I.turned (fun b o hb e=>kk b o (by simpa using hb) e) f0 f1 f3 f4 f5
  obtain⟨o',e,cc,dd⟩:=id zv
  exact⟨_,rfl,xy (s:={s with heap:=h',toks:=tk}) e cc dd Qw ⟨.str ⟨#[c]⟩,H,I1,⟨t',rfl⟩,⟨rfl,c,Am,rfl⟩,zv,fun b hb=>(hf b hb).1⟩⟩
 done:=by
  intro X hP hw hK hc i c_ s σ H E I hf st hg
  subst hP hw hK
  obtain⟨f0,f1,f2,f3,f4,f5⟩:=hf it (by simp)
  have e:i=x.cps.size:=hg
  subst e
  exact(W X.A (I.ok.hd hc)).done s _ _ st fun h' tk kk=>⟨rfl,I.turned (fun b o hb e=>kk b o (by simpa using hb) e) f0 f1 f3 f4 f5⟩
 self:=self
def PJ(te:TE):TI:=fun σ H R=>te σ H fun v H1=>∃x,v=.str x∧R (OG x) H1
theorem MQ{l:Expr}{te:TE}(hl:PE X l te):PI X tg l (PJ te):=by
 intro c_ s σ H R I h
 refine i6 (hl c_ s σ H _ I h) fun v s1 iI=>?_
 obtain⟨y,H1,I1,r1,x,e,q⟩:=iI
 subst e
 obtain⟨t,rfl⟩:=r1
 have fin:∀(ty:String)(T:Turn X.prog X.w X.K tg (OG x) [s1.heap.objs.size] s1.heap.objs.size (fun i h=>h.IsStrIter s1.heap.objs.size ty x t i)),
   Th X c_ σ tg R (.ref s1.heap.objs.size) {s1 with heap:=s1.heap.push {cls:=.type ty,data:=.fields #[.str x t,.int 0 0]}}:=fun ty T=>by
  refine⟨s1.heap.objs.size,[s1.heap.objs.size],_,_,H1,rfl,I1.kept (t':=s1.toks) fun b o e=>WN _ e,T,⟨_,aat _ rfl,rfl,rfl⟩,fun b hb=>?_,q⟩
  have e:b=s1.heap.objs.size:=by simpa using hb
  subst e
  exact I1.wM (TU _) (I1.iM.fresh (TU _))
 cases ha:x.cps.all (·<128)
 ·exact wpAny_pyIter_wide ha (fin _ (zT _ _ x t (by decide) (fun A hh=>Walks.strWide hh _ x t) fun _ _ _ _ _ st h=>wpAny_pyIter_striter_wide st h))
 ·exact wpAny_pyIter_ascii ha (fin _ (zT _ _ x t (by decide) (fun A hh=>Walks.strAscii hh _ x t) fun _ _ _ _ _ st h=>wpAny_pyIter_striter_ascii st h))
theorem Hv{x:Str}{g:TG}{tb:TS}{D:Ends}{σ:St}{H:Hp}(Pv:Nat→St→Hp→Prop)(h0:Pv 0 σ H)
  (hs:∀i c σ H,x.cps[i]?=some c→Pv i σ H→g (.str ⟨#[c]⟩) σ H fun σ2 H2=>tb {D with nx:=Pv (i+1),ct:=Pv (i+1),bk:=D.nx} σ2 H2) (hd:∀σ H,Pv x.length σ H→D.nx σ H) :
  ∃W:Nat→Nat→St→Hp→Prop,(∃m,W 0 m σ H)∧∀i m σ H,W i m σ H→
   ((OG x).stop i H∧D.nx σ H)∨((OG x).go i H∧∃N:St→Hp→Prop,(∀σ' H',N σ' H'→∃m',m'<m∧W (i+1) m' σ' H')∧∀v H',(OG x).Jw i H v H'→g v σ H' fun σ2 H2=>tb {D with nx:=N,ct:=N,bk:=D.nx} σ2 H2):=by
 refine⟨fun i m σ H=>m=x.length-i∧i≤x.length∧Pv i σ H,⟨x.length,by simp,aaE _,h0⟩,?_⟩
 rintro i m σ H ⟨rfl,hi,p⟩
 by_cases kr:i<x.length
 ·refine .inr ⟨kr,Pv (i+1),fun σ' H' p'=>⟨x.length-(i+1),by omega,rfl,kr,p'⟩,fun v H' y=>?_⟩
  obtain⟨e,c,hc,rfl⟩:=y
  subst e
  exact hs i c σ _ hc p
 ·have e:i=x.length:=by omega
  subst e
  exact .inl ⟨rfl,hd σ H p⟩
def Z7(te:TE):TE:=fun σ H Q=>te σ H fun v H1=>∃i:Int,v=.int i∧i.natAbs.log2<1920∧Q (.str (toString i)) H1
theorem Hw{e:Expr}{te:TE}{pos:Pos}(he:PE X e te):PE X (.FormattedValue e (-1) none pos) (Z7 te):=by
 intro c_ s σ H Q I h
 refine FormattedValue_plain (i6 (he c_ s σ H _ I h) fun u s1 iI=>?_)
 obtain⟨v,H1,I1,r1,i,ev,hy,q⟩:=iI
 subst ev
 obtain⟨t',rfl⟩:=r1
 exact formatField_int_small hy ⟨.str (toString i),H1,I1.tok _,⟨_,rfl⟩,q⟩
end
section
variable{X:Cx}{tg:Expr}
noncomputable def Hx(K:Qqy)(a:Addr)(n:Nat):It:=
 ⟨fun i H=>i<n∧∃xs,ib K H a xs∧xs.length=n,fun i H x H'=>H'=H∧∀xs,ib K H a xs→xs[n-1-i]?=some x,fun i _=>i=n⟩
theorem Hy{P:Program}{w:World}{K:Qqy}(a it:Addr)(n:Nat):Turn P w K tg (Hx K a n) [it] it (fun i h=>h.IsRevIter it a ((n:Int)-1-(i:Nat))) where
 mem:=by simp
 obj:=fun i h st b hb=>by
  have e:b=it:=by simpa using hb
  subst e
  obtain⟨o,e,c,d⟩:=st
  exact⟨o,e,fun v z=>by rw[d] at z;cases z⟩
 keep:=fun i h h' st k=>st.at fun o e=>k it (by simp) o e
 item:=by
  intro X hP hw hK hc i c_ s σ H E I hf st hg
  subst hP hw hK
  obtain⟨hi,xs,hq,hl⟩:=hg
  obtain⟨ic,rv,p,hz⟩:=I.list hq
  have hx:xs[n-1-i]?=some xs[n-1-i]:=QV (by omega)
  obtain⟨u,hu,ru⟩:=rv.get hx
  obtain⟨f0,f1,f2,f3,f4,f5⟩:=hf it (by simp)
  have e1:(n:Int)-1-(i:Nat)=((n-1-i:Nat):Int):=by omega
  rw[e1] at st
  refine wpAny_pyNext_rev_item st p.isList (x:=u) (by simpa using hu) fun h' zv sb=>?_
  have e2:((n-1-i:Nat):Int)-1=(n:Int)-1-((i+1:Nat):Int):=by omega
  rw[e2] at zv
  have I1:Inv X c_ σ H {s with heap:=h'}:=I.turned (t':=s.toks) (fun b o hb e=>(sb.2 b hb).trans e) f0 f1 f3 f4 f5
  obtain⟨o,e,c,d⟩:=id zv
  exact⟨u,rfl,xy (s:={s with heap:=h'}) e c d (by decide) ⟨_,H,I1,ru,⟨rfl,fun ys hy=>by rw[I.oI hy hq];exact hx⟩,zv,fun b hb=>(hf b hb).1⟩⟩
 done:=by
  intro X hP hw hK hc i c_ s σ H E I hf st hg
  subst hP hw hK
  have hg:i=n:=hg
  subst hg
  obtain⟨f0,f1,f2,f3,f4,f5⟩:=hf it (by simp)
  have e1:(i:Int)-1-(i:Nat)=-1:=by omega
  rw[e1] at st
  exact wpAny_pyNext_rev_end (I.ok.hd hc) st fun h' eb=>⟨rfl,I.turned (t':=s.toks) (fun b o hb e=>eb b o hb e) f0 f1 f3 f4 f5⟩
 self:=fun _ _ _ _ _ st h=>wpAny_pyIter_revIter st h
def PL(K:Qqy)(ta:TA):TI:=fun σ H R=>ta σ H fun vs H1=>∃a xs,vs=[.ref a]∧ib K H1 a xs∧R (Hx K a xs.length) H1
theorem Ki{a:Expr}{ta:TA}{p pos:Pos}(hg:Gl X "reversed")(hm:X.mg "reversed"=none)(ha:PA X [a] ta)(hs:starEach [a] X.env=[(false,eval a X.env)]:=by rfl):PI X tg (.Call (.Name "reversed" p) [a] [] pos) (PL X.K ta):=by
 intro c_ s σ H R I h
 refine Call_ (mV I hg hm boot_reversed (aaN (i6 (ha pos c_ s σ H _ I h) fun us s1 iI=>?_) hs rfl))
 obtain⟨vs,H1,I1,r1,q1⟩:=iI
 obtain⟨l,xs,rfl,hq,q⟩:=q1
 obtain⟨u,rfl,ru⟩:=vals1 r1
 cases (show u=Value.ref l from ru)
 obtain⟨ic,rv,pp,hz⟩:=I1.list hq
 have hl:=rv.length
 refine call_reversed_list pp.isList ?_
 have I2:Inv X c_ σ H1 {s1 with heap:=s1.heap.push (revObj l ((ic.toArray.size:Int)-1))}:=I1.kept (t':=s1.toks) fun b o e=>WN _ e
 have st:(s1.heap.push (revObj l ((ic.toArray.size:Int)-1))).IsRevIter s1.heap.objs.size l ((xs.length:Int)-1-((0:Nat):Int)):=by
  have e1:(xs.length:Int)-1-((0:Nat):Int)=(ic.toArray.size:Int)-1:=by rw[hl];simp
  rw[e1]
  exact⟨_,aat _ rfl,rfl,rfl⟩
 refine wpAny_pyIter_revIter st ?_
 refine⟨s1.heap.objs.size,[s1.heap.objs.size],_,_,H1,rfl,I2,Hy l _ xs.length,st,fun b hb=>?_,q⟩
 have e:b=s1.heap.objs.size:=by simpa using hb
 subst e
 exact I1.wM (TU _) (I1.iM.fresh (TU _))
theorem Kj{K:PySem.W.Frag}{a:Addr}{xs:List V}{g:TG}{tb:TS}{D:Ends}{σ:St}{H:Hp}(Pv:Nat→St→Hp→Prop)(h0:Pv 0 σ H)(hl:∀i σ H,i≤xs.length→Pv i σ H→ib K H a xs)
  (hs:∀i x σ H,xs.reverse[i]?=some x→Pv i σ H→g x σ H fun σ2 H2=>tb {D with nx:=Pv (i+1),ct:=Pv (i+1),bk:=D.nx} σ2 H2) (hd:∀σ H,Pv xs.length σ H→D.nx σ H) :
  ∃W:Nat→Nat→St→Hp→Prop,(∃m,W 0 m σ H)∧∀i m σ H,W i m σ H→
   ((Hx K a xs.length).stop i H∧D.nx σ H)∨((Hx K a xs.length).go i H∧∃N:St→Hp→Prop,(∀σ' H',N σ' H'→∃m',m'<m∧W (i+1) m' σ' H')∧∀x H',(Hx K a xs.length).Jw i H x H'→g x σ H' fun σ2 H2=>tb {D with nx:=N,ct:=N,bk:=D.nx} σ2 H2):=by
 refine⟨fun i m σ H=>m=xs.length-i∧i≤xs.length∧Pv i σ H,⟨xs.length,by simp,aaE _,h0⟩,?_⟩
 rintro i m σ H ⟨rfl,hi,p⟩
 have q:=hl i σ H hi p
 by_cases kr:i<xs.length
 ·refine .inr ⟨⟨kr,xs,q,rfl⟩,Pv (i+1),fun σ' H' p'=>⟨xs.length-(i+1),by omega,rfl,kr,p'⟩,fun x H' y=>?_⟩
  obtain⟨e,y⟩:=y
  subst e
  refine hs i x σ _ ?_ p
  rw[List.getElem?_reverse kr]
  exact y xs q
 ·have e:i=xs.length:=by omega
  subst e
  exact .inl ⟨rfl,hd σ H p⟩
theorem Hz{prog:Program}{w:World}{A:Around}{E:Qqq}{s:Shared}{r:Addr}{Q:Bool→Shared→Prop}(hT:s.TypeIs (.ref r) "list_reverseiterator")(h:Q false s):wpAny (model prog w) A (Builtin.List.listLengthHint (.ref r)) Q E s:=by
 have f1:typeLookup (.type "list_reverseiterator") "__len__"=pure none:=by rw[typeLookup_type,builtinLookup_eq_fast];kernel_rfl
 have f2:typeLookup (.type "list_reverseiterator") "__length_hint__"=pure (some (.builtin "list_reverseiterator.__length_hint__")):=by rw[typeLookup_type,builtinLookup_eq_fast];kernel_rfl
 unfold Builtin.List.listLengthHint
 refine QW (ab6 hT f1 ?_)
 wp_delta
 refine ab8 (fun Ez=>absurd Ez (by decide)) (fun _=>?_)
 refine ab8 (fun Ez=>absurd Ez (by decide)) (fun _=>?_)
 refine QW (ab6 hT f2 ?_)
 generalize Sb:("list_reverseiterator.__length_hint__":String)=id0
 wp_delta
 rw[show splitId id0=some ("list_reverseiterator","__length_hint__") from by subst Sb;decide+kernel]
 subst Sb
 refine QW (wpAny_isInstance (T:="list_reverseiterator") (b:=true) hT (by rw[isSubtype_type];kernel_rfl) ?_)
 refine ab8 (fun Ez=>absurd Ez (by decide)) (fun _=>?_)
 refine ab8 (fun _=>?_) (fun Ez=>absurd (by decide+kernel) Ez)
 refine ab8 (fun Ez=>absurd Ez (by decide)) (fun _=>?_)
 exact aag h
theorem FO{prog:Program}{w:World}{A:Around}{E:Qqq}{s:Shared}{T:String}{r d:Addr}{n:Nat}{P:Nat→Value→Prop}{St:Nat→Heap→Prop}{Q:Qqq}
  (W:Walks prog w A.in1.in1 r [r,d] [r] n P St) (hT:∀h:Heap,St 0 h→∃o,h.get? r=some o∧o.cls=.type T) (hl:(Value.type T ==Value.type "list")=false) (ht:(Value.type T ==Value.type "tuple")=false)
  (hint:∀(A:Around)(E:Qqq)(s:Shared)(Q:Bool→Shared→Prop),St 0 s.heap→Q false s→wpAny (model prog w) A (Builtin.List.listLengthHint (.ref r)) Q E s)
  (self:∀(A:Around)(E:Qqq)(s:Shared)(Q:Qqq),St 0 s.heap→Q (.ref r) s→wpAny (model prog w) A (pyIter (.ref r)) Q E s)
  (hd:d<s.heap.objs.size) (st:St 0 s.heap) (hn:n≤sizeLine)
  (hQ:∀h' tk Lf c',(∀b o,b≠r→s.heap.get? b=some o→h'.get? b=some o)→h'.get? s.heap.objs.size=some {cls:=.type "list",dict:=none,data:=.seq Lf c',slots:=#[]}→ItemsOf P Lf n→Q (.ref s.heap.objs.size) {s with heap:=h',toks:=tk}) :
  wpAny (model prog w) A (call (.type "list") [.ref r]) Q E s:=by
 obtain⟨or,hor,Xd⟩:=hT _ st
 have EA:r<s.heap.objs.size:=aar hor
 refine callType_codes (Q₁:=fun obj s₁=>obj=.ref s.heap.objs.size∧s₁={s with heap:=s.heap.push {cls:=.type "list",data:=.seq #[]}}) PySem.F.called_list (PySem.F.typeCall_list_1 _) PySem.F.entry_list_init
  (code_list_new _ ⟨rfl,rfl⟩) fun obj s₁ h₁=>?_
 obtain⟨rfl,rfl⟩:=h₁
 have hS:(s.heap.push {cls:=.type "list",data:=.seq #[]}).get? s.heap.objs.size=some {cls:=.type "list",data:=.seq #[]}:=aat _ rfl
 have UC:s.heap.objs.size≠r:=Nat.ne_of_gt EA
 have Xe:s.heap.objs.size≠d:=Nat.ne_of_gt hd
 refine⟨⟨_,hS,rfl⟩,PySem.F.args_list_init_2 _ _,?_⟩
 show wpAny _ _ (do let old ←Builtin.List.listItems (.ref s.heap.objs.size);Builtin.List.listUpdate (.ref s.heap.objs.size) (fun _=>#[]);letGo old.toList.reverse;Builtin.List.listExtendWith (.ref s.heap.objs.size) (.ref r) .none) _ _ _
 refine QW ?_
 unfold Builtin.List.listItems
 refine QW (wpAny_seqItems hS rfl (aag ?_))
 show wpAny _ _ (updateSeq s.heap.objs.size (fun _=>#[]) >>= fun _=>letGo (#[]:Array Value).toList.reverse >>= fun _=>Builtin.List.listExtendWith (.ref s.heap.objs.size) (.ref r) .none) _ _ _
 refine QW (wpAny_updateSeq hS rfl ?_)
 have Sd:=aa3 (Obj.mapSeq (fun _=>(#[]:Array Value))) hS rfl
 have Se:∀b o,s.heap.get? b=some o→((s.heap.push {cls:=.type "list",data:=.seq #[]}).update s.heap.objs.size (Obj.mapSeq (fun _=>(#[]:Array Value)))).get? b=some o:=
  fun b o e=>(abK _ _ (Nat.ne_of_gt (aar e))).trans (WN _ e)
 refine QW (wpAny_letGo ?_)
 generalize (s.heap.push {cls:=.type "list",data:=.seq #[]}).update s.heap.objs.size (Obj.mapSeq (fun _=>(#[]:Array Value)))=h2 at Sd Se
 have zw:St 0 h2:=W.frame 0 _ _ st fun b _ o e=>Se b o e
 have key:∀(h:Heap)(c₁ tk:Nat),St 0 h→(∀b o,s.heap.get? b=some o→h.get? b=some o)→
   h.get? s.heap.objs.size=some {cls:=.type "list",data:=.seq #[] c₁}→codeAny (model prog w) A.in1 (.builtin "list.extend.loop" ⟨[.ref s.heap.objs.size,.ref r,.none],[]⟩)
    (fun r s'=>match r with|.ok (.ret v)=>v=.none∧Q (.ref s.heap.objs.size) s'|.ok _=>False|.error e=>E e s') {s with heap:=h,toks:=tk}:=by
  intro h c₁ tk Ex hk hS₁
  refine codeAny_extend_loopS W.toS hn s.heap.objs.size (by simp only [WK,List.not_mem_nil,or_false,not_or];exact⟨UC,Xe⟩) .none n 0 _ #[] c₁ rfl (aaE _) Ex hS₁ (ItemsOf.nil _) fun s' Lf c' hm hS' yI=>?_
  rw[Moved.eq_with hm]
  refine⟨rfl,hQ s'.heap s'.toks Lf c' (fun b o hb e=>hm.heap b o (fun xb=>?_) (hk b o e)) hS' yI⟩
  rcases WK.mp xb with e'|xb
  ·exact absurd (aar e) (by rw[e'];exact aba _)
  ·exact hb (TN.mp xb)
 unfold Builtin.List.listExtendWith
 refine QW (wpAny_typeOf (T:=T) (hT _ zw) ?_)
 have h1:Builtin.List.listSameRef (.ref s.heap.objs.size) (.ref r)=false:=by simp[Builtin.List.listSameRef,UC]
 simp only [h1,hl,ht,Bool.or_false,aaV,ab3]
 refine QW (self _ _ _ _ zw ?_)
 refine QW (abL (hint _ _ _ _ zw ?_))
 refine ab8 (fun _=>?_) (fun _=>aag ⟨plainId_quiet PySem.F.plain_extend_loop _,key _ _ _ zw Se Sd⟩)
 refine QW (wpAny_rule ?_)
 refine QW ?_
 show wpAny _ _ (updateSeq s.heap.objs.size (·.push .none) >>= fun _=>updateSeq s.heap.objs.size (·.pop)) _ _ _
 refine QW (wpAny_updateSeq Sd rfl ?_)
 have Xf:=aa3 (Obj.mapSeq (·.push Value.none)) Sd rfl
 refine wpAny_updateSeq (hz:=by seq_fits) Xf rfl ?_
 have hS₄:=aa3 (Obj.mapSeq (·.pop)) Xf rfl
 have QJ:∀b o,b≠s.heap.objs.size→h2.get? b=some o→((h2.update s.heap.objs.size (Obj.mapSeq (·.push Value.none))).update s.heap.objs.size (Obj.mapSeq (·.pop))).get? b=some o:=fun b o hb e=>
  (abK _ _ (abA hb)).trans ((abK _ _ (abA hb)).trans e)
 refine aag ⟨plainId_quiet PySem.F.plain_extend_loop _,key _ _ _ (W.frame 0 _ _ zw fun b hb o e=>QJ b o (fun z=>?_) e) (fun b o e=>QJ b o (aaP (aar e)) (Se b o e)) hS₄⟩
 subst z
 simp only [WK,List.not_mem_nil,or_false] at hb
 rcases hb with z|z
 ·exact UC z
 ·exact Xe z
def HA(K:Qqy)(ta:TA):TE:=fun σ H Q=>ta σ H fun vs H1=>∃a xs,vs=[.ref a]∧ib K H1 a xs∧∀p,H1 p=none→Q (.ref p) (upd H1 p (.lst xs.reverse))
theorem D6{a:Expr}{ta:TA}{p1 p2 UD Lg:Pos}(hc:X.calm=true)(JD:Gl X "list")(Sf:X.mg "list"=none)(hg:Gl X "reversed")(hm:X.mg "reversed"=none)(ha:PA X [a] ta)(hs:starEach [a] X.env=[(false,eval a X.env)]:=by rfl)
  (Xg:starEach [.Call (.Name "reversed" p2) [a] [] Lg] X.env=[(false,eval (.Call (.Name "reversed" p2) [a] [] Lg) X.env)]:=by rfl):PE X (.Call (.Name "list" p1) [.Call (.Name "reversed" p2) [a] [] Lg] [] UD) (HA X.K ta):=by
 intro c_ s σ H Q I h
 refine Call_ (mV I JD Sf boot_list (aaN ?_ Xg rfl))
 rw[Xg]
 refine abk ?_
 refine Call_ (mV I hg hm boot_reversed (aaN (i6 (ha Lg c_ s σ H _ I h) fun us s1 iI=>?_) hs rfl))
 obtain⟨vs,H1,I1,r1,q1⟩:=iI
 obtain⟨l,xs,rfl,hq,q⟩:=q1
 obtain⟨u,rfl,ru⟩:=vals1 r1
 cases (show u=Value.ref l from ru)
 obtain⟨ic,rv,pp,hz⟩:=I1.list hq
 have hl:=rv.length
 refine call_reversed_list pp.isList (abE ?_)
 have kr:l<s1.heap.objs.size:=let ⟨o,ho,_⟩:=pp.isList;aar ho
 have hL:(s1.heap.push (revObj l ((ic.toArray.size:Int)-1))).IsList l ic.toArray:=pp.isList.at fun o e=>WN _ e
 refine FO (s:={s1 with heap:=s1.heap.push (revObj l ((ic.toArray.size:Int)-1))}) (T:="list_reverseiterator") (d:=l) (n:=ic.toArray.size) (Walks.listRev (prog:=X.prog) (w:=X.w) (A:=X.A.in1.in1) (show X.A.in1.in1.handled=none from I.ok.hd hc) s1.heap.objs.size l (aaP kr) ic.toArray) (fun h ⟨_,⟨o,ho,Am,_⟩,_⟩=>⟨o,ho,Am⟩) (by decide) (by decide)
  (fun A E s Q ⟨_,⟨o,ho,Am,_⟩,_⟩ hq=>Hz ⟨o,ho,Am⟩ hq) (fun A E s Q ⟨_,x,_⟩ hq=>wpAny_pyIter_revIter x hq) (aax kr (by show s1.heap.objs.size≤(s1.heap.push _).objs.size;rw[Heap.size_push];exact Nat.le_succ _))
  ⟨aaE _,by
   have e:(ic.toArray.size:Int)-1-((0:Nat):Int)=(ic.toArray.size:Int)-1:=by omega
   rw[e];exact⟨_,aat _ rfl,rfl,rfl⟩,hL⟩ (by rw[aaa,←hl];exact hz) fun h' tk acc c hk hS yI=>?_
 have hf:H1 (s1.heap.push (revObj l ((ic.toArray.size:Int)-1))).objs.size=none:=I1.iM.fresh (by rw[Heap.size_push];omega)
 have rel:Vals xs.reverse acc.toList:=by
  have hsz:acc.toList.length=acc.size:=abe
  refine rL (by rw[abf,hsz,yI.1,aaa,hl]) fun i x y hx hy=>?_
  have hi:i<xs.length:=by have:=(List.getElem?_eq_some_iff.mp hx).1;rwa [abf] at this
  have z:=yI.2 i y (by rw[←aa5];exact hy)
  rw[List.getElem?_reverse hi] at hx
  obtain⟨w,hw,Dj⟩:=rv.get hx
  rw[aaa,←hl] at z
  have z2:ic[xs.length-1-i]?=some y:=by simpa using z
  rw[hw] at z2
  cases z2
  exact Dj
 refine⟨.ref _,upd H1 _ (.lst xs.reverse),I1.laid (t':=tk) (h':=h') (fun b o e=>hk b o (aaP (aar e)) (WN _ e)) (by rw[Heap.size_push];omega) ?_,rfl,q _ hf⟩
 exact⟨by rw[abf];exact hz,acc.toList,c,rel,by rw[Array.toArray_toList];exact hS⟩
end
open PySem PySem.Builtin.Str
theorem subAt_one(s:Str)(c i:Nat):subAt s ⟨#[c]⟩ i=decide (s.cps[i]?=some c):=by
 unfold subAt
 show(s.cps.extract i (i+1) ==#[c])=_
 rw[abj]
 simp only [abR,abG]
 by_cases h:i<s.cps.size
 ·have e:s.cps.extract i (i+1)=#[s.cps[i]]:=by
   apply Array.ext
   ·simp;omega
   ·intro j h1 h2
    simp at h2
    subst h2
    simp
  rw[e,aaR h]
  constructor
  ·intro z;simpa using z
  ·intro z;simpa using z
 ·have e:s.cps.extract i (i+1)=#[]:=by
   apply Array.ext
   ·simp;omega
   ·intro j h1 h2;simp at h2
  rw[e,Array.getElem?_eq_none (by omega)]
  simp
noncomputable def nX(s sub:Str)(hi:Nat)(p:Array Nat×Nat)(i:Nat):Array Nat×Nat:=
 if(decide (p.1.size<1)&&decide (p.2≤i)&&decide (i+sub.length≤hi)&&subAt s sub i)=true then(p.1.push i,i+sub.length) else p
theorem HB(s sub:Str)(lo hi:Nat):occurrences s sub lo hi 1=((List.range' lo (hi+1-lo)).foldl (nX s sub hi) (#[],lo)).1.toList:=by
 unfold occurrences
 simp only [Std.Legacy.Range.forIn_eq_forIn_range',Std.Legacy.Range.size]
 rw[show(hi+1-lo+1-1)/1=hi+1-lo by omega]
 generalize List.range' lo (hi+1-lo)=l
 generalize ((#[],lo):Array Nat×Nat)=p
 show Id.run (forIn l p _ >>= _)=_
 have go:∀(l:List Nat)(p:Array Nat×Nat),(forIn l p (fun(i:Nat) (q:Array Nat×Nat)=>(if(decide (q.fst.size<1)&&decide (q.snd≤i)&&decide (i+sub.length≤hi)&&subAt s sub i)=true then
   pure (ForInStep.yield (q.fst.push i,i+sub.length)) else pure (ForInStep.yield (q.fst,q.snd)):Id (ForInStep (Array Nat×Nat)))):Id (Array Nat×Nat))=l.foldl (nX s sub hi) p:=by
  intro l
  induction l with
  | nil=>intro p;rfl
  | cons a r ih=>
   intro p
   rw[List.forIn_cons,List.foldl_cons]
   unfold nX
   split
   ·exact ih _
   ·exact ih _
 rw[go]
 rfl
theorem Kk(s:Str)(c:Nat):(occurrences s ⟨#[c]⟩ 0 s.length 1).isEmpty=decide (c∉s.cps.toList):=by
 rw[HB]
 have inv:∀(l:List Nat)(p:Array Nat×Nat),(p.1=#[]→p.2=0)→((l.foldl (nX s ⟨#[c]⟩ s.length) p).1=#[]↔p.1=#[]∧∀i∈l,¬(i+1≤s.length∧s.cps[i]?=some c)):=by
  intro l
  induction l with
  | nil=>intro p _;simp
  | cons a r ih=>
   intro p hp
   rw[List.foldl_cons]
   by_cases hc:(decide (p.1.size<1)&&decide (p.2≤a)&&decide (a+(⟨#[c]⟩:Str).length≤s.length)&&subAt s ⟨#[c]⟩ a)=true
   ·have e:nX s ⟨#[c]⟩ s.length p a=(p.1.push a,a+(⟨#[c]⟩:Str).length):=aak hc
    rw[e,ih _ (fun z=>by simp at z)]
    simp only [abb,abG,subAt_one] at hc
    constructor
    ·rintro⟨z,_⟩;simp at z
    ·rintro⟨z,h⟩
     exact absurd ⟨hc.1.2,hc.2⟩ (h a aal)
   ·have e:nX s ⟨#[c]⟩ s.length p a=p:=aai hc
    rw[e,ih _ hp]
    constructor
    ·rintro⟨z,h⟩
     refine⟨z,fun i hi=>?_⟩
     rcases WK.mp hi with rfl|hi
     ·intro ⟨h1,h2⟩
      apply hc
      simp only [abb,abG,subAt_one]
      exact⟨⟨⟨by rw[z];decide,by rw[hp z];exact aaE _⟩,h1⟩,h2⟩
     ·exact h i hi
    ·rintro⟨z,h⟩
     exact⟨z,fun i hi=>h i (Z4 _ hi)⟩
 have h:=inv (List.range' 0 (s.length+1-0)) (#[],0) (fun _=>rfl)
 rw[abj,abG,List.isEmpty_iff]
 rw[show(List.foldl (nX s ⟨#[c]⟩ s.length) (#[],0) (List.range' 0 (s.length+1-0))).1.toList=[]↔(List.foldl (nX s ⟨#[c]⟩ s.length) (#[],0) (List.range' 0 (s.length+1-0))).1=#[] from ⟨fun z=>by simpa using z,fun z=>by rw[z]⟩,h]
 constructor
 ·rintro⟨_,h⟩ hm
  obtain⟨i,hi,e⟩:=List.mem_iff_getElem.mp hm
  have zy:i<s.cps.size:=by simpa using hi
  refine h i (by rw[List.mem_range'_1];show 0≤i∧i<0+(s.cps.size+1-0);omega) ⟨zy,?_⟩
  rw[aaR zy]
  simpa using e
 ·intro hn
  refine⟨rfl,fun i _ ⟨_,h2⟩=>hn ?_⟩
  exact UK (i:=i) (by rw[aa5];exact h2)
section
variable{prog:Program}{w:World}{A:Around}{E:Qqq}{s:Shared}
end
section
variable{X:Cx}
end
def uY(h:Heap)(d:Addr)(es:Array DictEntry)(ep:Nat):Prop:=∃o,h.get? d=some o∧o.ExactDict∧o.data=.dict es ep
section
variable{P:Program}{w:World}{A:Around}{E:Qqq}{s:Shared}{d it:Addr}{es:Array DictEntry}{ep i:Nat}
theorem uY.ty(x:uY s.heap d es ep):s.TypeIs (.ref d) "dict":=by obtain⟨o,e,c,_⟩:=x;exact⟨o,e,c.1⟩
theorem uY.at{h h':Heap}(x:uY h d es ep)(k:∀o,h.get? d=some o→h'.get? d=some o):uY h' d es ep:=by obtain⟨o,e,r⟩:=x;exact⟨o,k o e,r⟩
theorem Co{Q:Qqq}(lo:(d ==sysModules)=false)(x:uY s.heap d es ep)
  (k:Q (.ref s.heap.objs.size) {s with heap:=s.heap.push {cls:=.type "dict_keyiterator",data:=.fields #[.ref d,.int 0 0,.int es.size 0,.int ep 0]}}):wpAny (model P w) A (pyIter (.ref d)) Q E s:=by
 have ty:=x.ty
 obtain⟨o,e,c,dt⟩:=x
 refine wpAny_pyIter_slot ty F.slot_dict_iter (ab0 F.slot_dict_iter ty F.entry_dict_iter ?z (F.args_dict_iter_1 _))
 case z=>
  unfold Builtin.«dict.__iter__» Builtin.Dict.dictSlotNone
  refine QW (QW (wpAny_notOrdered_dict ty (show wpAny _ _ (pure (Value.ref d)) _ _ s from aag ?z)))
  case z=>
   show wpAny _ _ (Builtin.Dict.showsAll d >>= _) _ _ s
   unfold Builtin.Dict.showsAll
   rw[lo,aai (fun z=>by cases z)]
   refine QW (aag (QW (aa8 e dt (QW (wpAny_dictEpoch e dt (QW (wpAny_newObj_type (aag ?z))))))))
   case z=>exact⟨_,rfl,"dict_keyiterator",_,⟨_,aat _ rfl,rfl⟩,abh.lookup,by simpa[rawInt] using k⟩
theorem Cp{Q:Option Value→Shared→Prop}{y:DictEntry}(x:s.heap.IsKeyIter it d i es.size ep)(r:uY s.heap d es ep)(hy:es[i]?=some y)
  (k:∀h',h'.IsKeyIter it d (i+1) es.size ep→Heap.SameBut it s.heap h'→Q (some y.key) {s with heap:=h'}):wpAny (model P w) A (pyNext (.ref it)) Q E s:=by
 have ty:=x.typeIs
 obtain⟨o,e,c,dt⟩:=id x
 obtain⟨o2,e2,c2,QK⟩:=r
 have N2:Builtin.Dict_items.ownsTuple "dict_keyiterator"=false:=by decide
 unfold pyNext
 refine QW (wpAny_attempt (wpAny_callSpecial?_slot (name:=Str.ofString "__next__") ty abh (ab0 abh ty F.entry_dict_keyiterator_next ?z (F.args_dict_keyiterator_next_1 _))))
 case z=>
  refine QW (aag (QW (QW ?z)))
  case z=>
   first|refine QW (abC ty (aag (QW (wpAny_fieldsOf e dt ?z))))|refine QW (wpAny_typeNameOf_keyiter ty (aag (QW (wpAny_fieldsOf e dt ?z))))
   case z=>
    simp only [N2,aaV,ab3]
    show wpAny _ _ (if(Value.ref d ==Value.none)=true then _ else _) _ _ s
    rw[aai (fun z=>by cases z)]
    refine QW (aag (QW (aa8 e2 QK ?z)))
    case z=>
     rw[aai (by simp)]
     refine QW (aag (QW (wpAny_dictEpoch e2 QK ?z)))
     case z=>
      rw[aai (by simp)]
      refine aag ?z
      case z=>
       simp only [show ¬((i:Int)<0) by omega,ab3,aa7,hy]
       refine QW ?z
       case z=>
        first|refine QW (abC ty (aag (QW (wpAny_isOneOf_keyiter ty ?z))))|refine QW (wpAny_typeNameOf_keyiter ty (aag (QW (wpAny_isOneOf_keyiter ty ?z))))
        case z=>
         show wpAny _ _ (setField (.ref it) 1 (rawInt ((i:Int)+1)) >>= _) _ _ s
         have n:(s.heap.update it (Obj.mapFields (·.setIfInBounds 1 (rawInt ((i:Int)+1))))).IsKeyIter it d (i+1) es.size ep:=
          ⟨_,aa3 _ e (Obj.isFreed_of_fields (Obj.data_mapFields dt _)),(Obj.cls_mapFields ..).trans c,by rw[Obj.data_mapFields dt];simp[rawInt]⟩
         refine QW (wpAny_setField e dt (by simp) (QW (abL (QW (wpAny_isOneOf_keyiter (s:={s with heap:=s.heap.update it (Obj.mapFields (·.setIfInBounds 1 (rawInt ((i:Int)+1))))}) n.typeIs ?z)))))
         case z=>
          show wpAny _ _ (pure y.key) _ _ _
          exact aag (aag ⟨_,rfl,aag (k _ n (abg ..))⟩)
theorem Cq{Q:Option Value→Shared→Prop}(hh:A.handled=none)(x:s.heap.IsKeyIter it d i es.size ep)(r:uY s.heap d es ep)(hy:es.size≤i)
  (k:∀h',Heap.ExtBut it s.heap h'→Q none {s with heap:=h'}):wpAny (model P w) A (pyNext (.ref it)) Q E s:=by
 have ty:=x.typeIs
 obtain⟨o,e,c,dt⟩:=id x
 obtain⟨o2,e2,c2,QK⟩:=r
 have N2:Builtin.Dict_items.ownsTuple "dict_keyiterator"=false:=by decide
 unfold pyNext
 refine QW (wpAny_attempt (wpAny_callSpecial?_slot (name:=Str.ofString "__next__") ty abh (ab0 abh ty F.entry_dict_keyiterator_next ?z (F.args_dict_keyiterator_next_1 _))))
 case z=>
  refine QW (aag (QW (QW ?z)))
  case z=>
   first|refine QW (abC ty (aag (QW (wpAny_fieldsOf e dt ?z))))|refine QW (wpAny_typeNameOf_keyiter ty (aag (QW (wpAny_fieldsOf e dt ?z))))
   case z=>
    simp only [N2,aaV,ab3]
    show wpAny _ _ (if(Value.ref d ==Value.none)=true then _ else _) _ _ s
    rw[aai (fun z=>by cases z)]
    refine QW (aag (QW (aa8 e2 QK ?z)))
    case z=>
     rw[aai (by simp)]
     refine QW (aag (QW (wpAny_dictEpoch e2 QK ?z)))
     case z=>
      rw[aai (by simp)]
      refine aag ?z
      case z=>
       simp only [show ¬((i:Int)<0) by omega,ab3,aa7,Array.getElem?_eq_none hy]
       refine QW ?z
       case z=>
        first|refine QW (abC ty (aag ?z))|refine QW (wpAny_typeNameOf_keyiter ty (aag ?z))
        case z=>
         show wpAny _ _ (setField (.ref it) 0 .none >>= _) _ _ s
         refine QW (wpAny_setField e dt (by simp) ?z)
         case z=>
          show wpAny _ _ (newExc (.type "StopIteration") [] >>= _) _ _ _
          refine QW ?z
          case z=>
           simp only [newExc,newTuple]
           refine QW (wpAny_newObj_type (QW (m:=firstArgMember _ _) (wpAny_of_eq (a:=Value.none) (by first|rfl|(simp only [firstArgMember];rfl)) (wpAny_newObj_type ?z (by size_fits)))) (by size_fits))
           case z=>
            simp only [raiseNew]
            refine QW (wpAny_handled ?z)
            case z=>
             rw[show A.in1.handled=none from hh]
             refine QW (aag (wpAny_throw ?z))
             case z=>exact QW (wpAny_isInstance (T:="StopIteration") (b:=true) ⟨_,aat _ rfl,rfl⟩ isSubtype_stop <| aag (k _ (((abg ..).extBut.push _).push _)))
end
section
variable{X:Cx}{c_:Qqz}{σ:St}{H:Hp}{s:Shared}{tg:Expr}
noncomputable def FP(d:Addr)(o:Obj)(kvs:List (List Key×V)):It:=
 ⟨fun i H=>H d=some (.nR o (.dT kvs))∧i<kvs.length,fun i H x H'=>H'=H∧∃k v b,kvs[i]?=some (k,v)∧x=.ref b∧H b=some (.tup (k.map kV)),fun i H=>H d=some (.nR o (.dT kvs))∧kvs.length≤i⟩
theorem kt_at{kvs:List (List Key×V)}{xs:List (List Key×Addr×Value)}(r:KT H kvs xs):∀{i:Nat} {k:List Key} {b:Addr} {u:Value},xs[i]?=some (k,b,u)→∃v,kvs[i]?=some (k,v)∧H b=some (.tup (k.map kV))∧RelV v u:=by
 induction r with
 | nil=>intro i k b u e;simp at e
 | @cons p q ps qs f t ih=>
  intro i k b u e
  cases i with
  | zero=>
   simp at e
   subst e
   exact⟨p.2,aaQ some (Prod.ext f.1 rfl),by rw[←show p.1=k from f.1];exact f.2.1,f.2.2⟩
  | succ i=>
   obtain⟨v,h1,h2⟩:=ih (by simpa using e)
   exact⟨v,by simpa using h1,h2⟩
theorem xR{P:Program}{w:World}{h:Heap}{d:Addr}{kvs:List (List Key×V)}(q:i9 P w H h d (.dT kvs)):(d ==sysModules)=false∧kvs.length≤sizeLine∧∃(es:Array DictEntry)(ep:Nat),uY h d es ep∧es.size=kvs.length∧
  (∀(i:Nat)(y:DictEntry),es[i]?=some y→∃k v b,kvs[i]?=some (k,v)∧y.key=.ref b∧H b=some (.tup (k.map kV))∧RelV v y.val):=by
 obtain⟨hz,hs,xs,r,o,es,ep,ho,hc,hd,he,hn⟩:=q
 have sz:=ab9 he
 refine⟨hs,hz,es,ep,⟨o,ho,hc,hd⟩,by rw[sz];exact(aad r).symm,fun i y hy=>?_⟩
 rw[entry_at he i] at hy
 obtain⟨⟨k,b,u⟩,hx,e⟩:=Option.map_eq_some_iff.mp hy
 obtain⟨v,h1,h2,h3⟩:=kt_at r hx
 subst e
 exact⟨k,v,b,h1,rfl,h2,h3⟩
theorem D7{P:Program}{w:World}{K:Qqy}(d it:Addr)(o:Obj)(es:Array DictEntry)(ep:Nat)(kvs:List (List Key×V))(IU:o.data=.dict es ep)(hsz:es.size=kvs.length):Turn P w K tg (FP d o kvs) [it] it (fun i h=>h.IsKeyIter it d i es.size ep) where
 mem:=by simp
 obj:=fun i h st b hb=>by
  have e:b=it:=by simpa using hb
  subst e
  obtain⟨o,e,c,d⟩:=st
  exact⟨o,e,fun v z=>by rw[d] at z;cases z⟩
 keep:=fun i h h' st k=>st.at fun o e=>k it (by simp) o e
 item:=by
  intro X hP hw hK hc i c_ s σ H E I hf st hg
  subst hP hw hK
  obtain⟨hd,hi⟩:=hg
  obtain⟨ho,q⟩:=(show i9 X.prog X.w H s.heap d (.nR o (.dT kvs)) from I.iM d _ hd)
  obtain⟨_,_,OM,LM,raw,sz,GO⟩:=xR q
  obtain⟨o',p8,h2,h3⟩:=id raw
  rw[ho] at p8;cases p8
  rw[IU] at h3;cases h3
  have zy:i<es.size:=by omega
  obtain⟨k,v,b,e1,e2,e3,_⟩:=GO i es[i] (aaR zy)
  obtain⟨f0,f1,f2,f3,f4,f5⟩:=hf it (by simp)
  refine Cp st raw (aaR zy) fun h' zv sb=>?_
  have I1:Inv X c_ σ H {s with heap:=h'}:=I.turned (t':=s.toks) (fun b o hb e=>(sb.2 b hb).trans e) f0 f1 f3 f4 f5
  obtain⟨o',e,c,dd⟩:=id zv
  exact⟨_,rfl,xy (s:={s with heap:=h'}) e c dd (by decide) ⟨.ref b,H,I1,e2,⟨rfl,k,v,b,e1,rfl,e3⟩,zv,fun b hb=>(hf b hb).1⟩⟩
 done:=by
  intro X hP hw hK hc i c_ s σ H E I hf st hg
  subst hP hw hK
  obtain⟨hd,hi⟩:=hg
  obtain⟨ho,q⟩:=(show i9 X.prog X.w H s.heap d (.nR o (.dT kvs)) from I.iM d _ hd)
  obtain⟨_,_,OM,LM,raw,sz,GO⟩:=xR q
  obtain⟨o',p8,h2,h3⟩:=id raw
  rw[ho] at p8;cases p8
  rw[IU] at h3;cases h3
  obtain⟨f0,f1,f2,f3,f4,f5⟩:=hf it (by simp)
  exact Cq (I.ok.hd hc) st raw (by omega) fun h' eb=>⟨rfl,I.turned (t':=s.toks) (fun b o hb e=>eb b o hb e) f0 f1 f3 f4 f5⟩
 self:=fun _ _ _ _ _ st h=>wpAny_pyIter_keyiter st h
def MR(X:Cx)(td:TE):TI:=fun σ H R=>td σ H fun x H1=>∃d kvs,x=.ref d∧H1 d=some (.dT kvs)∧∀o,za X d→R (FP d o kvs) (upd H1 d (.nR o (.dT kvs)))
theorem xS{l:Expr}{td:TE}(hl:PE X l td):PI X tg l (MR X td):=by
 intro c_ s σ H R I h
 refine i6 (hl c_ s σ H _ I h) fun v s1 iI=>?_
 obtain⟨x,H1,I1,r1,q1⟩:=iI
 obtain⟨d,kvs,e,hd,q⟩:=q1
 subst e
 cases r1
 have nf:=I1.MM hd True.intro
 obtain⟨o,ho,I2⟩:=I1.frozen hd True.intro
 obtain⟨hs,_,es,ep,raw,sz,_⟩:=xR (I1.iM d _ hd)
 obtain⟨o',p8,h2,h3⟩:=id raw
 rw[ho] at p8;cases p8
 refine Co hs raw ?_
 refine⟨s1.heap.objs.size,[s1.heap.objs.size],_,_,_,rfl,I2.kept (t':=s1.toks) fun b o e=>WN _ e,D7 d _ o es ep kvs h3 sz,⟨_,aat _ rfl,rfl,rfl⟩,fun b hb=>?_,q o nf⟩
 have e:b=s1.heap.objs.size:=by simpa using hb
 subst e
 exact I2.wM (TU _) (I2.iM.fresh (TU _))
theorem zU{d:Addr}{o:Obj}{kvs:List (List Key×V)}{g:TG}{tb:TS}{D:Ends}{σ:St}{H:Hp}(Pv:Nat→St→Hp→Prop)(h0:Pv 0 σ H)(hl:∀i σ H,Pv i σ H→H d=some (.nR o (.dT kvs)))
  (hs:∀i k v b σ H,kvs[i]?=some (k,v)→H b=some (.tup (k.map kV))→Pv i σ H→g (.ref b) σ H fun σ2 H2=>tb {D with nx:=Pv (i+1),ct:=Pv (i+1),bk:=D.nx} σ2 H2) (hd:∀σ H,Pv kvs.length σ H→D.nx σ H) :
  ∃W:Nat→Nat→St→Hp→Prop,(∃m,W 0 m σ H)∧∀i m σ H,W i m σ H→
   ((FP d o kvs).stop i H∧D.nx σ H)∨((FP d o kvs).go i H∧∃N:St→Hp→Prop,(∀σ' H',N σ' H'→∃m',m'<m∧W (i+1) m' σ' H')∧∀x H',(FP d o kvs).Jw i H x H'→g x σ H' fun σ2 H2=>tb {D with nx:=N,ct:=N,bk:=D.nx} σ2 H2):=by
 refine⟨fun i m σ H=>m=kvs.length-i∧i≤kvs.length∧Pv i σ H,⟨kvs.length,by simp,aaE _,h0⟩,?_⟩
 rintro i m σ H ⟨rfl,hi,p⟩
 have q:=hl i σ H p
 by_cases kr:i<kvs.length
 ·refine .inr ⟨⟨q,kr⟩,Pv (i+1),fun σ' H' p'=>⟨kvs.length-(i+1),by omega,rfl,kr,p'⟩,fun x H' y=>?_⟩
  obtain⟨e,k,v,b,y,rfl,hb⟩:=y
  subst e
  exact hs i k v b σ _ y hb p
 ·have e:i=kvs.length:=by omega
  subst e
  exact .inl ⟨⟨q,TU _⟩,hd σ H p⟩
theorem HC{d:Addr}{o:Obj}{kvs:List (List Key×V)}{g:TG}{tt:TT}{te:TE}{Q:List V→Hp→Prop}{σ:St}{H:Hp}(hn:kvs.length≤sizeLine)(Pv:Nat→List V→St→Hp→Prop)(h0:Pv 0 [] σ H)(hl:∀i ys σ H,Pv i ys σ H→H d=some (.nR o (.dT kvs))∧ys.length≤i)
  (hs:∀i k v b ys σ H,kvs[i]?=some (k,v)→H b=some (.tup (k.map kV))→Pv i ys σ H→g (.ref b) σ H fun σ2 H2=>tt σ2 H2 fun c H3=>if c=true then te σ2 H3 fun v H4=>Pv (i+1) (ys++[v]) σ2 H4 else Pv (i+1) ys σ2 H3)
  (hd:∀ys σ H,Pv kvs.length ys σ H→Q ys H):D1 g tt te (FP d o kvs) Q σ H:=by
 refine⟨fun i m ys σ H=>m=kvs.length-i∧i≤kvs.length∧Pv i ys σ H,⟨kvs.length,by simp,aaE _,h0⟩,?_⟩
 rintro i m ys σ H ⟨rfl,hi,p⟩
 obtain⟨q,hy⟩:=hl i ys σ H p
 by_cases kr:i<kvs.length
 ·refine .inr ⟨⟨q,kr⟩,by omega,Pv (i+1),fun NZ σ' H' p'=>⟨kvs.length-(i+1),by omega,rfl,kr,p'⟩,fun x H' y=>?_⟩
  obtain⟨e,k,v,b,y,rfl,hb⟩:=y
  subst e
  exact hs i k v b ys σ _ y hb p
 ·have e:i=kvs.length:=by omega
  subst e
  exact .inl ⟨⟨q,TU _⟩,by omega,hd ys σ H p⟩
end
section
variable{P:Program}{w:World}{d it:Addr}{es:Array DictEntry}{ep:Nat}
theorem FQ{A:Around}(hh:A.handled=none)(qz:d≠it):Walks P w A it [it,d] [it] es.size (fun i v=>∃y,es[i]?=some y∧v=y.key) (fun i h=>h.IsKeyIter it d i es.size ep∧uY h d es ep) where
 sub:=fun b hb=>by rw[TN.mp hb];exact aal
 frame:=fun i h h' ⟨a,b⟩ hk=>⟨a.at fun o e=>hk it aal o e,b.at fun o e=>hk d (by simp) o e⟩
 item:=fun i s Q E hi ⟨a,b⟩ hQ=>Cp a b (aaR hi) fun h' a' sb=>hQ _ h' s.toks ⟨_,aaR hi,rfl⟩ ⟨a',b.at fun o e=>sb.extBut d o qz e⟩ fun b o hb e=>sb.extBut b o (fun z=>hb (by rw[z];exact TN.mpr rfl)) e
 done:=fun s Q E ⟨a,b⟩ hQ=>Cq hh a b (TU _) fun h' eb=>hQ h' s.toks fun b o hb e=>eb b o (fun z=>hb (by rw[z];exact TN.mpr rfl)) e
 self:=fun i s Q E ⟨a,_⟩ hQ=>wpAny_pyIter_keyiter a hQ
theorem Kl(lo:(d ==sysModules)=false):W.KdlSrc P w "dict" d d es.size (fun i v=>∃y,es[i]?=some y∧v=y.key) (fun h=>uY h d es ep) where
 type:=fun s r=>r.ty
 there:=fun h ⟨o,e,_⟩=>⟨aar e,aar e⟩
 keep:=fun h h' r hk=>r.at fun o e=>hk d (.inl rfl) o e
 notList:=by decide
 notTuple:=by decide
 hint:=fun A E s Q r hq=>W.kdl_hint_dict r.ty hq
 iter:=fun A s hh r=>⟨_,_,(fun E Q hq=>Co lo r hq),FQ hh (by obtain⟨o,e,_⟩:=r;exact aaP (aar e)),⟨⟨_,aat _ rfl,rfl,rfl⟩,r.at fun o e=>WN _ e⟩⟩
end
section
variable{X:Cx}{c_:Qqz}{σ:St}{H:Hp}{s:Shared}
theorem wQ(hc:X.calm=true):vI X (.type "list") (fun xs H Q=>∃d kvs,xs=[V.ref d]∧H d=some (.dT kvs)∧∀p bs,H p=none→Paired (fun(kv:List Key×V) (b:Addr)=>H b=some (.tup (kv.1.map kV))) kvs bs→Q (.ref p) (upd H p (.lst (bs.map V.ref)))):=by
 intro c_ s σ H xs us Q I r h
 obtain⟨d,kvs,rfl,hd,q⟩:=h
 obtain⟨u,rfl,ru⟩:=vals1 r
 cases (show u=Value.ref d from ru)
 obtain⟨hs,hz,es,ep,raw,sz,GO⟩:=xR (I.iM d _ hd)
 refine W.kdl_call (Kl hs) (I.ok.hd hc) raw (by omega) fun h' tk acc c hk hS yI=>?_
 have hf:H s.heap.objs.size=none:=I.iM.fresh (TU _)
 have hb:∀i:Nat,i<kvs.length→∃k v b,kvs[i]?=some (k,v)∧(es[i]?.map DictEntry.key)=some (Value.ref b)∧H b=some (.tup (k.map kV)):=fun i hi=>by
  have zy:i<es.size:=by omega
  obtain⟨k,v,b,e1,e2,e3,_⟩:=GO i es[i] (aaR zy)
  exact⟨k,v,b,e1,by rw[aaR zy,abI,e2],e3⟩
 let adr:Value→Addr:=fun v=>match v with|.ref b=>b|_=>0
 let bs:List Addr:=es.toList.map fun y=>adr y.key
 have LS:bs.length=kvs.length:=by show(es.toList.map _).length=_;rw[QR,abe];exact sz
 have Xh:∀(i:Nat)(b:Addr),bs[i]?=some b→∃k v,kvs[i]?=some (k,v)∧es[i]?.map DictEntry.key=some (Value.ref b)∧H b=some (.tup (k.map kV)):=fun i b e=>by
  have hi:i<kvs.length:=by rw[←LS];exact(List.getElem?_eq_some_iff.mp e).1
  obtain⟨k,v,b',e1,e2,e3⟩:=hb i hi
  have:bs[i]?=some b':=by
   show(es.toList.map _)[i]?=_
   rw[ZZ,aa5]
   obtain⟨y,ey,e4⟩:=Option.map_eq_some_iff.mp e2
   rw[ey]
   show some (adr y.key)=_
   rw[e4]
  rw[this] at e
  cases e
  exact⟨k,v,e1,e2,e3⟩
 have rel:Vals (bs.map V.ref) acc.toList:=by
  refine rL (by have e1:=yI.1;have e2:acc.toList.length=acc.size:=abe;rw[QR,LS];omega) fun i a b ha hb=>?_
  rw[ZZ] at ha
  obtain⟨b',e,rfl⟩:=Option.map_eq_some_iff.mp ha
  obtain⟨k,v,_,e2,_⟩:=Xh i b' e
  obtain⟨y,hy,hv⟩:=yI.2 i b (by rw[←aa5];exact hb)
  rw[hy,abI] at e2
  show b=.ref b'
  rw[hv,aao e2]
 refine⟨.ref s.heap.objs.size,upd H s.heap.objs.size (.lst (bs.map V.ref)),I.laid (t':=tk) hk (TU _) ?_,rfl,q _ bs hf (rL LS.symm fun i a b ha hb=>?_)⟩
 ·exact⟨by rw[QR,LS];exact hz,acc.toList,c,rel,by rw[Array.toArray_toList];exact hS⟩
 ·obtain⟨k,v,e1,_,e3⟩:=Xh i b hb
  rw[e1] at ha
  cases ha
  exact e3
end
section
variable{P:Program}{w:World}{κ:Type}[DecidableEq κ]{knd:HeapKind P w κ}{A:Around}{E:Qqq}{s:Shared}{d a:Addr}{xs:List (κ×Addr×Value)}{k:κ}
theorem HD{v:Value}{Q:Unit→Shared→Prop}(hu:knd.room A)(hk:knd.is s.heap k a)(m:s.heap.DictOfH knd d xs)(hz:xs.length≤sizeLine)
  (q:∀h',h'.DictOfH knd d (storedH xs k a v)→Heap.SameBut d s.heap h'→Q () {s with heap:=h'}):wpAny (model P w) A (dictSetHashed d (.ref a) (knd.hash k) v) Q E s:=by
 obtain⟨o,es,ep,ho,hc,hd,he,OP,hn⟩:=m
 have sz:=ab9 he
 unfold dictSetHashed
 try with_reducible refine abL ?_
 refine QW (wpAny_dictFind_heap hu hk ho hd he OP hn (fun no=>?_) fun j p hj=>?_)
 ·have at0:=atKey_none_of_get no
  refine QW (wpAny_rule (wpAny_updateDictKeys (hz:=by omega) ho hd (q _ ?_ (abg ..))))
  rw[storedH_new at0]
  refine⟨_,_,ep+1,aa3 _ ho (Obj.isFreed_of_dict (Obj.data_mapDictKeys hd _)),hc.mapDictKeys _,Obj.data_mapDictKeys hd _,by simp[he,entryOfKey],fun x hx=>?_,?_⟩
  ·refine knd.keeps ?_ ho hd (abg ..)
   rcases WL.mp hx with hx|hx
   ·exact OP x hx
   ·rw[TN.mp hx];exact hk
  ·rw[aam,aa1]
   exact⟨hn,by simp,fun x hx y hy z=>not_mem_keys_of_get no (by rw[TN.mp hy] at z;have z:x=k:=z;exact z▸hx)⟩
 ·have at1:=atKey_of_get hn hj
  refine QW (wpAny_rule (QW (wpAny_updateDict ho hd (wpAny_point (q _ ?_ (abg ..))))))
  rw[storedH_old at1]
  refine⟨_,_,ep,aa3 _ ho (Obj.isFreed_of_dict (Obj.data_mapDict hd _)),hc.mapDict _,Obj.data_mapDict hd _,?_,fun x hx=>?_,by rw[keys_map_putAt];exact hn⟩
  ·have z:=modify_map_putAt (entryOfKey knd) (fun e:DictEntry=>{e with val:=v}) k v (fun _ _=>rfl) hn hj
   rw[←he] at z
   obtain⟨l⟩:=es
   simpa using z
  ·obtain⟨y,hy,rfl⟩:=aaw.mp hx
   unfold putAt
   split<;>exact knd.keeps (OP y hy) ho hd (abg ..)
noncomputable def Cr(xs:List (κ×Addr×Value))(k:κ):List (κ×Addr×Value):=xs.filter fun x=>decide (x.1≠k)
theorem D8{β:Type}(f:κ×Addr×Value→β):∀{xs:List (κ×Addr×Value)} {j:Nat} {p:Addr×Value},(xs.map (·.1)).Nodup→xs[j]?=some (k,p)→(xs.map f).eraseIdx j=(Cr xs k).map f:=by
 intro xs
 induction xs with
 | nil=>intro j p _ hj;simp at hj
 | cons x r ih=>
  intro j p hn hj
  rw[aaq,aaT] at hn
  unfold Cr
  cases j with
  | zero=>
   simp at hj
   have e:r.filter (fun x=>decide (x.1≠k))=r:=List.filter_eq_self.mpr fun y hy=>UN fun z=>hn.1 (by rw[hj];show k∈_;rw[←z];exact T1 hy)
   rw[aae (by rw[hj];simp),e]
   rfl
  | succ j=>
   have hj:r[j]?=some (k,p):=by simpa using hj
   have ne:x.1≠k:=fun z=>hn.1 (by rw[z];exact aaw.mpr ⟨_,UK hj,rfl⟩)
   rw[Z8 (by simpa using ne),aaq,aaq,List.eraseIdx_cons_succ,ih hn.2 hj]
   rfl
theorem HE{p:Addr×Value}{Q:Option DictEntry→Shared→Prop}(hu:knd.room A)(hk:knd.is s.heap k a)(m:s.heap.DictOfH knd d xs)(hz:xs.length≤sizeLine)(hp:atKey xs k=some p)
  (q:∀h',h'.DictOfH knd d (Cr xs k)→Heap.SameBut d s.heap h'→Q (some ⟨knd.hash k,.ref p.1,p.2⟩) {s with heap:=h',toks:=s.toks+knd.draws k}):wpAny (model P w) A (Builtin.Dict.takeOut d (.ref a)) Q E s:=by
 obtain⟨o,es,ep,ho,hc,hd,he,OP,hn⟩:=m
 have sz:=ab9 he
 unfold Builtin.Dict.takeOut
 try with_reducible refine abL ?_
 refine QW (knd.pyHash hu hk (QW (wpAny_dictFind_heap (s:={s with toks:=s.toks+knd.draws k}) hu hk ho hd he OP hn (fun no=>?_) fun j p' hj=>?_)))
 ·rw[atKey_none_of_get no] at hp;cases hp
 ·have e:=atKey_of_get hn hj
  rw[hp] at e
  cases e
  refine QW (aa8 (s:={s with toks:=s.toks+knd.draws k}) ho hd ?_)
  rw[entry_at he j,hj]
  refine QW (wpAny_updateDictKeys (hz:=by omega) (s:={s with toks:=s.toks+knd.draws k}) ho hd (aag (q _ ?_ (abg ..))))
  refine⟨_,_,ep+1,aa3 _ ho (Obj.isFreed_of_dict (Obj.data_mapDictKeys hd _)),hc.mapDictKeys _,Obj.data_mapDictKeys hd _,?_,fun x hx=>knd.keeps (OP x (aaj.mp hx).1) ho hd (abg ..),(aaW.map _).nodup hn⟩
  have z:=D8 (k:=k) (entryOfKey knd) hn hj
  rw[←he] at z
  rw[←z]
  obtain⟨l⟩:=es
  simp
noncomputable def kA(xs more:List (κ×Addr×Value)):List (κ×Addr×Value):=more.foldl (fun acc x=>storedH acc x.1 x.2.1 x.2.2) xs
theorem Cs{xs more:List (κ×Addr×Value)}{i:Nat}{x:κ×Addr×Value}(h:more[i]?=some x):kA xs (more.take (i+1))=storedH (kA xs (more.take i)) x.1 x.2.1 x.2.2:=by
 unfold kA
 rw[List.take_add_one,h,List.foldl_append]
 rfl
theorem Ct(xs:List (κ×Addr×Value))(k:κ)(a:Addr)(v:Value):(storedH xs k a v).length≤xs.length+1:=by
 unfold storedH
 split
 ·rw[QR];omega
 ·rw[TZ];exact TU _
theorem D9(xs:List (κ×Addr×Value)):∀more:List (κ×Addr×Value),(kA xs more).length≤xs.length+more.length:=by
 intro more
 unfold kA
 induction more generalizing xs with
 | nil=>exact TU _
 | cons x r ih=>
  have h1:=ih (storedH xs x.1 x.2.1 x.2.2)
  have h2:=Ct xs x.1 x.2.1 x.2.2
  rw[List.foldl_cons,WJ]
  omega
theorem D_{nm:String}{o:Addr}{more:List (κ×Addr×Value)}{Q:Unit→Shared→Prop}(hu:knd.room A)(ne:d≠o)(lo:(o ==sysModules)=false)(qz:xs≠[])(md:s.heap.DictOfH knd d xs)(mo:s.heap.DictOfH knd o more)(hz:xs.length+more.length≤sizeLine)
  (q:∀h',h'.DictOfH knd d (kA xs more)→Heap.SameBut d s.heap h'→Q () {s with heap:=h'}):wpAny (model P w) A (Builtin.Dict.mergeDict nm d o) Q E s:=by
 obtain⟨od,Sg,epd,Sh,An,Si,QL,Sb,N3⟩:=id md
 obtain⟨oo,IV,epo,Sj,hco,IU,IK,hio,hno⟩:=id mo
 have szo:=ab9 IK
 have Xi:=ab9 QL
 unfold Builtin.Dict.mergeDict Builtin.Dict.showsAll
 rw[aai (by simpa using ne),lo,aai (fun z=>by cases z)]
 refine QW (aag (QW (aa8 Sj IU ?_)))
 dsimp only
 have loop:wpAny (model P w) A (do
   let QM ←dictEpoch o
   let l ←dictEntries o
   forIn [:l.size] PUnit.unit fun i (_:PUnit)=>(do
     let l' ←dictEntries o
     match l'[i]? with
      | some e=>do
       holding [e.key,e.val] (dictSetHashed d e.key e.hash e.val)
       let LM ←dictEpoch o
       if(LM != QM)=true then do (unsupported (toString nm++toString ":source-changed-during-callback"):Sem PUnit);pure (ForInStep.yield PUnit.unit)
        else pure (ForInStep.yield PUnit.unit)
      | _=>do (unsupported "internal:dict-merge":Sem PUnit);pure (ForInStep.yield PUnit.unit):Sem (ForInStep PUnit))
   pure ()) Q E s:=by
  refine QW (wpAny_dictEpoch Sj IU (QW (aa8 Sj IU (QW ?_))))
  rw[Std.Legacy.Range.forIn_eq_forIn_range']
  simp only [Std.Legacy.Range.size,Nat.sub_zero,Nat.add_sub_cancel,Nat.div_one]
  refine wpAny_forIn_list _ (fun rest _ s'=>∃h' i,s'={s with heap:=h'}∧rest=List.range' i (IV.size-i)∧i≤IV.size∧h'.DictOfH knd d (kA xs (more.take i))∧Heap.SameBut d s.heap h') _ ?_ ?_ _ _ ⟨s.heap,0,rfl,by simp,aaE _,by simpa[kA] using md,Heap.SameBut.refl _ _⟩
  ·rintro x rest b s' ⟨h',i,rfl,hr,hi,hm,hs⟩
   have kr:i<IV.size:=by
    rcases Nat.lt_or_ge i IV.size with z|z
    ·exact z
    ·rw[Nat.sub_eq_zero_of_le z] at hr;simp at hr
   obtain⟨ex,er⟩:x=i∧rest=List.range' (i+1) (IV.size-(i+1)):=by
    rw[show IV.size-i=(IV.size-(i+1))+1 by omega,ab1] at hr
    exact List.cons.inj hr
   subst ex
   have QN:h'.get? o=some oo:=(hs.2 o (abA ne)).trans Sj
   refine QW (aa8 QN IU ?_)
   obtain⟨⟨k,b2,v⟩,hx⟩:∃y,more[x]?=some y:=⟨more[x]'(by omega),QV _⟩
   rw[entry_at IK x,hx]
   show wpAny _ _ (holding [Value.ref b2,v] (dictSetHashed d (.ref b2) (knd.hash k) v) >>= _) _ _ _
   have hl:(kA xs (more.take x)).length≤sizeLine:=by
    have:=D9 xs (more.take x)
    rw[aaG] at this
    omega
   have hib:knd.is h' k b2:=knd.keeps (hio _ (UK hx)) Sh Si hs
   refine QW (abL (HD (s:={s with heap:=h'}) hu hib hm hl fun h2 m2 s2=>?_))
   refine QW (wpAny_dictEpoch ((s2.2 o (abA ne)).trans QN) IU ?_)
   rw[aai (by simp)]
   exact aag ⟨h2,x+1,rfl,er,kr,by rw[Cs hx];exact m2,hs.trans s2⟩
  ·rintro b s' ⟨h',i,rfl,hr,hi,hm,hs⟩
   have e:i=IV.size:=by
    rcases Nat.lt_or_ge i IV.size with z|z
    ·rw[show IV.size-i=(IV.size-(i+1))+1 by omega,ab1] at hr;cases hr
    ·omega
   refine aag (q h' ?_ hs)
   rw[e,szo,aan] at hm
   exact hm
 split
 ·refine QW (aa8 Sh Si ?_)
  rw[aai (fun z=>?_)]
  ·exact loop
  ·have:Sg=#[]:=Array.isEmpty_iff.mp z
   rw[this] at Xi
   exact qz (aaK.mp Xi.symm)
 ·exact loop
theorem HF{o:Addr}{more:List (κ×Addr×Value)}{Q:Qqq}(hu:knd.room A.in1)(ne:d≠o)(lo:(o ==sysModules)=false)(qz:xs≠[])(md:s.heap.DictOfH knd d xs)(mo:s.heap.DictOfH knd o more)(hz:xs.length+more.length≤sizeLine)
  (q:∀h',h'.DictOfH knd d (kA xs more)→Heap.SameBut d s.heap h'→Q .none {s with heap:=h'}):wpAny (model P w) A (call (.builtin "dict.update") [.ref d,.ref o]) Q E s:=by
 refine ab0 abT md.typeIs PySem.F.entry_dict_update ?_ (PySem.F.args_dict_update_2 _ _)
 unfold Builtin.«dict.update» Builtin.Dict.selfAndRest
 refine QW (QW (wpAny_notOrdered_dict md.typeIs (show wpAny _ _ (pure (d,[Value.ref o])) _ _ s from aag ?_)))
 show wpAny _ _ (Builtin.Dict.updateFrom "dict.update" d (.ref o) [] .none) _ _ s
 unfold Builtin.Dict.updateFrom
 refine QW (wpAny_typeOf mo.typeIs ?_)
 rw[aai (by decide)]
 unfold Builtin.Dict.merge Builtin.Dict.readDirectly
 refine QW (QW (QW (wpAny_isInstance mo.typeIs isSubtype_dict_dict ?_)))
 simp only [Bool.not_true,aaV,ab3]
 refine QW (ab6 mo.typeIs F.slot_dict_iter.lookup (aag ?_))
 simp only [beq_self_eq_true,if_true]
 refine QW (aag (D_ hu ne lo qz md mo hz fun h' m s'=>?_))
 show wpAny _ _ (Builtin.Dict.addKeywords d [] >>= _) _ _ _
 exact QW (aag (aag ⟨.none,rfl,q h' m s'⟩))
end
noncomputable def putAll{κ:Type}[DecidableEq κ](kvs more:List (κ×V)):List (κ×V):=more.foldl (fun acc kv=>putK acc kv.1 kv.2) kvs
section
variable{κ:Type}[DecidableEq κ]
theorem qI(kvs:List (κ×V))(p:κ×V)(r:List (κ×V)):putAll kvs (p::r)=putAll (putK kvs p.1 p.2) r:=rfl
theorem pE:∀(more kvs:List (κ×V)),(putAll kvs more).length≤kvs.length+more.length
 | [],kvs=>TU _
 | p::r,kvs=>by
  have h1:=pE r (putK kvs p.1 p.2)
  have h2:=jk kvs p.1 p.2
  rw[qI,WJ]
  omega
theorem kt_merged{H:Hp}{more:List (List Key×V)}{ys:List (List Key×Addr×Value)}(r:KT H more ys):∀{kvs:List (List Key×V)} {xs:List (List Key×Addr×Value)},KT H kvs xs→KT H (putAll kvs more) (kA xs ys):=by
 induction r with
 | nil=>intro kvs xs r;exact r
 | @cons p q ps qs f t ih=>
  intro kvs xs r
  have z:=r.put p.1 (b:=q.2.1) f.2.1 f.2.2
  have z2:=ih z
  rw[show kA xs (q::qs)=kA (storedH xs q.1 q.2.1 q.2.2) qs from rfl,←show p.1=q.1 from f.1]
  exact z2
theorem FR{more:List (κ×V)}{ys:List (κ×Value)}(r:KV more ys):∀{kvs:List (κ×V)} {xs:List (κ×Value)},KV kvs xs→KV (putAll kvs more) (merged xs ys):=by
 induction r with
 | nil=>intro kvs xs r;exact r
 | @cons p q ps qs f t ih=>
  intro kvs xs r
  have z:=ih (KV.put r p.1 f.2)
  rw[show merged xs (q::qs)=merged (stored xs q.1 q.2) qs from rfl,←show p.1=q.1 from f.1]
  exact z
end
section
variable{X:Cx}{c_:Qqz}{σ:St}{H:Hp}{s:Shared}{a b:Addr}{A:Around}{E:Qqq}
theorem Km{kvs:List (List Key×V)}{xs:List (List Key×Addr×Value)}(r:KT H kvs xs)(k:List Key):KT H (kF kvs k) (Cr xs k):=by
 induction r with
 | nil=>exact .nil
 | @cons p q ps qs f t ih=>
  unfold kF Cr
  by_cases e:p.1=k
  ·have e':q.1=k:=f.1.symm.trans e
   rw[aae (by simp[e]),aae (by simp[e'])]
   exact ih
  ·have e':¬q.1=k:=fun z=>e (f.1.trans z)
   rw[Z8 (by simp[e]),Z8 (by simp[e'])]
   exact .cons f ih
theorem MS{kvs more:List (List Key×V)}{Q:Qqq}(hu:A.units+1<cLine)(I:Inv X c_ σ H s)(ha:H a=some (.dT kvs))(hb:Rd H b (.dT more))(ne:a≠b)(h0:kvs≠[])(hz:kvs.length+more.length≤sizeLine)
  (h:∀s',Inv X c_ σ (upd H a (.dT (putAll kvs more))) s'→Q .none s'):wpAny (model X.prog X.w) A (call (.builtin "dict.update") [.ref a,.ref b]) Q E s:=by
 obtain⟨z,lo,xs,rel,dd⟩:=He I.iM ha
 obtain⟨z2,UE,ys,IW,BE⟩:=vM I.iM hb
 have l1:=aad rel
 have l2:=aad IW
 have x0:xs≠[]:=fun e=>h0 (aaK.mp (by rw[l1,e];rfl))
 refine HF (abz hu) ne UE x0 dd BE (by omega) fun h' m hs=>h _ ?_
 obtain⟨q,es,ep,hq,h2,h3,h4,_,h5⟩:=m
 refine tS (t':=s.toks) I (by rw[ha];exact True.intro) hs ⟨q,hq⟩ ⟨aac (pE _ _) hz,lo,_,(kt_merged IW rel).keeps fun c ys ec=>?_,q,es,ep,hq,h2,h3,h4,h5⟩
 rw[d_ (jc ec ha (fun z=>nomatch z))]
 exact ec
theorem MT{kvs more:List (Key×V)}{Q:Qqq}(I:Inv X c_ σ H s)(ha:H a=some (.dK kvs))(hb:Rd H b (.dK more))(ne:a≠b)(hz:kvs.length+more.length≤sizeLine)
  (h:∀s',Inv X c_ σ (upd H a (.dK (putAll kvs more))) s'→Q .none s'):wpAny (model X.prog X.w) A (call (.builtin "dict.update") [.ref a,.ref b]) Q E s:=by
 obtain⟨z,lo,xs,rel,dd⟩:=LC I.iM ha
 obtain⟨z2,UE,ys,IW,BE⟩:=vL I.iM hb
 have l1:=rel.length
 have l2:=IW.length
 refine call_meetsIn abT dd.typeIs PySem.F.entry_dict_update (PySem.F.args_dict_update_2 _ _) (meets_dict_update (jg X.prog X.w) a b ne UE) ⟨xs,ys,dd,BE,by omega,fun h' NX _ hs=>h _ ?_⟩
 have he:∃q,h'.get? a=some q:=let ⟨q,_,_,hq,_⟩:=NX;⟨q,hq⟩
 exact tS (t':=s.toks) I (by rw[ha];exact True.intro) hs he (Hf (aac (pE _ _) hz) lo (FR IW rel) NX)
theorem MU{kvs:List (List Key×V)}{k:List Key}{v:V}{Q:Qqq}(hu:A.units+1<cLine)(I:Inv X c_ σ H s)(ha:H a=some (.dT kvs))(hb:H b=some (.tup (k.map kV)))(l:iU kvs k=some v)
  (h:∀w' s',Inv X c_ σ (upd H a (.dT (kF kvs k))) s'→RelV v w'→Q w' s'):wpAny (model X.prog X.w) A (call (.builtin "dict.pop") [.ref a,.ref b]) Q E s:=by
 obtain⟨z,lo,xs,rel,dd⟩:=He I.iM ha
 have l1:=aad rel
 obtain⟨w',hw,Dj⟩:=pq.some_of (v:=v) (o:=(atKey xs k).map (·.2)) (by rw[←l];exact rel.val k)
 obtain⟨p,hp,zx⟩:=Option.map_eq_some_iff.mp hw
 obtain⟨od,Sg,epd,Sh,An,Si,QL,Sb,N3⟩:=id dd
 refine ab0 PySem.F.slot_dict_pop dd.typeIs PySem.F.entry_dict_pop ?_ (PySem.F.args_dict_pop_2 _ _)
 unfold Builtin.«dict.pop» Builtin.Dict.keyAndDefault
 refine QW (QW (wpAny_notOrdered_dict dd.typeIs (show wpAny _ _ (pure (a,Value.ref b,none)) _ _ s from aag ?_)))
 have part:(keyPart (Value.ref b)).isSome=false:=rfl
 simp only [part,aaV,ab3]
 refine QW (aa8 Sh Si (QW (aag ?_)))
 have ne:Sg.isEmpty=false:=by
  rw[abF]
  intro e
  have e:Sg=#[]:=Array.isEmpty_iff.mp e
  have sz:=ab9 QL
  rw[e] at sz
  have:xs=[]:=aaK.mp sz.symm
  rw[this] at hp
  cases hp
 simp only [ne,aaV,ab3]
 refine QW (HE (abz hu) (sJ I.iM hb) dd (by omega) hp fun h' m hs=>?_)
 simp only [Option.isNone_some,aaV,ab3]
 refine QW (wpAny_letGo (aag ⟨p.2,rfl,?_⟩))
 rw[zx]
 refine h w' _ ?_ Dj
 obtain⟨q,es,ep,hq,h2,h3,h4,_,h5⟩:=m
 refine tS I (by rw[ha];exact True.intro) hs ⟨q,hq⟩ ⟨aac (Hd _ _) z,lo,_,(Km rel k).keeps fun c ys ec=>?_,q,es,ep,hq,h2,h3,h4,h5⟩
 rw[d_ (jc ec ha (fun z=>nomatch z))]
 exact ec
theorem Kn{d:Addr}{es:Array DictEntry}{ep:Nat}{Q:Qqq}{P:Program}{w:World}(lo:(d ==sysModules)=false)(r:uY s.heap d es ep)(fit:(es.size:Int)<2 ^ 63)
  (h:Q (.int es.size (s.toks+1)) {s with toks:=s.toks+1+1}):wpAny (model P w) A (Builtin.«len» ⟨[.ref d],[]⟩) (fun fin s'=>∃r,fin=.done (.ret r)∧Q r s') E s:=by
 obtain⟨o,ho,hc,hd⟩:=id r
 unfold Builtin.«len»
 refine QW (m:=oneArg "len" _) (aag (QW (m:=callSpecial? (.ref d) (Str.ofString "__len__")) (wpAny_callSpecial?_slot (name:=Str.ofString "__len__") r.ty F.slot_dict_len (ab0 F.slot_dict_len r.ty F.entry_dict_len ?_ (F.args_dict_len_1 _)))))
 show wpAny _ _ (dictSize d >>= _) _ _ s
 unfold dictSize
 refine QW (QW (aa8 ho hd (aag ?_)))
 show wpAny _ _ (Builtin.Dict.pendingCount d >>= _) _ _ s
 refine QW (wpAny_pendingCount_other lo (wpAny_ret_mkInt ?_))
 show wpAny _ _ _ _ _ {s with toks:=s.toks+1}
 refine QW (abL (aag (QW (wpAny_letGo ?_))))
 show wpAny _ _ (if((es.size+0:Nat):Int)<0 then _ else _) _ _ _
 rw[aai (by omega),Nat.add_zero]
 show wpAny _ _ (if((es.size:Nat):Int)≥2 ^ 63 then _ else _) _ _ _
 rw[aai (by omega)]
 exact QW (wpAny_mkInt (aag ⟨_,rfl,h⟩))
theorem Ea{d:Addr}{es:Array DictEntry}{ep:Nat}{Q:Bool→Shared→Prop}{P:Program}{w:World}(lo:(d ==sysModules)=false)(r:uY s.heap d es ep)(fit:(es.size:Int)<2 ^ 63)
  (h:Q ((es.size:Int) != 0) {s with toks:=s.toks+1+1}):wpAny (model P w) A (truthy (.ref d)) Q E s:=by
 have key:wpAny (model P w) A (runValue (.builtin "len" ⟨[.ref d],[]⟩)) (fun r s'=>r=.int es.size (s.toks+1)∧Q ((es.size:Int) != 0) s') E s:=by
  refine wpAny_runValue (codeAny_builtin entry_len ?_)
  rw[Around.under_plainId plain_len _]
  refine abr (Kn (Q:=fun r s'=>r=.int es.size (s.toks+1)∧Q ((es.size:Int) != 0) s') lo r fit ⟨rfl,h⟩) (fun fin s' h'=>?_) fun _ _ e=>e
  obtain⟨r,rfl,hq⟩:=h'
  exact hq
 unfold truthy
 first
  | refine QW (wpAny_callSpecial?_none (name:=Str.ofString "__bool__") r.ty noBool_dict ?_)
  | refine QW (aag (QW (wpAny_callSpecial?_none (name:=Str.ofString "__bool__") r.ty noBool_dict ?_)))
 first
  | refine QW (ab6 (name:=Str.ofString "__len__") r.ty F.slot_dict_len.lookup ?_)
  | refine QW (aag (QW (ab6 (name:=Str.ofString "__len__") r.ty F.slot_dict_len.lookup ?_)))
 first
  | exact QW (abr key (fun r s' h'=>by obtain⟨rfl,hq⟩:=h';exact aag hq) fun _ _ e=>e)
  | exact QW (aag (QW (abr key (fun r s' h'=>by obtain⟨rfl,hq⟩:=h';exact aag hq) fun _ _ e=>e)))
end
def MV(td ty:TE):TE:=fun σ H Q=>td σ H fun x H1=>∃a,x=.ref a∧Pu H1 a∧ty σ H1 fun y H2=>∃b kvs more,y=.ref b∧H2 a=some (.dT kvs)∧Rd H2 b (.dT more)∧a≠b∧kvs≠[]∧kvs.length+more.length≤sizeLine∧Q .iP (upd H2 a (.dT (putAll kvs more)))
def MW(td ty:TE):TE:=fun σ H Q=>td σ H fun x H1=>∃a,x=.ref a∧Pu H1 a∧ty σ H1 fun y H2=>∃b kvs more,y=.ref b∧H2 a=some (.dK kvs)∧Rd H2 b (.dK more)∧a≠b∧kvs.length+more.length≤sizeLine∧Q .iP (upd H2 a (.dK (putAll kvs more)))
def MX(td ty:TE):TE:=fun σ H Q=>td σ H fun x H1=>∃a,x=.ref a∧Pu H1 a∧ty σ H1 fun y H2=>∃b kvs k v,y=.ref b∧H2 a=some (.dT kvs)∧H2 b=some (.tup (k.map kV))∧iU kvs k=some v∧Q v (upd H2 a (.dT (kF kvs k)))
section
variable{X:Cx}{o e f:Expr}{apos kX:Pos}{td ty tx:TE}
theorem HG(hu:X.A.units+1<cLine)(ho:PE X o td)(he:PE X e ty)(m:M1 X o "update" apos e kX):PE X (.Call (.Attribute o "update" apos) [e] [] kX) (MV td ty):=by
 intro c_ s σ H Q I h
 refine wpAny_Call_method m.base m.kq m.line abU abT PySem.F.type_dict_update (i6 (ho c_ s σ H _ I h) fun u s1 iI=>?_)
 obtain⟨x,H1,I1,rx,a,ex,d,q1⟩:=iI
 subst ex
 obtain rfl:u=Value.ref a:=rx
 obtain⟨t1,t2,_⟩:=AE I1 d
 refine⟨t1,t2,?_⟩
 rw[m.trees]
 refine abn rfl (abD (abk (i6 (he c_ s1 σ H1 _ I1 q1) fun iv s2 iI=>?_)))
 obtain⟨y,H2,I2,ry,b,kvs,more,ey,ha,hb,ne,h0,hz,q2⟩:=iI
 refine abE ?_
 subst ey
 obtain rfl:iv=Value.ref b:=ry
 exact MS hu I2 ha hb ne h0 hz fun s3 I3=>⟨.iP,_,I3,rfl,q2⟩
theorem HH(ho:PE X o td)(he:PE X e ty)(m:M1 X o "update" apos e kX):PE X (.Call (.Attribute o "update" apos) [e] [] kX) (MW td ty):=by
 intro c_ s σ H Q I h
 refine wpAny_Call_method m.base m.kq m.line abU abT PySem.F.type_dict_update (i6 (ho c_ s σ H _ I h) fun u s1 iI=>?_)
 obtain⟨x,H1,I1,rx,a,ex,d,q1⟩:=iI
 subst ex
 obtain rfl:u=Value.ref a:=rx
 obtain⟨t1,t2,_⟩:=AE I1 d
 refine⟨t1,t2,?_⟩
 rw[m.trees]
 refine abn rfl (abD (abk (i6 (he c_ s1 σ H1 _ I1 q1) fun iv s2 iI=>?_)))
 obtain⟨y,H2,I2,ry,b,kvs,more,ey,ha,hb,ne,hz,q2⟩:=iI
 refine abE ?_
 subst ey
 obtain rfl:iv=Value.ref b:=ry
 exact MT I2 ha hb ne hz fun s3 I3=>⟨.iP,_,I3,rfl,q2⟩
theorem HI(hu:X.A.units+1<cLine)(ho:PE X o td)(he:PE X e ty)(m:M1 X o "pop" apos e kX):PE X (.Call (.Attribute o "pop" apos) [e] [] kX) (MX td ty):=by
 intro c_ s σ H Q I h
 refine wpAny_Call_method m.base m.kq m.line abU PySem.F.slot_dict_pop PySem.F.type_dict_pop (i6 (ho c_ s σ H _ I h) fun u s1 iI=>?_)
 obtain⟨x,H1,I1,rx,a,ex,d,q1⟩:=iI
 subst ex
 obtain rfl:u=Value.ref a:=rx
 obtain⟨t1,t2,_⟩:=AE I1 d
 refine⟨t1,t2,?_⟩
 rw[m.trees]
 refine abn rfl (abD (abk (i6 (he c_ s1 σ H1 _ I1 q1) fun iv s2 iI=>?_)))
 obtain⟨y,H2,I2,ry,b,kvs,k,v,ey,ha,hb,l,q2⟩:=iI
 refine abE ?_
 subst ey
 obtain rfl:iv=Value.ref b:=ry
 exact MU hu I2 ha hb l fun w' s3 I3 Dj=>⟨v,_,I3,Dj,q2⟩
theorem FT{a:Expr}{ta:TE}(ha:PE X a ta)(he:∀whole,isTrue a X.env whole=(do let v ←whole;standAt a.pos;holding [v] (truthy v))) :
  PT X a (fun σ H Q=>ta σ H fun x H'=>∃p kvs,x=.ref p∧H' p=some (.dT kvs)∧Q (!kvs.isEmpty) H'):=by
 intro c_ s σ H Q I h
 refine isTrue_plain (i6 (ha c_ s σ H _ I h) fun v s1 iI=>?_) (he _)
 obtain⟨x,H1,I1,r1,p,kvs,ex,hp,q⟩:=iI
 subst ex
 obtain rfl:v=Value.ref p:=r1
 obtain⟨lo,hz,es,ep,raw,sz,_⟩:=xR (I1.iM p _ hp)
 have hs:sizeLine=16777216:=sizeLine_eq
 refine Ea lo raw (by omega) ?_
 have e:((es.size:Int) != 0)=!kvs.isEmpty:=by rw[sz];cases kvs<;>simp<;>omega
 rw[e]
 exact⟨H1,I1.tok _,q⟩
end
theorem FU:bootBuiltins "enumerate"=some (.type "enumerate"):=by decide+kernel
section
variable{X:Cx}{c_:Qqz}{σ:St}{H:Hp}{s:Shared}{h':Heap}
theorem Inv.Ko{t':Nat}{a b:Addr}(I:Inv X c_ σ H s)(k:∀c o,c≠a→c≠b→s.heap.get? c=some o→h'.get? c=some o)(fa:sG X c_ H a)(fb:sG X c_ H b)
  (ha:∃o,h'.get? a=some o) (hb:∃o,h'.get? b=some o):Inv X c_ σ H {s with heap:=h',toks:=t'}:=by
 obtain⟨a0,a1,a2,a3,a4,a5⟩:=fa
 obtain⟨b0,b1,b2,b3,b4,b5⟩:=fb
 have na:∀c u,H c=some u→c≠a:=fun c u e z=>by rw[z,a0] at e;cases e
 have nb:∀c u,H c=some u→c≠b:=fun c u e z=>by rw[z,b0] at e;cases e
 have out:∀c,c∉[a,b]→c≠a∧c≠b:=fun c hc=>⟨fun z=>hc (by simp[z]),fun z=>hc (by simp[z])⟩
 refine I.step (g':=s.gens) (d':=s.drawn) (ch:=[a,b]) (fun c hc=>?_) (fun c o _ _ hc e _=>k c o (out c hc).1 (out c hc).2 e) (fun c o _ _ hc e _=>⟨o.slots,k c o (out c hc).1 (out c hc).2 e⟩) (fun _ _ _ _ n=>n)
  (fun c o hc e=>⟨o,k c o (out c hc).1 (out c hc).2 e⟩) (fun _ _ e=>e) (fun _ _ _ e=>e) (fun c ps e=>⟨#[],by rw[e];simp⟩) (fun m hm=>?_) (fun c u e=>?_) I.bare
 ·rcases WK.mp hc with z|z
  ·rw[z];exact⟨a3,a1,a4,a5⟩
  ·rw[TN.mp z];exact⟨b3,b1,b4,b5⟩
 ·obtain⟨o,es,ep,ho,r⟩:=hm
  exact⟨o,es,ep,k _ o (abA a1) (abA b1) ho,r⟩
 ·refine(I.iM c u e).xx (fun d v hd q=>k d v ?_ ?_ q) (fun _ q=>q) fun _ _ q=>q
  ·rcases hd with z|z
   ·rw[z];exact na c u e
   ·exact na d _ z
  ·rcases hd with z|z
   ·rw[z];exact nb c u e
   ·exact nb d _ z
end
noncomputable def PN(K:Qqy)(a:Addr):It:=
 ⟨fun i H=>∃xs x,ib K H a xs∧xs[i]?=some x,fun i H x H'=>∃t y,H t=none∧x=.ref t∧H'=upd H t (.tup [.int i,y])∧∀xs,ib K H a xs→xs[i]?=some y,fun i H=>∃xs,ib K H a xs∧xs.length≤i⟩
theorem FV{P:Program}{w:World}{K:Qqy}{elts:List Expr}{x1}{pos:Pos}(a e it:Addr)(qz:e≠it):Turn P w K (.Tuple elts x1 pos) (PN K a) [e,it] e (fun i h=>(∃old,IsEnum h e it ((i:Nat):Int) old)∧h.IsListIter it a i) where
 mem:=by simp
 obj:=fun i h ⟨⟨old,GG⟩,zw⟩ b hb=>by
  rcases WK.mp hb with z|z
  ·subst z;exact⟨_,GG,fun v z=>by have z':Data.fields _=Data.cell v:=z;cases z'⟩
  ·rw[TN.mp z]
   obtain⟨o,ho,c,d⟩:=zw
   exact⟨o,ho,fun v z=>by rw[d] at z;cases z⟩
 keep:=fun i h h' ⟨⟨old,GG⟩,zw⟩ k=>⟨⟨old,k e (by simp) _ GG⟩,zw.at fun o ho=>k it (by simp) o ho⟩
 item:=by
  intro X hP hw hK hc i c_ s σ H E I hf ⟨⟨old,GG⟩,zw⟩ hg
  subst hP hw hK
  obtain⟨xs,x,hq,hx⟩:=hg
  obtain⟨ic,rv,p,hz⟩:=I.list hq
  obtain⟨u,hu,ru⟩:=rv.get hx
  have fe:=hf e (by simp)
  have fi:=hf it (by simp)
  have UG:e<s.heap.objs.size:=aar GG
  refine wpAny_pyNext_enum_item GG zw p.isList (x:=u) (by simpa using hu) qz fun h₁ IK UH ht₁ hz₁ hk₁=>?_
  refine⟨_,rfl,?_⟩
  refine wpAny_letOwnedTupleGo_enum IK fun h₂ Xj QO=>?_
  replace QO:Heap.SameBut e h₁ h₂:=QO
  have ht₂:h₂.get? s.heap.objs.size=some {cls:=.type "tuple",data:=.seq #[.int i s.toks,u]}:=(QO.2 _ (Nat.ne_of_gt UG)).trans ht₁
  have QP:h₂.IsListIter it a (i+1):=UH.extBut QO.extBut (abA qz)
  have Sk:H s.heap.objs.size=none:=I.iM.fresh (TU _)
  have rT:Vals [.int i,x] [.int i s.toks,u]:=.cons ⟨s.toks,rfl⟩ (.cons ru .nil)
  have I1:Inv X c_ σ (upd H s.heap.objs.size (.tup [.int i,x])) {s with heap:=s.heap.push {cls:=.type "tuple",data:=.seq #[.int i s.toks,u]},toks:=s.toks}:=
   I.laid (t':=s.toks) (fun b u e=>WN _ e) (TU _) ⟨L2.kq,_,rT,⟨_,aat _ rfl,rfl,_,rfl⟩⟩
  have up:∀b,sG X c_ H b→b<s.heap.objs.size→sG X c_ (upd H s.heap.objs.size (.tup [.int i,x])) b:=fun b f hb=>by
   obtain⟨f0,r⟩:=f
   exact⟨by rw[d_ (aaP hb)];exact f0,r⟩
  have QQ:it<s.heap.objs.size:=by obtain⟨o,ho,_⟩:=id zw;exact aar ho
  obtain⟨oi,Sl,_⟩:=id QP
  have I2:=I1.Ko (h':=h₂) (t':=s.toks+1) (a:=e) (b:=it) (fun c o h1 h2 hc=>?_) (up e fe UG) (up it fi QQ) ⟨_,Xj⟩ ⟨oi,Sl⟩
  ·refine⟨.ref s.heap.objs.size,_,I2,rfl,⟨_,x,Sk,rfl,rfl,fun ys hy=>by rw[I.oI hy hq];exact hx⟩,⟨⟨u,?_⟩,QP⟩,fun b hb=>?_⟩
   ·have:((i+1:Nat):Int)=(i:Int)+1:=by push_cast;rfl
    rw[this];exact Xj
   ·rcases WK.mp hb with z|z
    ·subst z;exact(up _ fe UG).1
    ·rw[TN.mp z];exact(up it fi QQ).1
  ·by_cases Xk:c=s.heap.objs.size
   ·subst Xk
    have:(s.heap.push {cls:=.type "tuple",data:=.seq #[.int i s.toks,u]}).get? s.heap.objs.size=some {cls:=.type "tuple",data:=.seq #[.int i s.toks,u]}:=aat _ rfl
    rw[this] at hc;cases hc
    exact ht₂
   ·have Am:s.heap.get? c=some o:=(Heap.get?_push_cases hc).elim (fun z=>absurd z.1 Xk) id
    exact(QO.2 c h1).trans (hk₁ c o h1 h2 Am)
 done:=by
  intro X hP hw hK hc i c_ s σ H E I hf ⟨⟨old,GG⟩,zw⟩ hg
  subst hP hw hK
  obtain⟨xs,hq,hx⟩:=hg
  obtain⟨ic,rv,p,hz⟩:=I.list hq
  obtain⟨f0,f1,f2,f3,f4,f5⟩:=hf it (by simp)
  have hl:=rv.length
  exact wpAny_pyNext_enum_end (I.ok.hd hc) GG zw p.isList (Array.getElem?_eq_none (by simp;omega)) fun h' eb=>⟨rfl,I.turned (t':=s.toks) (fun b o hb e=>eb b o hb e) f0 f1 f3 f4 f5⟩
 self:=fun _ _ _ _ _ ⟨⟨old,GG⟩,zw⟩ h=>wpAny_pyIter_enum GG h
def PQ(K:Qqy)(ta:TA):TI:=fun σ H R=>ta σ H fun vs H1=>∃a,vs=[.ref a]∧(∃xs,ib K H1 a xs)∧R (PN K a) H1
section
variable{X:Cx}
theorem Kq{a:Expr}{ta:TA}{p pos:Pos}{elts:List Expr}{x1}{NV:Pos}(hg:Gl X "enumerate")(hm:X.mg "enumerate"=none)(ha:PA X [a] ta)(hs:starEach [a] X.env=[(false,eval a X.env)]:=by rfl):PI X (.Tuple elts x1 NV) (.Call (.Name "enumerate" p) [a] [] pos) (PQ X.K ta):=by
 intro c_ s σ H R I h
 refine Call_ (mV I hg hm FU (aaN (i6 (ha pos c_ s σ H _ I h) fun us s1 iI=>?_) hs rfl))
 obtain⟨vs,H1,I1,r1,q1⟩:=iI
 obtain⟨l,rfl,⟨xs,hq⟩,q⟩:=q1
 obtain⟨u,rfl,ru⟩:=vals1 r1
 cases (show u=Value.ref l from ru)
 obtain⟨ic,rv,pp,hz⟩:=I1.list hq
 refine call_enumerate_list pp.isList fun h' he hit hsz hk=>?_
 have I2:Inv X c_ σ H1 {s1 with heap:=h'}:=I1.kept (t':=s1.toks) hk
 refine wpAny_pyIter_enum he ?_
 refine⟨s1.heap.objs.size+1,[s1.heap.objs.size+1,s1.heap.objs.size],_,_,H1,rfl,I2,FV l (s1.heap.objs.size+1) s1.heap.objs.size (Nat.succ_ne_self _),⟨⟨_,he⟩,hit⟩,fun b hb=>?_,q⟩
 rcases WK.mp hb with z|z
 ·subst z;exact I1.wM (by omega) (I1.iM.fresh (by omega))
 ·rw[TN.mp z];exact I1.wM (TU _) (I1.iM.fresh (TU _))
theorem HJ{K:PySem.W.Frag}{a:Addr}{xs:List V}{g:TG}{tb:TS}{D:Ends}{σ:St}{H:Hp}(Pv:Nat→St→Hp→Prop)(h0:Pv 0 σ H)(hl:∀i σ H,i≤xs.length→Pv i σ H→ib K H a xs)
  (hs:∀i x t σ H,xs[i]?=some x→Pv i σ H→H t=none→g (.ref t) σ (upd H t (.tup [.int i,x])) fun σ2 H2=>tb {D with nx:=Pv (i+1),ct:=Pv (i+1),bk:=D.nx} σ2 H2) (hd:∀σ H,Pv xs.length σ H→D.nx σ H) :
  ∃W:Nat→Nat→St→Hp→Prop,(∃m,W 0 m σ H)∧∀i m σ H,W i m σ H→
   ((PN K a).stop i H∧D.nx σ H)∨((PN K a).go i H∧∃N:St→Hp→Prop,(∀σ' H',N σ' H'→∃m',m'<m∧W (i+1) m' σ' H')∧∀x H',(PN K a).Jw i H x H'→g x σ H' fun σ2 H2=>tb {D with nx:=N,ct:=N,bk:=D.nx} σ2 H2):=by
 refine⟨fun i m σ H=>m=xs.length-i∧i≤xs.length∧Pv i σ H,⟨xs.length,by simp,aaE _,h0⟩,?_⟩
 rintro i m σ H ⟨rfl,hi,p⟩
 have q:=hl i σ H hi p
 by_cases kr:i<xs.length
 ·refine .inr ⟨⟨xs,xs[i],q,QV kr⟩,Pv (i+1),fun σ' H' p'=>⟨xs.length-(i+1),by omega,rfl,kr,p'⟩,fun x H' y=>?_⟩
  obtain⟨t,z,ht,rfl,rfl,y⟩:=y
  exact hs i z t σ _ (y xs q) p ht
 ·have e:i=xs.length:=by omega
  subst e
  exact .inl ⟨⟨xs,q,TU _⟩,hd σ H p⟩
end
structure DF(K:Qqy)(mg:Qqx)(x:Str)(st:Stmt)(a:Addr)(d:FuncData)(ps:List Str):Prop where
 f:vN K x x st a d
 b:Binds K d ps []
 m:mg x=some (.ref a)
structure DM(K:Qqy)(C:Addr)(x q:Str)(st:Stmt)(a:Addr)(d:FuncData)(ps:List Str):Prop where
 f:vN K x q st a d
 b:Binds K d ps []
 t:Meth K C x a
def FI(K:Qqy)(x:Str)(st:Stmt)(f:Addr):Prop:=W.nsIn K mainGlobals x=some (some (.ref f))∧∃d,vN K x x st f d
def MI(K:Qqy)(C:Addr)(x q:Str)(st:Stmt)(f:Addr):Prop:=Meth K C x f∧∃d,vN K x q st f d
section
variable{K:Qqy}{x q:Str}{st:Stmt}{f C:Addr}{oc kV doc pm jw ct:Value}{od an:Option Addr}{GN:Array (Option Value)}
theorem PR(a:W.nsIn K mainGlobals x=some (some (.ref f)))(l:K.lookup f=some ⟨oc,od,.func (W.fnOf x x (nU st) (kL st) (fW st) .none kV doc pm an jw ct),GN⟩)(c:W.codeIn K jw x=true)(k:W.keepIn K (.ref f)=true):FI K x st f:=⟨a,_,Hk l c k⟩
theorem PU(a:W.findIn K (.ref C) x=some (some (.ref f)))(i:W.isFn K (.ref f)=true)(l:K.lookup f=some ⟨oc,od,.func (W.fnOf x q (nU st) (kL st) (fW st) .none kV doc pm an jw ct),GN⟩)(c:W.codeIn K jw q=true)(k:W.keepIn K (.ref f)=true):MI K C x q st f:=⟨⟨a,i,k⟩,_,Hk l c k⟩
end
noncomputable def WM(N P:List Str)(sc:Scope):Bool:=decide (sc.kind=.function)&&!sc.isCoroutine&&!sc.isGenerator&&decide N.Nodup&&decide (N.take P.length=P)&&P.all (fun x=>decide (sc.names.lookup x=some .local)||decide (sc.names.lookup x=some .cell))&&sc.names.all (fun y=>decide (y.2≠.free))
theorem nK{N P:List Str}{sc:Scope}(h:WM N P sc=true:=by decide+kernel):g8 N P sc:=by
 unfold WM at h
 simp only [abb,abG,Bool.not_eq_true',abB,ab7] at h
 obtain⟨⟨⟨⟨⟨⟨a,b⟩,c⟩,d⟩,e⟩,f⟩,g⟩:=h
 exact⟨a,b,c,d,e,f,g⟩
section
variable{X:Cx}{x q m:Str}{st:Stmt}{f C:Addr}{fd:FuncData}{ps:List Str}{sp:Sp}{k j:Nat}{e o:Expr}{es:List Expr}{t:TA}{ta:TE}{p pos apos:Pos}{E:XK}
theorem pk(D:DF X.K X.mg x st f fd ps)(F:iz X.prog X.w X.K X.mg X.base mB k f fd ps sp)(hr:j9 j X.A)(ha:PA X (e::es) t)(hk:k≤j:=by decide)(hg:Gl X x:=by rfl)(Ey:(x ==("__debug__":Str))=false:=by decide)(he:starEach (e::es) X.env=(false,eval e X.env)::starEach es X.env:=by rfl)(nQ:(backTo pos (starEach es X.env)).any (·.1)=false:=by rfl):PE X (.Call (.Name x p) (e::es) [] pos) (G6 sp [] E0 t):=tN F (hr.mono hk) hg D.m D.f.kp D.b .nil qj ha Ey he nQ
theorem TY(b:Bx X E)(D:DF X.K X.mg x st f fd ps)(F:iz X.prog X.w X.K X.mg X.base (tT X.prog X.w) k f fd ps sp)(hr:j9 j X.A)(ha:PA X (e::es) t)(hk:k≤j:=by decide)(hg:Gl X x:=by rfl)(Ey:(x ==("__debug__":Str))=false:=by decide)(he:starEach (e::es) X.env=(false,eval e X.env)::starEach es X.env:=by rfl)(nQ:(backTo pos (starEach es X.env)).any (·.1)=false:=by rfl):PE X (.Call (.Name x p) (e::es) [] pos) (G6 sp [] E t):=tN F (hr.mono hk) hg D.m D.f.kp D.b .nil (LG b) ha Ey he nQ
theorem HK{pl:Sem Bool}(h:PE X o ta)(c:DC X.K C)(D:DM X.K C m q st f fd ps)(F:iz X.prog X.w X.K X.mg X.base mB k f fd ps sp)(hr:j9 j X.A)(ha:PA X (e::es) t)(hk:k≤j:=by decide)(Ex:starEach (e::es) X.env=(false,eval e X.env)::starEach es X.env:=by rfl)(nQ:(backTo pos (starEach es X.env)).any (·.1)=false:=by rfl)
 (ht:eval (.Call (.Attribute o m apos) (e::es) [] pos) X.env=(do
  let ov ←eval o X.env
  standAt apos.atName
  let (f,first) ←holding [ov] (getMethod ov m pl)
  callWith pos f first (backTo pos (starEach (e::es) X.env)) (backToKw pos (keywordEach [] X.env))):=by rfl):PE X (.Call (.Attribute o m apos) (e::es) [] pos) (ES C m sp [] E0 ta t):=ET h c D.t F (hr.mono hk) D.b .nil qj ha Ex nQ ht
theorem E1(b:Bx X E){pl:Sem Bool}(h:PE X o ta)(c:DC X.K C)(D:DM X.K C m q st f fd ps)(F:iz X.prog X.w X.K X.mg X.base (tT X.prog X.w) k f fd ps sp)(hr:j9 j X.A)(ha:PA X (e::es) t)(hk:k≤j:=by decide)(Ex:starEach (e::es) X.env=(false,eval e X.env)::starEach es X.env:=by rfl)(nQ:(backTo pos (starEach es X.env)).any (·.1)=false:=by rfl)
 (ht:eval (.Call (.Attribute o m apos) (e::es) [] pos) X.env=(do
  let ov ←eval o X.env
  standAt apos.atName
  let (f,first) ←holding [ov] (getMethod ov m pl)
  callWith pos f first (backTo pos (starEach (e::es) X.env)) (backToKw pos (keywordEach [] X.env))):=by rfl):PE X (.Call (.Attribute o m apos) (e::es) [] pos) (ES C m sp [] E ta t):=ET h c D.t F (hr.mono hk) D.b .nil (LG b) ha Ex nQ ht
end
section
variable{P:Program}{w:World}{K:Qqy}{mg:Qqx}{base:Heap}
theorem vN.qJ{x qual:Str}{st:Stmt}{f:Addr}{fd:FuncData}{N ps:List Str}{k:Nat}{sp:Sp}(F:vN K x qual st f fd)(S:g8 N ps (fW st))(uH:∀(jw:Value)(A:Around)(outer:List Env)(s:Shared)(H:Hp)(vs:List V)(Q:VK)(E:XK),j9 k (A.deeper (envOfC qual (fW st) s.heap.objs.size f jw))→sp vs H Q E→∃t,DB (uS mB P w K mg base N qual (fW st) f jw A outer s H E).O8 (kL st) t∧t {nx:=fun _ H'=>Q .iP H',rt:=Q} (start N vs) H)(len:∀vs H Q E,sp vs H Q E→vs.length=ps.length:=by intro _ _ _ _ h;repeat (first|(obtain⟨rfl,_⟩:=h;rfl)|obtain⟨_,h⟩:=h)):iz P w K mg base mB (k+1) f fd ps sp:=F.ok S len uH
theorem vN.sM{x qual:Str}{st:Stmt}{f:Addr}{fd:FuncData}{N ps:List Str}{k:Nat}{sp:Sp}(F:vN K x qual st f fd)(S:g8 N ps (fW st))(uH:∀(jw:Value)(A:Around)(outer:List Env)(s:Shared)(H:Hp)(vs:List V)(Q:VK)(E:XK),j9 k (A.deeper (envOfC qual (fW st) s.heap.objs.size f jw))→sp vs H Q E→∃t,DB (uS (tT P w) P w K mg base N qual (fW st) f jw A outer s H E) (kL st) t∧t {nx:=fun _ H'=>Q .iP H',rt:=Q} (start N vs) H)(len:∀vs H Q E,sp vs H Q E→vs.length=ps.length:=by intro _ _ _ _ h;repeat (first|(obtain⟨rfl,_⟩:=h;rfl)|obtain⟨_,h⟩:=h)):iz P w K mg base (tT P w) (k+1) f fd ps sp:=F.Z0 S len uH
end
section
variable{X:Cx}{pos:Pos}
theorem l6(i:Nat){x:Str}{e:Expr}{te:TE}{pos':Pos}{N ps:List Str}{sc:Scope}(S:g8 N ps sc)(he:PE X e te)(hN:X.N=N:=by rfl)(hi:X.N[i]?=some x:=by rfl)(hx:X.env.scope.names.lookup x=some .local:=by rfl)(hs:swapsWith e (some (.Name x pos')) pos.line X.env=pure false:=by rfl):PS X (.Assign [.Name x pos'] e pos) (G0 te (oJ i)):=kU (hN▸S.nd) hi (.inl hx) he hs (.inr hx)
theorem uN(i:Nat){x:Str}{N ps:List Str}{sc:Scope}(S:g8 N ps sc)(hN:X.N=N:=by rfl)(hi:X.N[i]?=some x:=by rfl)(hx:X.env.scope.names.lookup x=some .local:=by rfl):PG X (.Name x pos) (oJ i):=iJ (hN▸S.nd) hi (.inl hx) (.inr hx)
end
section
variable{K:Qqy}
theorem vN.bd{x qual:Str}{st:Stmt}{f:Addr}{fd:FuncData}{ps:List Str}(F:vN K x qual st f fd)(h:∀(kV doc pm:Value)(an:Option Addr)(jw ct:Value)(us:List Value),us.length=ps.length→bindArgs (W.fnOf x qual (nU st) (kL st) (fW st) .none kV doc pm an jw ct) ⟨us,[]⟩=pure (ps.zip us):=by intro _ _ _ _ _ _ us hl;(repeat (rcases us with _|⟨_,us⟩<;>first|(simp at hl;done)|skip));rfl):Binds K fd ps []:=F.binds h
end
section
variable{X:Cx}{a b:Expr}{ta tb:TE}{pos:Pos}{k:Nat}
theorem rV(ha:PE X a ta)(hb:PE X b tb)(hs:EV b:=by exact fun _ _=>rfl):PE X (.Subscript a b pos) (Ph (Pp X.K) ta tb):=iC kx ha hb hs
theorem B1(hr:j9 k X.A)(ha:PE X a ta)(hb:PE X b tb)(hs:MB b:=by exact fun _ _=>rfl):PE X (.Subscript a b pos) (LD ta tb):=J6 (ja hr) ha hb hs
theorem zV(h:PE X a ta)(e:ta=tb:=by(try simp only [lg]);rfl):∃t,PE X a t∧t=tb:=⟨_,h,e⟩
end
end L2
namespace K01
section
variable{α:Type}[DecidableEq α]
noncomputable def lcs:List α→List α→Nat
 | [],_=>0
 | _::_,[]=>0
 | a::as,b::bs=>if b=a then lcs as bs+1 else max (lcs as (b::bs)) (lcs (a::as) bs)
termination_by x y=>x.length+y.length
def m_(x y:List α)(n:Nat):Prop:=(∀s:List α,s.Sublist x→s.Sublist y→s.length≤n)∧∃s:List α,s.Sublist x∧s.Sublist y∧s.length=n
theorem m_.uniq{x y:List α}{n m:Nat}(h:m_ x y n)(g:m_ x y m):n=m:=by
 obtain⟨h1,s,a,b,e⟩:=h
 obtain⟨g1,t,c,d,f⟩:=g
 have:=g1 s a b
 have:=h1 t c d
 omega
theorem m_.Cu(y:List α):m_ [] y 0:=⟨fun s a _=>by have:=a.length_le;simpa using this,[],aaz _,List.nil_sublist _,rfl⟩
theorem m_.zW(x:List α):m_ x [] 0:=⟨fun s _ b=>by have:=b.length_le;simpa using this,[],List.nil_sublist _,aaz _,rfl⟩
theorem lh{s as:List α}{a:α}(h:s.Sublist (a::as)):s.Sublist as∨∃t,s=a::t∧t.Sublist as:=by
 cases h with
 | cons _ h=>exact .inl h
 | cons_cons _ h=>exact .inr ⟨_,rfl,h⟩
theorem m_.eq{as bs:List α}{a:α}{n:Nat}(h:m_ as bs n):m_ (a::as) (a::bs) (n+1):=by
 obtain⟨h1,s,x,y,e⟩:=h
 refine⟨fun t c d=>?_,a::s,x.cons_cons a,y.cons_cons a,by rw[WJ,e]⟩
 rcases lh c with c2|⟨u,e2,c2⟩
 ·rcases lh d with d2|⟨v,e3,d2⟩
  ·have:=h1 t c2 d2;omega
  ·subst e3
   have:=h1 v ((abo a v).trans c2) d2
   rw[WJ];omega
 ·have d':u.Sublist bs:=by
   subst e2
   rcases lh d with d2|⟨v,e',d2⟩
   ·exact(abo a u).trans d2
   ·cases e';exact d2
  have:=h1 u c2 d'
  subst e2
  rw[WJ];omega
theorem m_.ne{as bs:List α}{a b:α}{n m:Nat}(Ez:a≠b)(h:m_ as (b::bs) n)(g:m_ (a::as) bs m):m_ (a::as) (b::bs) (max n m):=by
 obtain⟨h1,s,x,y,e⟩:=h
 obtain⟨g1,s',x',y',e'⟩:=g
 refine⟨fun t c d=>?_,?_⟩
 ·rcases lh c with c'|⟨u,rfl,_⟩
  ·have:=h1 t c' d;omega
  ·rcases lh d with d'|⟨v,e,_⟩
   ·have:=g1 _ c d';omega
   ·cases e;exact absurd rfl Ez
 ·by_cases JE:m≤n
  ·exact⟨s,x.cons a,y,by omega⟩
  ·exact⟨s',x',y'.cons b,by omega⟩
theorem jV:∀x y:List α,m_ x y (lcs x y)
 | [],y=>by rw[lcs];exact .Cu y
 | a::as,[]=>by rw[lcs];exact .zW _
 | a::as,b::bs=>by
  rw[lcs]
  by_cases h:b=a
  ·rw[aak h];subst h;exact(jV as bs).eq
  ·rw[aai h];exact .ne (fun e=>h e.symm) (jV as (b::bs)) (jV (a::as) bs)
termination_by x y=>x.length+y.length
theorem Kr(x:List α):lcs x []=0:=(jV x []).uniq (.zW x)
theorem E2(y:List α):lcs [] y=0:=(jV [] y).uniq (.Cu y)
theorem xT{x x' y y':List α}(h:x.Sublist x')(g:y.Sublist y'):lcs x y≤lcs x' y':=by
 obtain⟨_,s,a,b,e⟩:=jV x y
 rw[←e]
 exact(jV x' y').1 s (a.trans h) (b.trans g)
theorem Cv(x y:List α):lcs x y≤x.length:=by
 obtain⟨_,s,a,b,e⟩:=jV x y
 rw[←e];exact a.length_le
noncomputable def i_(a:α)(new:List α)(j:Nat):Option Nat:=((new.drop j).findIdx? (·=a)).map (j+·)
noncomputable def oO(new:List α):Nat→List α→Nat→List (Nat×Nat)
 | _,[],_=>[]
 | i,a::as,j=>match i_ a new j with
  | none=>oO new (i+1) as j
  | some k=>if lcs as (new.drop (k+1))+1=lcs (a::as) (new.drop j) then(i,k)::oO new (i+1) as (k+1) else oO new (i+1) as j
noncomputable def kept(old new:List α):List (Nat×Nat):=oO new 0 old 0
theorem kc{a:α}{new:List α}{j k:Nat}(h:i_ a new j=some k):j≤k∧new[k]?=some a∧∀l,j≤l→l<k→new[l]?≠some a:=by
 unfold i_ at h
 cases e:(new.drop j).findIdx? (·=a) with
 | none=>rw[e] at h;cases h
 | some d=>
  rw[e] at h
  have h:j+d=k:=aao h
  subst h
  obtain⟨hd,h1,h2⟩:=List.findIdx?_eq_some_iff_getElem.mp e
  have h1:(new.drop j)[d]=a:=by simpa using h1
  refine⟨Nat.le_add_right _ _,?_,fun l hl hk q=>?_⟩
  ·rw[←ab4,QV hd,h1]
  ·have:=h2 (l-j) (by omega)
   have hq:(new.drop j)[l-j]?=some a:=by rw[ab4,show j+(l-j)=l by omega];exact q
   obtain⟨hh,he⟩:=List.getElem?_eq_some_iff.mp hq
   simp[he] at this
theorem nc{a:α}{new:List α}{j:Nat}(h:i_ a new j=none):∀l,j≤l→new[l]?≠some a:=by
 unfold i_ at h
 cases e:(new.drop j).findIdx? (·=a) with
 | some d=>rw[e] at h;cases h
 | none=>
  intro l hl q
  have hq:(new.drop j)[l-j]?=some a:=by rw[ab4,show j+(l-j)=l by omega];exact q
  have:=List.findIdx?_eq_none_iff.mp e a (UK hq)
  simp at this
theorem HL{a:α}{as y:List α}(h:a∉y):lcs (a::as) y=lcs as y:=by
 refine(jV (a::as) y).uniq ⟨fun s c d=>?_,?_⟩
 ·rcases lh c with c|⟨t,rfl,c⟩
  ·exact(jV as y).1 s c d
  ·exact absurd (d.subset aal) h
 ·obtain⟨_,s,c,d,e⟩:=jV as y
  exact⟨s,c.cons a,d,e⟩
theorem pF{new:List α}{k:Nat}{a:α}(h:new[k]?=some a):new.drop k=a::new.drop (k+1):=by
 obtain⟨hk,e⟩:=List.getElem?_eq_some_iff.mp h
 rw[aaS hk,e]
theorem xU{new:List α}{j k:Nat}(h:j≤k):(new.drop k).Sublist (new.drop j):=by
 have:new.drop k=(new.drop j).drop (k-j):=by rw[List.drop_drop];congr 1;omega
 rw[this];exact List.drop_sublist _ _
theorem AN{a:α}{as new:List α}{j l:Nat}(hl:j≤l)(h:new[l]?=some a):lcs as (new.drop (l+1))+1≤lcs (a::as) (new.drop j):=by
 have:lcs (a::as) (new.drop l)≤lcs (a::as) (new.drop j):=xT (aaz _) (xU hl)
 rw[pF h,lcs,aak rfl] at this
 exact this
theorem xV{a:α}{as new:List α}{j k:Nat}(h:i_ a new j=some k)(qz:lcs as (new.drop (k+1))+1≠lcs (a::as) (new.drop j)):lcs (a::as) (new.drop j)=lcs as (new.drop j):=by
 obtain⟨QS,hk,Lh⟩:=kc h
 have h1:=AN (as:=as) QS hk
 have h2:lcs as (new.drop j)≤lcs (a::as) (new.drop j):=xT (abo a as) (aaz _)
 obtain⟨hs,s,c,d,e⟩:=jV (a::as) (new.drop j)
 rcases lh c with c2|⟨t,es,c2⟩
 ·have:=(jV as (new.drop j)).1 s c2 d;omega
 ·exfalso
  subst es
  have key:∀(n:Nat)(j:Nat),k-j=n→j≤k→(∀l,j≤l→l<k→new[l]?≠some a)→(a::t).Sublist (new.drop j)→t.Sublist (new.drop (k+1)):=by
   intro n
   induction n with
   | zero=>
    intro j e1 e2 _ d
    have:j=k:=by omega
    subst this
    rw[pF hk] at d
    rcases lh d with d|⟨u,e,d⟩
    ·exact(abo a t).trans d
    ·cases e;exact d
   | succ n ih=>
    intro j e1 e2 hm d
    have hj:j<new.length:=by
     have:=(List.getElem?_eq_some_iff.mp hk).1;omega
    rw[aaS hj] at d
    rcases lh d with d|⟨u,e,_⟩
    ·exact ih (j+1) (by omega) (by omega) (fun l hl=>hm l (by omega)) d
    ·exfalso
     have e0:a=new[j]:=(List.cons.inj e).1
     exact hm j (TU _) (by omega) (by rw[QV hj,←e0])
  have ht:=key _ j rfl QS Lh d
  have:=(jV as (new.drop (k+1))).1 t c2 ht
  rw[WJ] at e
  omega
theorem FW{a:α}{as new:List α}{j:Nat}(h:i_ a new j=none):lcs (a::as) (new.drop j)=lcs as (new.drop j):=by
 refine HL fun m=>?_
 obtain⟨l,hl⟩:=aaH.mp m
 rw[ab4] at hl
 exact nc h (j+l) (Nat.le_add_right _ _) hl
theorem lj(new:List α):∀(old:List α)(i j:Nat),(oO new i old j).length=lcs old (new.drop j)
 | [],i,j=>by rw[oO,E2];rfl
 | a::as,i,j=>by
  unfold oO
  cases h:i_ a new j with
  | none=>simp only;rw[lj new as,FW h]
  | some k=>
   simp only
   by_cases hc:lcs as (new.drop (k+1))+1=lcs (a::as) (new.drop j)
   ·rw[aak hc,WJ,lj new as];exact hc
   ·rw[aai hc,lj new as,xV h hc]
inductive Good(old new:List α):Nat→Nat→List (Nat×Nat)→Prop
 | nil (i j):Good old new i j []
 | cons {i j p q r} (h1:i≤p) (h2:j≤q) (a:α) (e1:old[p]?=some a) (e2:new[q]?=some a)
  (h3:∀l m,i≤l→l≤p→j≤m→(l<p∨m<q)→∀b,old[l]?=some b→new[m]?=some b→¬r.length≤lcs (old.drop (l+1)) (new.drop (m+1)))
  (t:Good old new (p+1) (q+1) r):Good old new i j ((p,q)::r)
theorem Good.back{old new:List α}{i j:Nat}{a:α}{r:List (Nat×Nat)}(ha:old[i]?=some a)(hl:r.length=lcs (old.drop (i+1)) (new.drop j))(hn:∀m,j≤m→new[m]?=some a→lcs (old.drop (i+1)) (new.drop (m+1))+1≠r.length∧lcs (old.drop (i+1)) (new.drop (m+1))+1≤r.length)
  (h:Good old new (i+1) j r):Good old new i j r:=by
 cases h with
 | nil=>exact .nil _ _
 | @cons _ _ p q r h1 h2 b e1 e2 h3 t=>
  refine .cons (by omega) h2 b e1 e2 (fun l m UI IP hm kr c c1 c2 hle=>?_) t
  by_cases e:l=i
  ·subst e
   rw[ha] at c1
   cases c1
   have z:=hn m hm c2
   rw[WJ] at z
   omega
  ·exact h3 l m (by omega) IP hm kr c c1 c2 hle
theorem pG{old new:List α}:∀(rest:List α)(i j:Nat),old.drop i=rest→Good old new i j (oO new i rest j)
 | [],i,j,_=>by rw[oO];exact .nil _ _
 | a::as,i,j,e=>by
  have ha:old[i]?=some a:=by
   have:(old.drop i)[0]?=some a:=by rw[e];rfl
   rwa [ab4,Nat.add_zero] at this
  have e':old.drop (i+1)=as:=by
   have:=pF ha;rw[e] at this;exact(List.cons.inj this).2.symm
  have L:=lj new as (i+1) j
  unfold oO
  cases h:i_ a new j with
  | none=>
   simp only
   refine Good.back ha (by rw[L,e']) (fun m hm q=>absurd q (nc h m hm)) (pG as (i+1) j e')
  | some k=>
   obtain⟨QS,hk,Lh⟩:=kc h
   simp only
   by_cases hc:lcs as (new.drop (k+1))+1=lcs (a::as) (new.drop j)
   ·rw[aak hc]
    refine .cons (TU _) QS a ha hk (fun l m UI IP hm kr b c1 c2 _=>?_) (pG as (i+1) (k+1) e')
    have:l=i:=by omega
    subst this
    rw[ha] at c1
    cases c1
    exact Lh m hm (by omega) c2
   ·rw[aai hc]
    have S:=xV h hc
    refine Good.back ha (by rw[L,e']) (fun m hm q=>?_) (pG as (i+1) j e')
    rw[L,e',←S]
    have h1:=AN (as:=as) hm q
    refine⟨fun z=>?_,h1⟩
    have hkm:k≤m:=by
     rcases Nat.lt_or_ge m k with z'|z'
     ·exact absurd q (Lh m hm z')
     ·exact z'
    have h2:lcs as (new.drop (m+1))≤lcs as (new.drop (k+1)):=xT (aaz _) (xU (by omega))
    have h3:=AN (as:=as) QS hk
    omega
theorem zX(old new:List α):Good old new 0 0 (kept old new):=pG old 0 0 rfl
theorem vQ(old new:List α):(kept old new).length=lcs old new:=lj new old 0 0
noncomputable def pre(old new:List α)(i k:Nat):Nat:=lcs (old.take i) (new.take k)
noncomputable def uZ(old new:List α)(i j:Nat):Nat:=lcs (old.drop i) (new.drop j)
theorem xl{old new:List α}{i j:Nat}(h:old.length≤i∨new.length≤j):uZ old new i j=0:=by
 unfold uZ
 rcases h with h|h
 ·rw[List.drop_eq_nil_of_le h,E2]
 ·rw[List.drop_eq_nil_of_le h,Kr]
theorem Ks{old new:List α}{i j:Nat}{a b:α}(ha:old[i]?=some a)(hb:new[j]?=some b) :
  uZ old new i j=if b=a then uZ old new (i+1) (j+1)+1 else max (uZ old new (i+1) j) (uZ old new i (j+1)):=by
 unfold uZ
 rw[pF ha,pF hb,lcs,←pF ha,←pF hb]
end
end K01
namespace PM
open PySem
abbrev Nm:=Str×Nat
structure Ln where
 nm:Nm
 tx:Str
 up:Option Nm
 lo:Option Nm
 deriving DecidableEq
structure Pt where
 nm:Str
 file:Option Str
 ik:List Ln
 iV:List Nm
 other:Option Str
 deriving DecidableEq
noncomputable def mD:List Pt→List Str→List Pt
 | [],_=>[]
 | p::r,t=>if p.nm∈t then mD r t else p::mD r (match p.other with|some o=>o::t|none=>t)
noncomputable def live(ps:List Pt):List Pt:=(mD ps.reverse []).reverse
noncomputable def g9(ps:List Pt)(f:Str):List Ln:=(ps.filter fun p=>p.file=some f).flatMap (·.ik)
noncomputable def gone(ps:List Pt):List Nm:=ps.flatMap (·.iV)
noncomputable def kJ(ps:List Pt)(f:Str):List Ln:=(g9 (live ps) f).filter fun l=>l.nm∉gone (live ps)
theorem u0:∀(ps:List Pt)(t:List Str),(mD ps t).Sublist ps
 | [],_=>aaz _
 | p::r,t=>by
  unfold mD
  split
  ·exact(u0 r t).cons p
  ·exact(u0 r _).cons_cons p
theorem xW(ps:List Pt):(live ps).Sublist ps:=by
 have:=(u0 ps.reverse []).reverse
 rwa [List.reverse_reverse] at this
theorem AO{ps qs:List Pt}(h:ps.Sublist qs)(f:Str):(g9 ps f).Sublist (g9 qs f):=by
 unfold g9
 have h:=h.filter (fun p=>decide (p.file=some f))
 generalize ps.filter _=a at h
 generalize qs.filter _=b at h
 induction h with
 | slnil=>exact aaz _
 | cons x _ ih=>rw[aap];exact ih.trans (aaX _ _)
 | cons_cons x _ ih=>rw[aap,aap];exact(aaz _).append ih
theorem kB(ps:List Pt)(f:Str):(kJ ps f).Sublist (g9 ps f):=
 aaW.trans (AO (xW ps) f)
def Sa(ls:List Ln)(m n:Nm):Prop:=∃l∈ls,(l.nm=n∧l.up=some m)∨(l.nm=m∧l.lo=some n)
inductive Ah(ls:List Ln):Nm→Nm→Prop
 | one {m n}:Sa ls m n→Ah ls m n
 | Kt {m k n}:Ah ls m k→Sa ls k n→Ah ls m n
theorem Ah.trans{ls:List Ln}{m k n:Nm}(a:Ah ls m k)(b:Ah ls k n):Ah ls m n:=by
 induction b with
 | one h=>exact .Kt a h
 | Kt _ h ih=>exact .Kt ih h
theorem Sa.mono{l1 l2:List Ln}(h:∀l∈l1,l∈l2){m n:Nm}(a:Sa l1 m n):Sa l2 m n:=by
 obtain⟨l,hl,q⟩:=a
 exact⟨l,h l hl,q⟩
theorem Ah.mono{l1 l2:List Ln}(h:∀l∈l1,l∈l2){m n:Nm}(a:Ah l1 m n):Ah l2 m n:=by
 induction a with
 | one x=>exact .one (x.mono h)
 | Kt _ x ih=>exact .Kt ih (x.mono h)
theorem Ah.last{ls:List Ln}{m n:Nm}:Ah ls m n↔Sa ls m n∨∃k,Ah ls m k∧Sa ls k n:=by
 constructor
 ·intro h
  cases h with
  | one x=>exact .inl x
  | Kt a x=>exact .inr ⟨_,a,x⟩
 ·rintro(x|⟨k,a,x⟩)
  ·exact .one x
  ·exact .Kt a x
def Rk(ls:List Ln)(rk:Nm→Nat):Prop:=∀l∈ls,(∀m,l.up=some m→rk m<rk l.nm)∧(∀m,l.lo=some m→rk l.nm<rk m)
def HM(ls:List Ln):Prop:=∃rk,Rk ls rk
theorem Rk.sa{ls:List Ln}{rk:Nm→Nat}(r:Rk ls rk){m n:Nm}(h:Sa ls m n):rk m<rk n:=by
 obtain⟨l,hl,⟨rfl,e⟩|⟨rfl,e⟩⟩:=h
 ·exact(r l hl).1 m e
 ·exact(r l hl).2 n e
theorem Rk.ah{ls:List Ln}{rk:Nm→Nat}(r:Rk ls rk){m n:Nm}(h:Ah ls m n):rk m<rk n:=by
 induction h with
 | one x=>exact r.sa x
 | Kt _ x ih=>exact Nat.lt_trans ih (r.sa x)
def pH(ls:List Ln):Prop:=∀l∈ls,(∀m,l.up=some m→m∈ls.map (·.nm))∧(∀m,l.lo=some m→m∈ls.map (·.nm))
theorem pH.sa{ls:List Ln}(c:pH ls){m n:Nm}(h:Sa ls m n):m∈ls.map (·.nm)∧n∈ls.map (·.nm):=by
 obtain⟨l,hl,⟨rfl,e⟩|⟨rfl,e⟩⟩:=h
 ·exact⟨(c l hl).1 m e,T1 hl⟩
 ·exact⟨T1 hl,(c l hl).2 n e⟩
theorem pH.ah{ls:List Ln}(c:pH ls){m n:Nm}(h:Ah ls m n):m∈ls.map (·.nm)∧n∈ls.map (·.nm):=by
 induction h with
 | one x=>exact c.sa x
 | Kt _ x ih=>exact⟨ih.1,(c.sa x).2⟩
section
open Classical
variable(lt:Nm→Nm→Prop)
noncomputable def free(ls:List Ln)(l:Ln):Bool:=decide (∀o∈ls,¬lt o.nm l.nm)
noncomputable def ql:Nat→List Ln→List Ln
 | 0,_=>[]
 | n+1,ls=>match ls.find? (free lt ls) with
  | none=>[]
  | some l=>l::ql n (ls.filter fun o=>o.nm≠l.nm)
noncomputable def rowOf(ls:List Ln):List Ln:=ql lt ls.length ls
def ltAt(row:List Ln)(i j:Nat):Prop:=∃a b,row[i]?=some a∧row[j]?=some b∧lt a.nm b.nm
noncomputable def ke(row:List Ln):List (Nat×Nat):=
 (List.range row.length).flatMap fun i=>((List.range' (i+1) (row.length-(i+1))).filter fun j=>decide (¬ltAt lt row i j)).map fun j=>(i,j)
variable{lt}
theorem qK{rk:Nm→Nat}(hr:∀m n,lt m n→rk m<rk n):∀(ls:List Ln),ls≠[]→∃l,ls.find? (free lt ls)=some l:=by
 intro ls hn
 have least:∀(xs:List Ln),xs≠[]→∃l∈xs,∀o∈xs,rk l.nm≤rk o.nm:=by
  intro xs
  induction xs with
  | nil=>intro h;exact absurd rfl h
  | cons x r ih=>
   intro _
   by_cases h:r=[]
   ·subst h;exact⟨x,by simp,fun o ho=>by simp at ho;rw[ho];exact TU _⟩
   ·obtain⟨l,hl,hm⟩:=ih h
    by_cases hx:rk x.nm≤rk l.nm
    ·refine⟨x,by simp,fun o ho=>?_⟩
     rcases WK.mp ho with rfl|ho
     ·exact TU _
     ·exact aac hx (hm o ho)
    ·refine⟨l,Z4 _ hl,fun o ho=>?_⟩
     rcases WK.mp ho with rfl|ho
     ·omega
     ·exact hm o ho
 obtain⟨l,hl,hm⟩:=least ls hn
 have hf:free lt ls l=true:=UN fun o ho kr=>by have:=hr _ _ kr;have:=hm o ho;omega
 cases e:ls.find? (free lt ls) with
 | some x=>exact⟨x,rfl⟩
 | none=>exact absurd hf (by have:=List.find?_eq_none.mp e l hl;simpa using this)
theorem lN{ls:List Ln}(nd:(ls.map (·.nm)).Nodup){l:Ln}(hl:l∈ls):(ls.filter fun o=>o.nm≠l.nm).length+1=ls.length:=by
 induction ls with
 | nil=>cases hl
 | cons x r ih=>
  rw[aaq,aaT] at nd
  rcases WK.mp hl with rfl|hl
  ·have e:r.filter (fun o=>decide (o.nm≠l.nm))=r:=List.filter_eq_self.mpr fun o ho=>UN fun z=>nd.1 (z▸T1 ho)
   rw[aae (by simp),e,WJ]
  ·have hx:x.nm≠l.nm:=fun z=>nd.1 (z▸T1 hl)
   rw[Z8 (by simpa using hx),WJ,WJ,ih nd.2 hl]
theorem mi{ls:List Ln}(nd:(ls.map (·.nm)).Nodup)(p:Ln→Bool):((ls.filter p).map (·.nm)).Nodup:=(aaW.map _).nodup nd
theorem sN{rk:Nm→Nat}(hr:∀m n,lt m n→rk m<rk n):∀(n:Nat)(ls:List Ln),n=ls.length→(ls.map (·.nm)).Nodup→(ql lt n ls).Perm ls
 | 0,ls,e,_=>by
  have:ls=[]:=aaK.mp e.symm
  subst this;exact List.Perm.refl _
 | n+1,ls,e,nd=>by
  have hn:ls≠[]:=fun z=>by subst z;cases e
  obtain⟨l,hf⟩:=qK hr ls hn
  have hl:l∈ls:=List.mem_of_find?_eq_some hf
  unfold ql
  rw[hf]
  have hlen:=lN nd hl
  have ih:=sN hr n (ls.filter fun o=>o.nm≠l.nm) (by omega) (mi nd _)
  refine(ih.cons l).trans ?_
  clear ih hf hlen e hn
  induction ls with
  | nil=>cases hl
  | cons x r ih=>
   rw[aaq,aaT] at nd
   rcases WK.mp hl with rfl|hl
   ·have e:r.filter (fun o=>decide (o.nm≠l.nm))=r:=List.filter_eq_self.mpr fun o ho=>UN fun z=>nd.1 (z▸T1 ho)
    rw[aae (by simp),e]
   ·have hx:x.nm≠l.nm:=fun z=>nd.1 (z▸T1 hl)
    rw[Z8 (by simpa using hx)]
    exact(List.Perm.swap _ _ _).trans ((ih nd.2 hl).cons x)
theorem xX{rk:Nm→Nat}(hr:∀m n,lt m n→rk m<rk n){ls:List Ln}(nd:(ls.map (·.nm)).Nodup):(rowOf lt ls).Perm ls:=sN hr _ ls rfl nd
theorem tV{rk:Nm→Nat}(hr:∀m n,lt m n→rk m<rk n):∀(n:Nat)(ls:List Ln),n=ls.length→(ls.map (·.nm)).Nodup→(ql lt n ls).Pairwise fun a b=>¬lt b.nm a.nm
 | 0,ls,_,_=>List.Pairwise.nil
 | n+1,ls,e,nd=>by
  have hn:ls≠[]:=fun z=>by subst z;cases e
  obtain⟨l,hf⟩:=qK hr ls hn
  have hl:l∈ls:=List.mem_of_find?_eq_some hf
  have hlen:=lN nd hl
  unfold ql
  rw[hf]
  refine List.Pairwise.cons (fun b hb=>?_) (tV hr n _ (by omega) (mi nd _))
  have hb:=(sN hr n (ls.filter fun o=>o.nm≠l.nm) (by omega) (mi nd _)).subset hb
  have hp:=List.find?_some hf
  exact aau hp b (aaj.mp hb).1
theorem AQ{rk:Nm→Nat}(hr:∀m n,lt m n→rk m<rk n){ls:List Ln}(nd:(ls.map (·.nm)).Nodup):(rowOf lt ls).Pairwise fun a b=>¬lt b.nm a.nm:=tV hr _ ls rfl nd
end
noncomputable def Cw(sf:Nm→List Nm)(S:List Nm)(x:Nm):List Nm:=(sf x).filter fun y=>y∉S
inductive Run(sf:Nm→List Nm)(B:Nat):Nat→List Nm→List Nm→Prop
 | nil {S}:Run sf B 0 [] S
 | skip {n x st S}:x∈S→(x::st).length≤B→Run sf B n st S→Run sf B (n+1) (x::st) S
 | fin {n x st S}:x∉S→Cw sf S x=[]→(x::st).length≤B→Run sf B n st (S++[x])→Run sf B (n+1) (x::st) S
 | push {n x st S}:x∉S→Cw sf S x≠[]→(x::st).length≤B→Run sf B n ((Cw sf S x).reverse++x::st) S→Run sf B (n+1) (x::st) S
theorem AR{sf:Nm→List Nm}{S:List Nm}{x:Nm}:Cw sf S x=[]↔∀y∈sf x,y∈S:=by
 unfold Cw
 rw[List.filter_eq_nil_iff]
 exact⟨fun h y hy=>by simpa using h y hy,fun h y hy=>by simpa using h y hy⟩
theorem Ku{sf:Nm→List Nm}{B N:Nat}(cr:Nm→Nat)(hN:∀x,(sf x).length≤N)(hc:∀x y,y∈sf x→cr y<cr x):∀(k:Nat)(x:Nm),cr x≤k→∀(st S:List Nm),st.length+1+N*cr x≤B→
  (∀S',(∀y∈S,y∈S')→x∈S'→∃n,Run sf B n st S')→∃n,Run sf B n (x::st) S:=by
 intro k
 induction k with
 | zero=>
  intro x hx st S hB go
  by_cases hm:x∈S
  ·obtain⟨n,r⟩:=go S (fun _ h=>h) hm
   exact⟨n+1,.skip hm (by rw[WJ];omega) r⟩
  ·have e:Cw sf S x=[]:=AR.mpr fun y hy=>by have:=hc x y hy;omega
   obtain⟨n,r⟩:=go (S++[x]) (fun _ h=>aaf _ h) (by simp)
   exact⟨n+1,.fin hm e (by rw[WJ];omega) r⟩
 | succ k ih=>
  intro x hx st S hB go
  have hlen:(x::st).length≤B:=by rw[WJ];omega
  by_cases hm:x∈S
  ·obtain⟨n,r⟩:=go S (fun _ h=>h) hm
   exact⟨n+1,.skip hm hlen r⟩
  ·by_cases e:Cw sf S x=[]
   ·obtain⟨n,r⟩:=go (S++[x]) (fun _ h=>aaf _ h) (by simp)
    exact⟨n+1,.fin hm e hlen r⟩
   ·
    have many:∀(ms:List Nm)(S0:List Nm),(∀y∈ms,y∈sf x)→ms.length≤N→(∀S',(∀y∈S0,y∈S')→(∀y∈ms,y∈S')→∃n,Run sf B n (x::st) S')→∃n,Run sf B n (ms++x::st) S0:=by
     intro ms
     induction ms with
     | nil=>intro S0 _ _ h;exact h S0 (fun _ z=>z) (fun y hy=>by cases hy)
     | cons m r ihm=>
      intro S0 hs hl h
      have hcm:=hc x m (hs m aal)
      rw[WJ] at hl
      refine ih m (by omega) (r++x::st) S0 ?_ fun S1 h1 Sf=>ihm S1 (fun y hy=>hs y (Z4 _ hy)) (by omega) fun S2 h2 h3=>h S2 (fun y hy=>h2 y (h1 y hy)) fun y hy=>?_
      ·rw[TZ,WJ]
       have:N*cr m+N≤N*cr x:=by rw[←Nat.mul_succ];exact Nat.mul_le_mul_left N hcm
       omega
      ·rcases WK.mp hy with z|z
       ·rw[z];exact h2 m Sf
       ·exact h3 y z
    have zz:(Cw sf S x).length≤N:=aac (aaU _ _) (hN x)
    have cont:∀S',(∀y∈S,y∈S')→(∀y∈(Cw sf S x).reverse,y∈S')→∃n,Run sf B n (x::st) S':=fun S' h1 h2=>by
     by_cases N4:x∈S'
     ·obtain⟨n,r⟩:=go S' h1 N4
      exact⟨n+1,.skip N4 hlen r⟩
     ·have e':Cw sf S' x=[]:=AR.mpr fun y hy=>by
       by_cases R7:y∈S
       ·exact h1 y R7
       ·exact h2 y (List.mem_reverse.mpr (aaj.mpr ⟨hy,by simpa using R7⟩))
      obtain⟨n,r⟩:=go (S'++[x]) (fun y hy=>aaf _ (h1 y hy)) (by simp)
      exact⟨n+1,.fin N4 e' hlen r⟩
    obtain⟨n,r⟩:=many (Cw sf S x).reverse S (fun y hy=>(aaj.mp (List.mem_reverse.mp hy)).1) (by rw[abf];exact zz) cont
    exact⟨n+1,.push hm e hlen r⟩
noncomputable def OH(ls:List Ln)(rk:Nm→Nat)(n:Nm):Nat:=(ls.filter fun l=>rk l.nm<rk n).length
theorem MY(ls:List Ln)(rk:Nm→Nat)(n:Nm):OH ls rk n≤ls.length:=aaU _ _
theorem MZ{ls:List Ln}{rk:Nm→Nat}{m n:Nm}(hm:m∈ls.map (·.nm))(h:rk m<rk n):OH ls rk m<OH ls rk n:=by
 unfold OH
 have mono:∀{a b:Ln→Bool} {xs:List Ln},(∀x∈xs,a x=true→b x=true)→(xs.filter a).length≤(xs.filter b).length:=by
  intro a b xs Ez
  induction xs with
  | nil=>exact TU _
  | cons x r ih=>
   have ih:=ih fun y hy=>Ez y (Z4 _ hy)
   by_cases ha:a x=true
   ·rw[Z8 ha,Z8 (Ez x aal ha),WJ,WJ];omega
   ·rw[aae ha]
    by_cases hb:b x=true
    ·rw[Z8 hb,WJ];omega
    ·rw[aae hb];exact ih
 obtain⟨l,hl,rfl⟩:=aaw.mp hm
 obtain⟨a,b,rfl⟩:=ab5 hl
 rw[aaD,aaD,TZ,TZ]
 rw[aae (by simp),Z8 (by simpa using h),WJ]
 have h1:=mono (a:=fun x:Ln=>decide (rk x.nm<rk l.nm)) (b:=fun x=>decide (rk x.nm<rk n)) (xs:=a) fun x _ hx=>by simp at hx ⊢;omega
 have h2:=mono (a:=fun x:Ln=>decide (rk x.nm<rk l.nm)) (b:=fun x=>decide (rk x.nm<rk n)) (xs:=b) fun x _ hx=>by simp at hx ⊢;omega
 omega
theorem len_sub{xs ys:List Nm}(nd:xs.Nodup)(h:∀x∈xs,x∈ys):xs.length≤ys.length:=by
 induction xs generalizing ys with
 | nil=>exact aaE _
 | cons a r ih=>
  rw[aaT] at nd
  obtain⟨p,q,rfl⟩:=ab5 (h a aal)
  have:=ih (ys:=p++q) nd.2 fun z hz=>by
   have:=h z (Z4 _ hz)
   rcases WL.mp this with w|w
   ·exact aaf _ w
   ·rcases WK.mp w with w|w
    ·exact absurd (w▸hz) nd.1
    ·exact aay _ w
  rw[TZ] at this
  rw[WJ,TZ,WJ]
  omega
theorem HN{ls:List Ln}(cl:pH ls)(tp:HM ls){sf:Nm→List Nm}(hs:∀n,(sf n).Nodup∧∀m,m∈sf n↔Sa ls m n)(x:Nm)(S:List Nm):∃n,Run sf (1+ls.length*ls.length) n [x] S:=by
 obtain⟨rk,hr⟩:=tp
 have UJ:∀n,(sf n).length≤ls.length:=fun n=>by
  have:=len_sub (ys:=ls.map (·.nm)) (hs n).1 fun y hy=>(cl.sa (((hs n).2 y).mp hy)).1
  rw[QR] at this
  exact this
 refine Ku (N:=ls.length) (OH ls rk) UJ (fun x y hy=>?_) _ x (TU _) [] S ?_ fun S' _ _=>⟨0,.nil⟩
 ·have h:=((hs x).2 y).mp hy
  exact MZ (cl.sa h).1 (hr.sa h)
 ·have:=Nat.mul_le_mul_left ls.length (MY ls rk x)
  show 0+1+ls.length*OH ls rk x≤1+ls.length*ls.length
  omega
def Cy(n m:Nat)(qs:List (Nat×Nat)):Prop:=qs.Pairwise (fun a b=>a.1<b.1∧a.2<b.2)∧∀q∈qs,q.1<n∧q.2<m
theorem FX{α:Type}[DecidableEq α]{old new:List α}{i j:Nat}{qs:List (Nat×Nat)}(g:K01.Good old new i j qs):Cy old.length new.length qs∧∀q∈qs,i≤q.1∧j≤q.2:=by
 induction g with
 | nil=>exact⟨⟨List.Pairwise.nil,fun q hq=>by cases hq⟩,fun q hq=>by cases hq⟩
 | @cons i j p q r h1 h2 a e1 e2 h3 t ih=>
  obtain⟨⟨h4,h5⟩,h6⟩:=ih
  refine⟨⟨List.Pairwise.cons (fun b hb=>?_) h4,fun b hb=>?_⟩,fun b hb=>?_⟩
  ·have:=h6 b hb
   exact⟨by show p<b.1;omega,by show q<b.2;omega⟩
  ·rcases WK.mp hb with rfl|hb
   ·exact⟨(List.getElem?_eq_some_iff.mp e1).1,(List.getElem?_eq_some_iff.mp e2).1⟩
   ·exact h5 b hb
  ·rcases WK.mp hb with rfl|hb
   ·exact⟨h1,h2⟩
   ·have:=h6 b hb
    omega
theorem oP{α:Type}[DecidableEq α](old new:List α):Cy old.length new.length (K01.kept old new):=(FX (K01.zX old new)).1
noncomputable def lH(row:List Ln):List (Nat×Nat)→Nat→Option Nm
 | [],_=>none
 | q::r,s=>if q.2=s then(row[q.1]?).map (·.nm) else lH row r s
noncomputable def mj(row:List Ln)(qs:List (Nat×Nat)):List Nm:=qs.filterMap fun q=>(row[q.1]?).map (·.nm)
theorem AS{row:List Ln}{qs:List (Nat×Nat)}{s:Nat}{m:Nm}(h:lH row qs s=some m):∃q∈qs,q.2=s∧∃l,row[q.1]?=some l∧l.nm=m:=by
 induction qs with
 | nil=>cases h
 | cons q r ih=>
  unfold lH at h
  by_cases e:q.2=s
  ·rw[aak e] at h
   obtain⟨l,hl,e2⟩:=Option.map_eq_some_iff.mp h
   exact⟨q,aal,e,l,hl,e2⟩
  ·rw[aai e] at h
   obtain⟨q',hq,z⟩:=ih h
   exact⟨q',Z4 _ hq,z⟩
theorem AU{row:List Ln}{m:Nat}:∀{qs:List (Nat×Nat)},Cy row.length m qs→∀s,(lH row qs s).isSome=decide (s∈qs.map (·.2))
 | [],_,s=>rfl
 | q::r,h,s=>by
  have hr:Cy row.length m r:=⟨(List.pairwise_cons.mp h.1).2,fun x hx=>h.2 x (Z4 _ hx)⟩
  unfold lH
  by_cases e:q.2=s
  ·rw[aak e,QV (h.2 q aal).1,UN (by rw[aaq,e];exact aal)];rfl
  ·rw[aai e,AU hr s,aaq]
   by_cases z:s∈r.map (·.2)
   ·rw[UN z,UN (Z4 _ z)]
   ·rw[aab z,aab (fun w=>(WK.mp w).elim (fun w=>e w.symm) z)]
theorem Kv{row:List Ln}{qs:List (Nat×Nat)}{m:Nat}{rk:Nm→Nat}(h:Cy row.length m qs)(hr:row.Pairwise fun a b=>rk a.nm<rk b.nm){s t:Nat}{a b:Nm}(hs:lH row qs s=some a)(ht:lH row qs t=some b)(Ex:s<t):rk a<rk b:=by
 obtain⟨q1,h1,e1,l1,r1,rfl⟩:=AS hs
 obtain⟨q2,h2,e2,l2,r2,rfl⟩:=AS ht
 have kr:q1.1<q2.1:=by
  obtain⟨i,hi,ei⟩:=List.mem_iff_getElem.mp h1
  obtain⟨j,hj,ej⟩:=List.mem_iff_getElem.mp h2
  have hp:=aaY.mp h.1
  rcases Nat.lt_trichotomy i j with z|z|z
  ·have:=hp i j hi hj z;rw[ei,ej] at this;exact this.1
  ·subst z;rw[ei] at ej;subst ej;omega
  ·have:=hp j i hj hi z;rw[ei,ej] at this;omega
 obtain⟨g1,w1⟩:=List.getElem?_eq_some_iff.mp r1
 obtain⟨g2,w2⟩:=List.getElem?_eq_some_iff.mp r2
 have:=aaY.mp hr _ _ g1 g2 kr
 rw[w1,w2] at this
 exact this
noncomputable def DE(kn:Nat→Option Nm):Nat→Nat→Option Nm
 | 0,_=>none
 | k+1,i=>match kn (i+1) with|some m=>some m|none=>DE kn k (i+1)
noncomputable def pI(p:Str)(kn:Nat→Option Nm):Nat→Nat→Option Nm→List Str→List Ln
 | _,_,_,[]=>[]
 | i,j,u,t::r=>match kn i with
  | some m=>pI p kn (i+1) j (some m) r
  | none=>⟨(p,j),t,u,DE kn r.length i⟩::pI p kn (i+1) (j+1) (some (p,j)) r
noncomputable def j1(p:Str)(texts:List Str)(kn:Nat→Option Nm):List Ln:=pI p kn 0 0 none texts
noncomputable def iG(p f:Str)(row:List Ln)(texts:List Str):Pt:=
 ⟨p,some f,j1 p texts (lH row (K01.kept (row.map (·.tx)) texts)),(row.filter fun l=>l.nm∉mj row (K01.kept (row.map (·.tx)) texts)).map (·.nm),none⟩
theorem tW(p:Str)(kn:Nat→Option Nm):∀(r:List Str)(i j:Nat)(u:Option Nm),(pI p kn i j u r).map (·.nm)=(List.range' j (pI p kn i j u r).length).map fun k=>(p,k)
 | [],_,_,_=>rfl
 | t::r,i,j,u=>by
  unfold pI
  cases h:kn i with
  | some m=>exact tW p kn r (i+1) j (some m)
  | none=>
   simp only [aaq,WJ,ab1]
   rw[tW p kn r (i+1) (j+1) (some (p,j))]
theorem xY(p:Str)(kn:Nat→Option Nm):∀(r:List Str)(i j:Nat)(u:Option Nm),(pI p kn i j u r).length=((List.range' i r.length).filter fun k=>(kn k).isNone).length
 | [],_,_,_=>rfl
 | t::r,i,j,u=>by
  unfold pI
  rw[WJ,ab1]
  cases h:kn i with
  | some m=>rw[aae (by simp[h])];exact xY p kn r (i+1) j (some m)
  | none=>rw[Z8 (by simp[h]),WJ];simp only [WJ];rw[xY p kn r (i+1) (j+1) (some (p,j))]
theorem AV{kn:Nat→Option Nm}{m:Nm}:∀{k i:Nat},DE kn k i=some m→∃t,i<t∧t≤i+k∧kn t=some m
 | 0,_,h=>by cases h
 | k+1,i,h=>by
  unfold DE at h
  cases e:kn (i+1) with
  | some m'=>
   rw[e] at h
   cases h
   exact⟨i+1,by omega,by omega,e⟩
  | none=>
   rw[e] at h
   obtain⟨t,h1,h2,h3⟩:=AV (k:=k) (i:=i+1) h
   exact⟨t,by omega,by omega,h3⟩
theorem xm{p:Str}{kn:Nat→Option Nm}:∀(r:List Str)(i j:Nat)(u:Option Nm),∀l∈pI p kn i j u r,∀m,l.up=some m∨l.lo=some m→(u=some m∨∃t,kn t=some m)∨m∈(pI p kn i j u r).map (·.nm)
 | [],_,_,_,l,hl,_,_=>by cases hl
 | t::r,i,j,u,l,hl,m,hm=>by
  unfold pI at hl ⊢
  cases h:kn i with
  | some m'=>
   rw[h] at hl
   rcases xm r (i+1) j (some m') l hl m hm with(z|z)|z
   ·exact .inl (.inr ⟨i,by rw[h];exact z⟩)
   ·exact .inl (.inr z)
   ·exact .inr z
  | none=>
   rw[h] at hl
   rcases WK.mp hl with rfl|hl
   ·rcases hm with hm|hm
    ·exact .inl (.inl hm)
    ·obtain⟨t,_,_,e⟩:=AV hm
     exact .inl (.inr ⟨t,e⟩)
   ·rcases xm r (i+1) (j+1) (some (p,j)) l hl m hm with(z|z)|z
    ·cases z
     exact .inr (by rw[aaq];exact aal)
    ·exact .inl (.inr z)
    ·exact .inr (Z4 _ z)
noncomputable def HP(rk:Nm→Nat)(kn:Nat→Option Nm):Nat→Nat
 | 0=>0
 | i+1=>match kn i with|some m=>rk m+1|none=>HP rk kn i
noncomputable def T2(kn:Nat→Option Nm)(n j:Nat):Nat:=(((List.range n).filter fun k=>(kn k).isNone)[j]?).getD 0
noncomputable def Eb(rk:Nm→Nat)(kn:Nat→Option Nm)(p:Str)(n:Nat)(x:Nm):Nat:=if x.1=p then HP rk kn (T2 kn n x.2)*(n+1)+x.2+1 else(rk x+1)*(n+1)
theorem HQ{rk:Nm→Nat}{kn:Nat→Option Nm}(hk:∀s t a b,kn s=some a→kn t=some b→s<t→rk a<rk b):∀i t b,kn t=some b→i≤t→HP rk kn i≤rk b
 | 0,_,_,_,_=>aaE _
 | i+1,t,b,h,hi=>by
  unfold HP
  cases e:kn i with
  | some m=>exact hk i t m b e h (by omega)
  | none=>exact HQ hk i t b h (by omega)
theorem M0{kn:Nat→Option Nm}{n i:Nat}(hi:i<n)(h:kn i=none):T2 kn n ((List.range i).filter fun k=>(kn k).isNone).length=i:=by
 unfold T2
 have e:List.range n=List.range i++i::List.range' (i+1) (n-(i+1)):=by
  have h1:List.range n=List.range i++(List.range' i (n-i)):=by
   have:=List.range'_append_1 (s:=0) (m:=i) (n:=n-i)
   rw[Nat.zero_add,show i+(n-i)=n by omega] at this
   rw[abP,abP,this]
  rw[h1,show n-i=(n-(i+1))+1 by omega,ab1]
 rw[e,aaD,Z8 (by simp[h]),aa0 (TU _),Nat.sub_self]
 rfl
theorem AW{rk:Nm→Nat}{kn:Nat→Option Nm}{p:Str}{n:Nat}(hk:∀s t a b,kn s=some a→kn t=some b→s<t→rk a<rk b)(hp:∀s a,kn s=some a→a.1≠p) :
  ∀(r:List Str)(i j:Nat)(u:Option Nm),i+r.length=n→j=((List.range i).filter fun k=>(kn k).isNone).length→(∀m,u=some m→Eb rk kn p n m≤HP rk kn i*(n+1)+j)→
   Rk (pI p kn i j u r) (Eb rk kn p n)
 | [],_,_,_,_,_,_=>fun l hl=>by cases hl
 | t::r,i,j,u,hn,hj,hu=>by
  rw[WJ] at hn
  have IT:i<n:=by omega
  have Li:j≤i:=by rw[hj];exact aac (aaU _ _) (by rw[abH];exact TU _)
  have e1:(List.range (i+1)).filter (fun k=>(kn k).isNone)=(List.range i).filter (fun k=>(kn k).isNone)++if(kn i).isNone then[i] else[]:=by
   rw[ab_,aaD]
   congr 1
   cases h:(kn i).isNone<;>simp[h]
  unfold pI
  cases h:kn i with
  | some m=>
   refine AW hk hp r (i+1) j (some m) (by omega) (by rw[e1,h];simpa using hj) fun m' e=>?_
   cases e
   unfold Eb
   rw[aai (hp i m h),HP.eq_2,h]
   show(rk m+1)*(n+1)≤(rk m+1)*(n+1)+j
   omega
  | none=>
   have IX:Eb rk kn p n (p,j)=HP rk kn i*(n+1)+j+1:=by
    unfold Eb
    rw[aak rfl,hj,M0 IT h]
   have hb:HP rk kn (i+1)=HP rk kn i:=by rw[HP.eq_2,h]
   intro l hl
   rcases WK.mp hl with rfl|hl
   ·refine⟨fun m hm=>?_,fun m hm=>?_⟩
    ·have:=hu m hm
     show Eb rk kn p n m<Eb rk kn p n (p,j)
     omega
    ·obtain⟨t',Xl,LU,e⟩:=AV hm
     show Eb rk kn p n (p,j)<Eb rk kn p n m
     have hle:=HQ hk i t' m e (by omega)
     rw[IX]
     unfold Eb
     rw[aai (hp t' m e)]
     have h1:HP rk kn i*(n+1)≤rk m*(n+1):=Nat.mul_le_mul_right _ hle
     have h2:(rk m+1)*(n+1)=rk m*(n+1)+(n+1):=Nat.succ_mul _ _
     omega
   ·refine AW hk hp r (i+1) (j+1) (some (p,j)) (by omega) (by rw[e1,h,hj];simp) (fun m' e=>?_) l hl
    cases e
    rw[IX,hb]
    omega
theorem HR{rk:Nm→Nat}{kn:Nat→Option Nm}{p:Str}(hk:∀s t a b,kn s=some a→kn t=some b→s<t→rk a<rk b)(hp:∀s a,kn s=some a→a.1≠p)(texts:List Str):Rk (j1 p texts kn) (Eb rk kn p texts.length):=
 AW hk hp texts 0 0 none (by omega) rfl fun m e=>by cases e
theorem HS{rk:Nm→Nat}{kn:Nat→Option Nm}{p:Str}{n:Nat}{ls:List Ln}(r:Rk ls rk)(h:∀l∈ls,l.nm.1≠p∧∀m,l.up=some m∨l.lo=some m→m.1≠p):Rk ls (Eb rk kn p n):=by
 intro l hl
 obtain⟨h1,h2⟩:=h l hl
 have e:∀x:Nm,x.1≠p→Eb rk kn p n x=(rk x+1)*(n+1):=fun x hx=>by unfold Eb;rw[aai hx]
 refine⟨fun m hm=>?_,fun m hm=>?_⟩
 ·rw[e _ h1,e _ (h2 m (.inl hm))]
  exact Nat.mul_lt_mul_of_pos_right (Nat.succ_lt_succ ((r l hl).1 m hm)) (Nat.succ_pos _)
 ·rw[e _ h1,e _ (h2 m (.inr hm))]
  exact Nat.mul_lt_mul_of_pos_right (Nat.succ_lt_succ ((r l hl).2 m hm)) (Nat.succ_pos _)
theorem Cz{xs ys:List Nat}(nd:xs.Nodup)(h:∀x∈xs,x∈ys):xs.length≤ys.length:=by
 have:=len_sub (xs:=xs.map fun k=>((Str.empty,k):Nm)) (ys:=ys.map fun k=>(Str.empty,k)) (List.pairwise_map.mpr (nd.imp fun h z=>h (aaQ Prod.snd z))) fun x hx=>by
  obtain⟨k,hk,rfl⟩:=aaw.mp hx
  exact T1 (h k hk)
 rwa [QR,QR] at this
theorem xZ{α:Type}(p:α→Bool):∀xs:List α,(xs.filter p).length+(xs.filter fun x=>!p x).length=xs.length
 | []=>rfl
 | x::r=>by
  have:=xZ p r
  cases h:p x<;>simp[h]<;>omega
theorem E3{row:List Ln}{texts:List Str}{qs:List (Nat×Nat)}(h:Cy row.length texts.length qs)(p:Str):(j1 p texts (lH row qs)).length+qs.length=texts.length:=by
 unfold j1
 rw[xY,←abP]
 have h2:=xZ (fun k=>(lH row qs k).isNone) (List.range texts.length)
 rw[abH] at h2
 have h3:((List.range texts.length).filter fun x=>!(lH row qs x).isNone).length=qs.length:=by
  have nd:(qs.map (·.2)).Nodup:=List.pairwise_map.mpr (h.1.imp fun z e=>by omega)
  refine Nat.le_antisymm ?_ ?_
  ·have:=Cz (xs:=(List.range texts.length).filter fun x=>!(lH row qs x).isNone) (ys:=qs.map (·.2)) (List.nodup_range.sublist aaW) fun x hx=>by
    have h4:=(aaj.mp hx).2
    have h5:(lH row qs x).isSome=true:=by cases e:lH row qs x<;>simp[e] at h4 ⊢
    rw[AU h] at h5
    exact aau h5
   rwa [QR] at this
  ·have:=Cz (xs:=qs.map (·.2)) (ys:=(List.range texts.length).filter fun x=>!(lH row qs x).isNone) nd fun x hx=>by
    refine aaj.mpr ⟨abN.mpr ?_,?_⟩
    ·obtain⟨q,hq,rfl⟩:=aaw.mp hx
     exact(h.2 q hq).2
    ·have h5:=AU h x
     rw[UN hx] at h5
     cases e:lH row qs x<;>simp[e] at h5 ⊢
   rwa [QR] at this
 omega
structure Dk where
 made:List Pt
 iY:Str→List Str
 stores:List Str
 held:Str→List Str
noncomputable def named(p:Pt):List Nm:=p.iV++p.ik.flatMap fun l=>l.up.toList++l.lo.toList
noncomputable def iu(p:Pt):List Str:=((named p).filter fun n=>n.1≠p.nm).map (·.1)++p.other.toList
noncomputable def pJ(nd:Str→List Str)(p:Pt):List Str:=(iu p).flatMap fun y=>y::nd y
namespace Dk
noncomputable def names(D:Dk):List Str:=D.made.map (·.nm)
noncomputable def keep(D:Dk)(s:Str)(p:Pt):Dk:=⟨D.made++[p],fun x=>if x=p.nm then pJ D.iY p else D.iY x,D.stores,fun t=>if t=s then D.held s++[p.nm] else D.held t⟩
noncomputable def begin(D:Dk)(s:Str):Dk:=⟨D.made,D.iY,D.stores++[s],fun t=>if t=s then[] else D.held t⟩
noncomputable def ll(D:Dk)(s:Str):List Pt:=D.made.filter fun p=>p.nm∈D.held s
noncomputable def has(D:Dk)(s:Str):List Str:=D.names.filter fun x=>x∈D.held s
noncomputable def PV(D:Dk)(x:Str):List Str:=D.names.filter fun y=>y∈D.iY x
noncomputable def FY(D:Dk)(s x:Str):List Str:=(D.PV x++[x]).filter fun y=>y∉D.held s
noncomputable def take(D:Dk)(s x:Str):Dk:=⟨D.made,D.iY,D.stores,fun t=>if t=s then D.held s++D.FY s x else D.held t⟩
def drop(D:Dk)(s x:Str):Dk:=⟨D.made,D.iY,D.stores,fun t=>if t=s then(D.held s).filter (fun y=>y≠x) else D.held t⟩
noncomputable def row(D:Dk)(s f:Str):List Ln:=rowOf (Ah (g9 (D.ll s) f)) (kJ (D.ll s) f)
noncomputable def zb(D:Dk)(s f:Str):List (Nat×Nat):=ke (Ah (g9 (D.ll s) f)) (D.row s f)
theorem Kw(D:Dk)(s:Str):D.has s=(D.ll s).map (·.nm):=by
 unfold has ll names
 rw[List.filter_map];rfl
end Dk
structure Inv(D:Dk):Prop where
 nd:D.names.Nodup
 DG:∀p∈D.made,p.ik.map (·.nm)=(List.range p.ik.length).map fun j=>(p.nm,j)
 refs:∀p∈D.made,∀l∈p.ik,∀m,l.up=some m∨l.lo=some m→∃q∈D.made,q.file=p.file∧m∈q.ik.map (·.nm)∧(q.nm=p.nm∨q.nm∈D.iY p.nm)
 rank:∃rk,∀p∈D.made,Rk p.ik rk
 before:∀i p,D.made[i]?=some p→∀x∈D.iY p.nm,x∈(D.made.take i).map (·.nm)
 trans:∀x∈D.names,∀y∈D.iY x,∀z∈D.iY y,z∈D.iY x
 stN:D.stores.Nodup
 ni:∀s∈D.stores,∀x∈D.held s,x∈D.names∧∀y∈D.iY x,y∈D.held s
 vR:∀s∈D.stores,(D.held s).Nodup
 HU:∀p∈D.made,∀n∈p.iV,n.1≠p.nm
 need:∀p∈D.made,∀y,y∈D.iY p.nm↔∃z∈iu p,y=z∨y∈D.iY z
theorem nj{p:Pt}(h:p.ik.map (·.nm)=(List.range p.ik.length).map fun j=>(p.nm,j)){m:Nm}(hm:m∈p.ik.map (·.nm)):m.1=p.nm:=by
 rw[h] at hm
 obtain⟨j,_,rfl⟩:=aaw.mp hm
 rfl
theorem E4{ps:List Pt}(nd:(ps.map (·.nm)).Nodup){p q:Pt}(hp:p∈ps)(hq:q∈ps)(e:p.nm=q.nm):p=q:=by
 induction ps with
 | nil=>cases hp
 | cons x r ih=>
  rw[aaq,aaT] at nd
  rcases WK.mp hp with h1|h1
  ·rcases WK.mp hq with h2|h2
   ·rw[h1,h2]
   ·exact absurd (by rw[←h1,e];exact T1 h2) nd.1
  ·rcases WK.mp hq with h2|h2
   ·exact absurd (by rw[←h2,←e];exact T1 h1) nd.1
   ·exact ih nd.2 h1 h2
theorem Ec{ps:List Pt}(nd:(ps.map (·.nm)).Nodup)(h:∀p∈ps,p.ik.map (·.nm)=(List.range p.ik.length).map fun j=>(p.nm,j)):((ps.flatMap (·.ik)).map (·.nm)).Nodup:=by
 induction ps with
 | nil=>exact abi
 | cons x r ih=>
  rw[aaq,aaT] at nd
  rw[aap,aam,aa1]
  refine⟨?_,ih nd.2 fun p hp=>h p (Z4 _ hp),fun a ha b hb e=>?_⟩
  ·rw[h x aal]
   exact List.pairwise_map.mpr (List.nodup_range.imp fun z e=>z (aaQ Prod.snd e))
  ·have e1:=nj (h x aal) ha
   obtain⟨l,hl,rfl⟩:=aaw.mp hb
   obtain⟨q,hq,hlq⟩:=aaZ.mp hl
   have e2:=nj (h q (Z4 _ hq)) (T1 hlq)
   exact nd.1 (by rw[←e1,e,e2];exact T1 hq)
theorem lq{ps:List Pt}{f:Str}{l:Ln}:l∈g9 ps f↔∃p∈ps,p.file=some f∧l∈p.ik:=by
 unfold g9
 rw[aaZ]
 constructor
 ·rintro⟨p,hp,hl⟩
  obtain⟨h1,h2⟩:=aaj.mp hp
  exact⟨p,h1,aau h2,hl⟩
 ·rintro⟨p,h1,h2,hl⟩
  exact⟨p,aaj.mpr ⟨h1,UN h2⟩,hl⟩
theorem tX(ps:List Pt)(f:Str):(g9 ps f).Sublist (ps.flatMap (·.ik)):=by
 unfold g9
 have h:=aaW (p:=fun p:Pt=>decide (p.file=some f)) (l:=ps)
 generalize ps.filter _=qs at h
 induction h with
 | slnil=>exact aaz _
 | cons x _ ih=>rw[aap];exact ih.trans (aaX _ _)
 | cons_cons x _ ih=>rw[aap,aap];exact(aaz _).append ih
namespace Inv
variable{D:Dk}
theorem kP{s:Str}{p:Pt}:p∈D.ll s↔p∈D.made∧p.nm∈D.held s:=by
 unfold Dk.ll
 rw[aaj,aa2]
theorem xn(s:Str):(D.ll s).Sublist D.made:=aaW
theorem nodup(I:Inv D)(s f:Str):((g9 (D.ll s) f).map (·.nm)).Nodup:=
 ((tX _ f).map _).nodup (Ec (((xn s).map _).nodup I.nd) fun p hp=>I.DG p (xn s |>.subset hp))
theorem Ed(I:Inv D)(s f:Str):((kJ (D.ll s) f).map (·.nm)).Nodup:=((kB _ f).map _).nodup (I.nodup s f)
theorem closed(I:Inv D){s:Str}(hs:s∈D.stores)(f:Str):pH (g9 (D.ll s) f):=by
 have key:∀l∈g9 (D.ll s) f,∀m,l.up=some m∨l.lo=some m→m∈(g9 (D.ll s) f).map (·.nm):=fun l hl m hm=>by
  obtain⟨p,hp,hf,hl⟩:=lq.mp hl
  obtain⟨hp,hh⟩:=kP.mp hp
  obtain⟨q,hq,e,UL,hn⟩:=I.refs p hp l hl m hm
  obtain⟨l',uI,rfl⟩:=aaw.mp UL
  refine T1 (lq.mpr ⟨q,kP.mpr ⟨hq,?_⟩,by rw[e];exact hf,uI⟩)
  rcases hn with hn|hn
  ·rw[hn];exact hh
  ·exact(I.ni s hs _ hh).2 _ hn
 exact fun l hl=>⟨fun m hm=>key l hl m (.inl hm),fun m hm=>key l hl m (.inr hm)⟩
theorem M3(I:Inv D)(s f:Str):HM (g9 (D.ll s) f):=by
 obtain⟨rk,h⟩:=I.rank
 refine⟨rk,fun l hl=>?_⟩
 obtain⟨p,hp,_,hl⟩:=lq.mp hl
 exact h p (kP.mp hp).1 l hl
theorem oQ(I:Inv D)(s f:Str):(D.row s f).Perm (kJ (D.ll s) f):=by
 obtain⟨rk,r⟩:=I.M3 s f
 exact xX (rk:=rk) (fun m n z=>r.ah z) (I.Ed s f)
theorem rM(I:Inv D){s f:Str}{l:Ln}(h:l∈D.row s f):∃p∈D.ll s,p.file=some f∧l∈p.ik:=
 lq.mp ((kB _ f).subset ((I.oQ s f).subset h))
theorem xo(I:Inv D)(s f:Str):(D.row s f).length≤(D.made.flatMap (·.ik)).length:=by
 rw[(I.oQ s f).length_eq]
 refine aac (kB _ f).length_le (aac (tX _ f).length_le ?_)
 have h:=xn (D:=D) s
 generalize D.ll s=qs at h
 generalize D.made=ms at h
 clear I
 induction h with
 | slnil=>exact TU _
 | cons x _ ih=>rw[aap,TZ];omega
 | cons_cons x _ ih=>rw[aap,aap,TZ,TZ];omega
open Classical in
theorem chain{lt:Nm→Nm→Prop}{row:List Ln}(hq:ke lt row=[]):row.Pairwise fun a b=>lt a.nm b.nm:=by
 rw[aaY]
 intro i j hi hj UM
 by_cases c:ltAt lt row i j
 ·obtain⟨a,b,ha,hb,z⟩:=c
  rw[QV hi] at ha
  rw[QV hj] at hb
  cases ha;cases hb
  exact z
 ·exfalso
  have:(i,j)∈ke lt row:=by
   unfold ke
   refine aaZ.mpr ⟨i,abN.mpr hi,aaw.mpr ⟨j,aaj.mpr ⟨List.mem_range'.mpr ⟨j-(i+1),by omega,by omega⟩,UN c⟩,rfl⟩⟩
  rw[hq] at this
  cases this
theorem keep(I:Inv D){s:Str}{p:Pt}(hs:s∈D.stores)(fresh:p.nm∉D.names)(DG:p.ik.map (·.nm)=(List.range p.ik.length).map fun j=>(p.nm,j))
  (refs:∀l∈p.ik,∀m,l.up=some m∨l.lo=some m→m∈p.ik.map (·.nm)∨∃q∈D.ll s,q.file=p.file∧m∈q.ik.map (·.nm))
  (iV:∀m∈p.iV,∃q∈D.ll s,m∈q.ik.map (·.nm)) (other:∀o,p.other=some o→o∈D.held s)
  (rank:∃rk,(∀q∈D.made,Rk q.ik rk)∧Rk p.ik rk):Inv (D.keep s p):=by
 have qz:∀x∈D.names,x≠p.nm:=fun x hx e=>fresh (e▸hx)
 have JE:∀q∈D.made,q.nm∈D.names:=fun q hq=>T1 hq
 have IY:∀x,x≠p.nm→(D.keep s p).iY x=D.iY x:=fun x hx=>aai hx
 have QT:(D.keep s p).iY p.nm=pJ D.iY p:=aak rfl
 have Sm:∀x∈iu p,x∈D.held s:=fun x hx=>by
  unfold iu at hx
  rcases WL.mp hx with hx|hx
  ·obtain⟨m,hm,rfl⟩:=aaw.mp hx
   obtain⟨hm,hn⟩:=aaj.mp hm
   have hn:m.1≠p.nm:=aau hn
   have fin:(∃q∈D.ll s,m∈q.ik.map (·.nm))→m.1∈D.held s:=fun⟨q,hq,UL⟩=>by
    obtain⟨h1,h2⟩:=kP.mp hq
    rw[nj (I.DG q h1) UL];exact h2
   rcases WL.mp hm with hm|hm
   ·exact fin (iV m hm)
   ·obtain⟨l,hl,hm⟩:=aaZ.mp hm
    have N4:l.up=some m∨l.lo=some m:=by
     rcases WL.mp hm with hm|hm
     ·exact .inl (by simpa using hm)
     ·exact .inr (by simpa using hm)
    rcases refs l hl m N4 with z|⟨q,hq,_,z⟩
    ·exact absurd (nj DG z) hn
    ·exact fin ⟨q,hq,z⟩
  ·exact other x (by simpa using hx)
 have nh:∀x∈pJ D.iY p,x∈D.held s:=fun x hx=>by
  obtain⟨y,hy,hx⟩:=aaZ.mp hx
  rcases WK.mp hx with rfl|hx
  ·exact Sm _ hy
  ·exact(I.ni s hs y (Sm y hy)).2 x hx
 have nn:∀x∈pJ D.iY p,x∈D.names:=fun x hx=>(I.ni s hs x (nh x hx)).1
 have LV:∀x∈D.names,∀y∈D.iY x,y∈D.names:=fun x hx y hy=>by
  obtain⟨q,hq,rfl⟩:=aaw.mp hx
  obtain⟨i,hi⟩:=aaH.mp hq
  have:=I.before i q hi y hy
  exact(aca i D.made).map _ |>.subset this
 refine⟨?_,fun q hq=>?_,fun q hq l hl m hm=>?_,?_,fun i q hq x hx=>?_,fun x hx y hy z hz=>?_,I.stN,fun t ht x hx=>?_,fun t ht=>?_,fun q hq n hn=>?_,fun q hq y=>?_⟩
 ·show((D.made++[p]).map (·.nm)).Nodup
  rw[aam,aa1]
  exact⟨I.nd,by simp,fun a ha b hb e=>fresh (by simp at hb;rw[←hb,←e];exact ha)⟩
 ·rcases WL.mp hq with hq|hq
  ·exact I.DG q hq
  ·rw[TN.mp hq];exact DG
 ·rcases WL.mp hq with hq|hq
  ·obtain⟨q',h1,h2,h3,h4⟩:=I.refs q hq l hl m hm
   refine⟨q',aaf _ h1,h2,h3,h4.imp id fun z=>?_⟩
   rw[IY _ (qz _ (JE q hq))];exact z
  ·rw[TN.mp hq] at hl ⊢
   rcases refs l hl m hm with z|⟨q',h1,h2,h3⟩
   ·exact⟨p,by show p∈D.made++[p];simp,rfl,z,.inl rfl⟩
   ·obtain⟨h4,h5⟩:=kP.mp h1
    refine⟨q',aaf _ h4,h2,h3,.inr ?_⟩
    rw[QT]
    have e:=nj (I.DG q' h4) h3
    refine aaZ.mpr ⟨q'.nm,?_,aal⟩
    unfold iu
    refine aaf _ (aaw.mpr ⟨m,aaj.mpr ⟨?_,UN ?_⟩,e⟩)
    ·unfold named
     refine aay _ (aaZ.mpr ⟨l,hl,?_⟩)
     rcases hm with hm|hm
     ·exact aaf _ (by rw[hm];simp)
     ·exact aay _ (by rw[hm];simp)
    ·rw[e];exact qz _ (JE q' h4)
 ·obtain⟨rk,h1,h2⟩:=rank
  refine⟨rk,fun q hq=>?_⟩
  rcases WL.mp hq with hq|hq
  ·exact h1 q hq
  ·rw[TN.mp hq];exact h2
 ·show x∈((D.made++[p]).take i).map (·.nm)
  have hq:(D.made++[p])[i]?=some q:=hq
  by_cases hi:i<D.made.length
  ·rw[abv hi] at hq
   rw[List.take_append_of_le_length (by omega)]
   rw[IY _ (qz _ (JE q (UK hq)))] at hx
   exact I.before i q hq x hx
  ·have hl:=(List.getElem?_eq_some_iff.mp hq).1
   rw[TZ] at hl
   have hi:i=D.made.length:=by have:[p].length=1:=rfl;omega
   subst hi
   rw[aa0 (TU _),Nat.sub_self] at hq
   cases hq
   rw[List.take_append_of_le_length (TU _),aan]
   rw[QT] at hx
   exact nn x hx
 ·have hx:x∈(D.made++[p]).map (·.nm):=hx
  rw[aam] at hx
  rcases WL.mp hx with hx|hx
  ·rw[IY _ (qz x hx)] at hy ⊢
   rw[IY _ (qz y (LV x hx y hy))] at hz
   exact I.trans x hx y hy z hz
  ·have hx:x=p.nm:=by simpa using hx
   rw[hx,QT] at hy ⊢
   rw[IY _ (qz y (nn y hy))] at hz
   obtain⟨w,hw,hy⟩:=aaZ.mp hy
   refine aaZ.mpr ⟨w,hw,Z4 _ ?_⟩
   rcases WK.mp hy with rfl|hy
   ·exact hz
   ·exact I.trans w (I.ni s hs w (Sm w hw)).1 y hy z hz
 ·have old:∀u∈D.stores,∀x∈D.held u,x∈(D.keep s p).names∧∀y∈(D.keep s p).iY x,y∈D.held u:=fun u hu x hx=>by
   obtain⟨h1,h2⟩:=I.ni u hu x hx
   refine⟨?_,fun y hy=>?_⟩
   ·show x∈(D.made++[p]).map (·.nm)
    rw[aam];exact aaf _ h1
   ·rw[IY _ (qz x h1)] at hy
    exact h2 y hy
  have hx:x∈(if t=s then D.held s++[p.nm] else D.held t):=hx
  show x∈(D.keep s p).names∧∀y∈(D.keep s p).iY x,y∈(if t=s then D.held s++[p.nm] else D.held t)
  by_cases e:t=s
  ·rw[aak e] at hx ⊢
   rcases WL.mp hx with hx|hx
   ·obtain⟨h1,h2⟩:=old s hs x hx
    exact⟨h1,fun y hy=>aaf _ (h2 y hy)⟩
   ·have hx:x=p.nm:=by simpa using hx
    rw[hx]
    refine⟨?_,fun y hy=>?_⟩
    ·show p.nm∈(D.made++[p]).map (·.nm)
     simp
    ·rw[QT] at hy
     exact aaf _ (nh y hy)
  ·rw[aai e] at hx ⊢
   exact old t ht x hx
 ·show(if t=s then D.held s++[p.nm] else D.held t).Nodup
  by_cases e:t=s
  ·rw[aak e,aa1]
   exact⟨I.vR s hs,by simp,fun a ha b hb z=>fresh (by simp at hb;rw[←hb,←z];exact(I.ni s hs a ha).1)⟩
  ·rw[aai e];exact I.vR t ht
 ·rcases WL.mp hq with hq|hq
  ·exact I.HU q hq n hn
  ·rw[TN.mp hq] at hn ⊢
   obtain⟨q',h1,h2⟩:=iV n hn
   rw[nj (I.DG q' (kP.mp h1).1) h2]
   exact qz _ (JE q' (kP.mp h1).1)
 ·rcases WL.mp hq with hq|hq
  ·rw[IY _ (qz _ (JE q hq)),I.need q hq y]
   have e:∀z∈iu q,(D.keep s p).iY z=D.iY z:=fun z hz=>IY z (qz z (LV q.nm (JE q hq) z ((I.need q hq z).mpr ⟨z,hz,.inl rfl⟩)))
   exact⟨fun⟨z,h1,h2⟩=>⟨z,h1,by rw[e z h1];exact h2⟩,fun⟨z,h1,h2⟩=>⟨z,h1,by rw[e z h1] at h2;exact h2⟩⟩
  ·rw[TN.mp hq,QT]
   have e:∀z∈iu p,(D.keep s p).iY z=D.iY z:=fun z hz=>IY z (qz z (I.ni s hs z (Sm z hz)).1)
   unfold pJ
   rw[aaZ]
   exact⟨fun⟨z,h1,h2⟩=>⟨z,h1,by rw[e z h1];exact WK.mp h2⟩,fun⟨z,h1,h2⟩=>⟨z,h1,by rw[e z h1] at h2;exact WK.mpr h2⟩⟩
theorem record(I:Inv D){s f x:Str}(hs:s∈D.stores)(fresh:x∉D.names)(hq:D.zb s f=[])(texts:List Str):Inv (D.keep s (iG x f (D.row s f) texts)):=by
 obtain⟨rk,IX⟩:=I.rank
 have rise:=oP ((D.row s f).map (·.tx)) texts
 rw[QR] at rise
 have QU:∀t m,lH (D.row s f) (K01.kept ((D.row s f).map (·.tx)) texts) t=some m→∃q∈D.ll s,q.file=some f∧m∈q.ik.map (·.nm):=fun t m h=>by
  obtain⟨q,_,_,l,hl,rfl⟩:=AS h
  obtain⟨p,h1,h2,h3⟩:=I.rM (UK hl)
  exact⟨p,h1,h2,T1 h3⟩
 have own:∀q∈D.made,∀m∈q.ik.map (·.nm),m.1≠x:=fun q hq m hm e=>fresh (by rw[←e,nj (I.DG q hq) hm];exact T1 hq)
 have ch:(D.row s f).Pairwise fun a b=>rk a.nm<rk b.nm:=by
  have tr:Rk (g9 (D.ll s) f) rk:=fun l hl=>by
   obtain⟨p,hp,_,hl⟩:=lq.mp hl
   exact IX p (kP.mp hp).1 l hl
  exact(chain hq).imp fun z=>tr.ah z
 refine I.keep hs fresh ?_ (fun l hl m hm=>?_) (fun m hm=>?_) (fun o ho=>by cases ho) ⟨Eb rk (lH (D.row s f) (K01.kept ((D.row s f).map (·.tx)) texts)) x texts.length,fun q hq=>?_,?_⟩
 ·show(j1 x texts _).map (·.nm)=(List.range (j1 x texts _).length).map fun j=>(x,j)
  unfold j1
  rw[tW,←abP]
 ·rcases xm texts 0 0 none l hl m hm with(z|⟨t,z⟩)|z
  ·cases z
  ·exact .inr (QU t m z)
  ·exact .inl z
 ·obtain⟨l,hl,rfl⟩:=aaw.mp hm
  obtain⟨p,h1,_,h3⟩:=I.rM (aaj.mp hl).1
  exact⟨p,h1,T1 h3⟩
 ·refine HS (IX q hq) fun l hl=>⟨own q hq _ (T1 hl),fun m hm=>?_⟩
  obtain⟨q',h1,_,h3,_⟩:=I.refs q hq l hl m hm
  exact own q' h1 m h3
 ·refine HR (fun a b c d h1 h2 h3=>Kv rise ch h1 h2 h3) (fun t m h=>?_) texts
  obtain⟨q,h1,_,h3⟩:=QU t m h
  exact own q (kP.mp h1).1 m h3
theorem cut(I:Inv D){s f x:Str}(hs:s∈D.stores)(fresh:x∉D.names){ms:List Nm}(hm:∀m∈ms,m∈(D.row s f).map (·.nm)):Inv (D.keep s ⟨x,some f,[],ms,none⟩):=by
 refine I.keep hs fresh rfl (fun l hl=>by cases hl) (fun m h=>?_) (fun o ho=>by cases ho) ?_
 ·obtain⟨l,hl,rfl⟩:=aaw.mp (hm m h)
  obtain⟨p,h1,_,h3⟩:=I.rM hl
  exact⟨p,h1,T1 h3⟩
 ·obtain⟨rk,h⟩:=I.rank
  exact⟨rk,h,fun l hl=>by cases hl⟩
theorem back(I:Inv D){s x o:Str}(hs:s∈D.stores)(fresh:x∉D.names)(ho:o∈D.held s):Inv (D.keep s ⟨x,none,[],[],some o⟩):=by
 refine I.keep hs fresh rfl (fun l hl=>by cases hl) (fun m h=>by cases h) (fun o' h=>by cases h;exact ho) ?_
 obtain⟨rk,h⟩:=I.rank
 exact⟨rk,h,fun l hl=>by cases hl⟩
theorem FZ(I:Inv D){x:Str}(hx:x∈D.names):x∉D.iY x:=fun h=>by
 obtain⟨q,hq,rfl⟩:=aaw.mp hx
 obtain⟨i,hi⟩:=aaH.mp hq
 have h1:=I.before i q hi _ h
 rw[List.map_take] at h1
 obtain⟨j,hj⟩:=aaH.mp h1
 have Li:j<i:=by have:=(List.getElem?_eq_some_iff.mp hj).1;rw[aaG] at this;omega
 rw[List.getElem?_take,aak Li] at hj
 have e3:(D.made.map (·.nm))[i]?=some q.nm:=by rw[ZZ,hi];rfl
 have:=(List.getElem?_inj (List.getElem?_eq_some_iff.mp hj).1 I.nd).mp (hj.trans e3.symm)
 omega
theorem xp(I:Inv D){x y:Str}(hx:x∈D.names)(hy:y∈D.iY x):y∈D.names:=by
 obtain⟨q,hq,rfl⟩:=aaw.mp hx
 obtain⟨i,hi⟩:=aaH.mp hq
 exact(aca i D.made).map _ |>.subset (I.before i q hi y hy)
theorem take(I:Inv D){s x:Str}(hs:s∈D.stores)(hx:x∈D.names):Inv (D.take s x):=by
 have cm:∀y∈D.FY s x,(y=x∨y∈D.iY x)∧y∉D.held s:=fun y hy=>by
  obtain⟨h1,h2⟩:=aaj.mp hy
  refine⟨?_,aau h2⟩
  rcases WL.mp h1 with h|h
  ·exact .inr (aau (aaj.mp h).2)
  ·exact .inl (by simpa using h)
 have Xm:∀y,y=x∨y∈D.iY x→y∈D.held s++D.FY s x:=fun y hy=>by
  by_cases h:y∈D.held s
  ·exact aaf _ h
  ·refine aay _ (aaj.mpr ⟨?_,UN h⟩)
   rcases hy with rfl|hy
   ·simp
   ·exact aaf _ (aaj.mpr ⟨I.xp hx hy,UN hy⟩)
 refine⟨I.nd,I.DG,I.refs,I.rank,I.before,I.trans,I.stN,fun t ht z hz=>?_,fun t ht=>?_,I.HU,I.need⟩
 ·have hz:z∈(if t=s then D.held s++D.FY s x else D.held t):=hz
  show z∈D.names∧∀y∈D.iY z,y∈(if t=s then D.held s++D.FY s x else D.held t)
  by_cases e:t=s
  ·rw[aak e] at hz ⊢
   rcases WL.mp hz with hz|hz
   ·obtain⟨h1,h2⟩:=I.ni s hs z hz
    exact⟨h1,fun y hy=>aaf _ (h2 y hy)⟩
   ·obtain⟨h1,_⟩:=cm z hz
    rcases h1 with rfl|h1
    ·exact⟨hx,fun y hy=>Xm y (.inr hy)⟩
    ·exact⟨I.xp hx h1,fun y hy=>Xm y (.inr (I.trans x hx z h1 y hy))⟩
  ·rw[aai e] at hz ⊢
   exact I.ni t ht z hz
 ·show(if t=s then D.held s++D.FY s x else D.held t).Nodup
  by_cases e:t=s
  ·rw[aak e,aa1]
   refine⟨I.vR s hs,?_,fun a ha b hb z=>(cm b hb).2 (z▸ha)⟩
   refine List.Nodup.sublist aaW ?_
   rw[aa1]
   refine⟨List.Nodup.sublist aaW I.nd,by simp,fun a ha b hb z=>?_⟩
   rw[TN.mp hb] at z
   subst z
   exact I.FZ hx (aau (aaj.mp ha).2)
  ·rw[aai e];exact I.vR t ht
theorem drop(I:Inv D){s x:Str}(hs:s∈D.stores)(hx:∀z∈D.held s,x∉D.iY z):Inv (D.drop s x):=by
 refine⟨I.nd,I.DG,I.refs,I.rank,I.before,I.trans,I.stN,fun t ht z hz=>?_,fun t ht=>?_,I.HU,I.need⟩
 ·have hz:z∈(if t=s then(D.held s).filter (fun y=>y≠x) else D.held t):=hz
  show z∈D.names∧∀y∈D.iY z,y∈(if t=s then(D.held s).filter (fun y=>y≠x) else D.held t)
  by_cases e:t=s
  ·rw[aak e] at hz ⊢
   have hz:=(aaj.mp hz).1
   obtain⟨h1,h2⟩:=I.ni s hs z hz
   exact⟨h1,fun y hy=>aaj.mpr ⟨h2 y hy,UN fun e=>hx z hz (e▸hy)⟩⟩
  ·rw[aai e] at hz ⊢
   exact I.ni t ht z hz
 ·show(if t=s then(D.held s).filter (fun y=>y≠x) else D.held t).Nodup
  by_cases e:t=s
  ·rw[aak e];exact List.Nodup.sublist aaW (I.vR s hs)
  ·rw[aai e];exact I.vR t ht
theorem begin(I:Inv D){s:Str}(hs:s∉D.stores):Inv (D.begin s):=by
 refine⟨I.nd,I.DG,I.refs,I.rank,I.before,I.trans,?_,fun t ht z hz=>?_,fun t ht=>?_,I.HU,I.need⟩
 ·show(D.stores++[s]).Nodup
  rw[aa1]
  exact⟨I.stN,by simp,fun a ha b hb e=>hs (by rw[←TN.mp hb,←e];exact ha)⟩
 ·have hz:z∈(if t=s then[] else D.held t):=hz
  show z∈D.names∧∀y∈D.iY z,y∈(if t=s then[] else D.held t)
  by_cases e:t=s
  ·rw[aak e] at hz;cases hz
  ·rw[aai e] at hz ⊢
   rcases WL.mp ht with ht|ht
   ·exact I.ni t ht z hz
   ·exact absurd (TN.mp ht) e
 ·show(if t=s then[] else D.held t).Nodup
  by_cases e:t=s
  ·rw[aak e];exact abi
  ·rw[aai e]
   rcases WL.mp ht with ht|ht
   ·exact I.vR t ht
   ·exact absurd (TN.mp ht) e
end Inv
end PM
namespace PK
open PySem L2
set_option genInjectivity false
set_option genSizeOf false
set_option genSizeOfSpec false
noncomputable def top(i:Nat):Stmt:=PySem.Challenge.pw_patchkin_k04_what_a_patch_does.main.body.getD i (.Pass ⟨0,0,0,0⟩)
noncomputable section
noncomputable abbrev nL(l:List Str):List Str:=l
abbrev oy:=top 2
abbrev pK:=top 3
abbrev pL:=top 4
abbrev Ee:=top 5
noncomputable abbrev ml:=inClass (top 16) 0
noncomputable abbrev lO:=inClass (top 17) 0
abbrev kC:=top 18
abbrev jL:=top 19
abbrev nq:=top 20
abbrev qL:=top 21
abbrev kD:=top 22
abbrev nr:=top 23
abbrev lP:=top 24
abbrev x4:=top 25
abbrev nY:=top 26
abbrev pM:=top 27
abbrev tY:=top 28
noncomputable abbrev lQ:=inClass (top 29) 0
noncomputable abbrev lR:=inClass (top 29) 1
noncomputable abbrev kG:=inClass (top 29) 2
abbrev pN:=top 33
abbrev nu:=top 34
abbrev oz:=top 35
abbrev qM:=top 36
abbrev jO:=top 37
noncomputable abbrev mq:=inClass (top 38) 0
noncomputable abbrev pO:=inClass (top 38) 1
noncomputable abbrev qN:=inClass (top 38) 3
noncomputable abbrev pP:=inClass (top 38) 4
noncomputable abbrev l7:=inClass (top 38) 5
noncomputable abbrev pQ:=inClass (top 38) 6
noncomputable abbrev qO:=inClass (top 38) 7
noncomputable abbrev nZ:=inClass (top 38) 11
noncomputable abbrev tZ:=inClass (top 38) 12
noncomputable abbrev pR:=inClass (top 38) 13
noncomputable abbrev j4:=inClass (top 38) 16
noncomputable abbrev mr:=inClass (top 38) 17
noncomputable abbrev kW:=inClass (top 38) 18
noncomputable abbrev lr:=inClass (top 38) 19
noncomputable abbrev lu:=inClass (top 38) 20
noncomputable abbrev lS:=inClass (top 38) 21
noncomputable abbrev qP:=inClass (top 38) 22
abbrev nv:=top 40
abbrev qQ:=top 41
abbrev n1:=top 42
abbrev qR:=top 43
abbrev pS:=top 44
abbrev mv:=top 45
abbrev nz:=top 46
abbrev nA:=top 47
abbrev pT:=top 48
abbrev n4:=top 49
abbrev vS:=top 50
abbrev wR:=nL ["self","name","text","upper_name","lower_name"]
theorem u5:g8 wR ["self","name","text","upper_name","lower_name"] (fW ml):=nK
abbrev u_:=nL ["self","name","file","puts","cuts","other"]
theorem t_:g8 u_ ["self","name","file","puts","cuts","other"] (fW lO):=nK
noncomputable abbrev oR:=nL ["patch","names","line","name"]
theorem j5:g8 oR ["patch"] (fW kC):=nK
abbrev mE:=nL ["patch","leant","name"]
theorem ki:g8 mE ["patch"] (fW jL):=nK
noncomputable abbrev x5:=nL ["patches","taken_back","live","patch"]
theorem kQ:g8 x5 ["patches"] (fW nq):=nK
abbrev CA:=nL ["patches","file","lines","patch"]
theorem pU:g8 CA ["patches","file"] (fW qL):=nK
noncomputable abbrev oS:=nL ["patches","file","live","gone","patch","name","line"]
theorem jd:g8 oS ["patches","file"] (fW kD):=nK
abbrev va:=nL ["lines","straight","line"]
theorem j6:g8 va ["lines"] (fW lP):=nK
noncomputable abbrev HV:=nL ["names","ahead","found","name"]
theorem vb:g8 HV ["names","ahead"] (fW x4):=nK
abbrev vT:=nL ["lines","straight","ahead","line","climb","name","missing","other"]
theorem jD:g8 vT ["lines"] (fW nY):=nK
abbrev AX:=nL ["waiting","name"]
theorem se:g8 AX ["waiting"] (fW pM):=nK
abbrev CB:=nL ["lines","ahead","by_name","waiting","line","row","name","other"]
theorem kY:g8 CB ["lines","ahead"] (fW tY):=nK
abbrev vc:=nL ["self","patches","file"]
theorem ua:g8 vc ["self","patches","file"] (fW lQ):=nK
abbrev vd:=nL ["self","first","second"]
theorem ub:g8 vd ["self","first","second"] (fW lR):=nK
abbrev rW:=nL ["self","pairs","first","second"]
theorem jE:g8 rW ["self"] (fW kG):=nK
abbrev AY:=nL ["name","sign"]
theorem si:g8 AY ["name"] (fW pN):=nK
abbrev x6:=nL ["places","size","least","place"]
theorem kR:g8 x6 ["places","size"] (fW nu):=nK
abbrev zc:=nL ["kept_names","size","behind","place"]
theorem nB:g8 zc ["kept_names","size"] (fW oz):=nK
abbrev CC:=nL ["patch","texts","kept_names","behind","lines","upper_name","place","text"]
theorem jF:g8 CC ["patch","texts","kept_names"] (fW qM):=nK
abbrev lT:=nL ["patch","file","row","texts","kept_names","left","first","second","cuts","line"]
theorem iL:g8 lT ["patch","file","row","texts"] (fW jO):=nK
abbrev wU:=nL ["self"]
theorem ve:g8 wU ["self"] (fW mq):=nK
abbrev AZ:=nL ["self","store"]
theorem zd:g8 AZ ["self","store"] (fW pO):=nK
abbrev x8:=nL ["self","store","name"]
theorem vU:g8 x8 ["self","store"] (fW pP):=nK
abbrev sj:=nL ["self","store","patch","file","texts","sight","line"]
theorem nE:g8 sj ["self","store","patch","file","texts"] (fW l7):=nK
abbrev x9:=nL ["self","store","patch","file","places","row","place"]
theorem qS:g8 x9 ["self","store","patch","file","places"] (fW pQ):=nK
abbrev CD:=nL ["self","store","patch","other"]
theorem A1:g8 CD ["self","store","patch","other"] (fW qO):=nK
abbrev vV:=nL ["self","patch","made","puts","line"]
theorem mK:g8 vV ["self","patch"] (fW nZ):=nK
abbrev x_:=nL ["self","store","file","line"]
theorem vW:g8 x_ ["self","store","file"] (fW pR):=nK
abbrev n5:=nL ["self","store","name"]
theorem nF:g8 n5 ["self","store"] (fW j4):=nK
abbrev wV:=nL ["self","store","file"]
theorem vg:g8 wV ["self","store","file"] (fW mr):=nK
abbrev sO:=nL ["self","store"]
theorem rX:g8 sO ["self","store"] (fW kW):=nK
abbrev uc:=nL ["self","patch"]
theorem sP:g8 uc ["self","patch"] (fW lr):=nK
abbrev ud:=nL ["self","store","patch"]
theorem sQ:g8 ud ["self","store","patch"] (fW lu):=nK
abbrev vj:=nL ["self","patch","files","name"]
theorem n6:g8 vj ["self","patch","files"] (fW lS):=nK
abbrev CF:=nL ["self","store","patch","needs","name"]
theorem pV:g8 CF ["self","store","patch"] (fW qP):=nK
abbrev ya:=nL ["script","k"]
theorem wW:g8 ya ["script","k"] (fW nv):=nK
abbrev CG:=nL ["cell","k","signs","size","base","far","found","j"]
theorem jh:g8 CG ["cell","k"] (fW qQ):=nK
abbrev vX:=nL ["cell","signs","size","j"]
theorem lx:g8 vX ["cell"] (fW n1):=nK
abbrev CH:=nL ["texts","cell","at","line","more","way","out","turned"]
theorem jW:g8 CH ["texts","cell"] (fW qR):=nK
abbrev A2:=nL ["found"]
theorem ze:g8 A2 ["found"] (fW pS):=nK
abbrev wX:=nL ["row","line"]
theorem oT:g8 wX ["row"] (fW mv):=nK
abbrev yb:=nL ["found","due"]
theorem wY:g8 yb ["found","due"] (fW nz):=nK
abbrev yc:=nL ["found","file","puts","cuts","other","k","one"]
theorem kS:g8 yc ["found","file","puts","cuts","other"] (fW nA):=nK
abbrev A3:=nL ["desk","name","file","puts","cuts","other","found"]
theorem so:g8 A3 ["desk","name","file","puts","cuts","other"] (fW pT):=nK
abbrev vY:=nL ["before","behind","puts","k","upper","lower","line"]
theorem jX:g8 vY ["before","behind"] (fW n4):=nK
noncomputable abbrev zY:=nL ["script","desk","store","file","names","row","many","k","behind","cuts","first","places","other","line"]
theorem jY:g8 zY ["script"] (fW vS):=nK
structure Txt(mg:Qqx):Prop where
 jG:mg "len"=none
 kT:mg "range"=none
 PX:mg "max"=none
 iO:mg "isinstance"=none
 PY:mg "int"=none
 M4:mg "bool"=none
 sR:mg "list"=none
 xq:mg "tuple"=none
 HW:mg "str"=none
 yd:mg "reversed"=none
 PZ:mg "sorted"=none
 WO:mg "set"=none
 CI:mg "enumerate"=none
 Kx:mg "ValueError"=none
structure Ad where
 zf:Addr
 zg:FuncData
 A4:Addr
 A5:FuncData
 A6:Addr
 A7:FuncData
 HX:Addr
 HY:FuncData
 mw:Addr
 qm:FuncData
 lU:Addr
 oU:FuncData
 oW:Addr
 oX:FuncData
 mF:Addr
 mG:FuncData
 qT:Addr
 qU:FuncData
 vZ:Addr
 v_:FuncData
 oY:Addr
 oZ:FuncData
 sS:Addr
 sT:FuncData
 o3:Addr
 o4:FuncData
 CJ:Addr
 CK:FuncData
 wa:Addr
 wb:FuncData
 ue:Addr
 uf:FuncData
 CL:Addr
 CM:FuncData
 lV:Addr
 o5:FuncData
 o6:Addr
 o7:FuncData
 mH:Addr
 mI:FuncData
 ug:Addr
 uh:FuncData
 qV:Addr
 qW:FuncData
 sr:Addr
 su:FuncData
 wc:Addr
 wd:FuncData
 o8:Addr
 o9:FuncData
 mx:Addr
 qo:FuncData
 ui:Addr
 uj:FuncData
 ye:Addr
 yf:FuncData
 yg:Addr
 yh:FuncData
 sv:Addr
 sx:FuncData
 yi:Addr
 yj:FuncData
 we:Addr
 wg:FuncData
 wj:Addr
 wk:FuncData
 A8:Addr
 A9:FuncData
 yk:Addr
 yl:FuncData
 n9:Addr
 n_:FuncData
 qp:Addr
 qr:FuncData
 nG:Addr
 nH:FuncData
 oa:Addr
 oe:FuncData
 og:Addr
 oh:FuncData
 o_:Addr
 pb:FuncData
 wo:Addr
 wq:FuncData
 qX:Addr
 qY:FuncData
 wu:Addr
 wx:FuncData
 wy:Addr
 wz:FuncData
 wA:Addr
 wB:FuncData
 uk:Addr
 um:FuncData
 qt:Addr
 qv:FuncData
 qZ:Addr
 q8:FuncData
 q9:Addr
 q_:FuncData
 uo:Addr
 uq:FuncData
 wC:Addr
 wD:FuncData
 hU:Addr
 hG:Addr
 ig:Addr
 gp:Addr
 ly:Addr
 jy:Addr
 jl:Addr
 jo:Addr
 kE:Addr
 nI:Addr
 kZ:Addr
 sU:Addr
 mL:Tok
 lA:Tok
 z:Unit
structure Ok(K:Qqy)(mg:Qqx)(A:Ad):Prop where
 ra:DF K mg "counts_with" oy A.zf A.zg ["text","new","below"]
 sV:DF K mg "most_pairs" pK A.A4 A.A5 ["old","new"]
 sW:DF K mg "place_from" pL A.A6 A.A7 ["texts","text","start"]
 kept:DF K mg "kept" Ee A.HX A.HY ["old","new"]
 sy:DM K A.hU "__init__" "Line.__init__" ml A.mw A.qm ["self","name","text","upper_name","lower_name"]
 lB:DM K A.hG "__init__" "Patch.__init__" lO A.lU A.oU ["self","name","file","puts","cuts","other"]
 rb:DF K mg "lines_named_by" kC A.oW A.oX ["patch"]
 oj:DF K mg "leans_straight_on" jL A.mF A.mG ["patch"]
 ur:DF K mg "live_patches" nq A.qT A.qU ["patches"]
 vk:DF K mg "lines_put" qL A.vZ A.v_ ["patches","file"]
 rf:DF K mg "standing_lines" kD A.oY A.oZ ["patches","file"]
 F_:DF K mg "files_with_lines" nr A.sS A.sT ["patches"]
 rg:DF K mg "straight_ahead" lP A.o3 A.o4 ["lines"]
 joined:DF K mg "joined" x4 A.CJ A.CK ["names","ahead"]
 zZ:DF K mg "all_ahead" nY A.wa A.wb ["lines"]
 ym:DF K mg "first_free" pM A.ue A.uf ["waiting"]
 HZ:DF K mg "row_of" tY A.CL A.CM ["lines","ahead"]
 rh:DM K A.ig "__init__" "Sight.__init__" lQ A.lV A.o5 ["self","patches","file"]
 rj:DM K A.ig "is_ahead" "Sight.is_ahead" lR A.o6 A.o7 ["self","first","second"]
 lC:DM K A.ig "quarrelling" "Sight.quarrelling" kG A.mH A.mI ["self"]
 sX:DF K mg "check_name" pN A.ug A.uh ["name"]
 uu:DF K mg "check_places" nu A.qV A.qW ["places","size"]
 wF:DF K mg "kept_behind" oz A.sr A.su ["kept_names","size"]
 z7:DF K mg "new_lines" qM A.wc A.wd ["patch","texts","kept_names"]
 rl:DF K mg "changing_patch" jO A.o8 A.o9 ["patch","file","row","texts"]
 sA:DM K A.gp "__init__" "Desk.__init__" mq A.mx A.qo ["self"]
 yn:DM K A.gp "begin" "Desk.begin" pO A.ui A.uj ["self","store"]
 Ky:DM K A.gp "patches" "Desk.patches" qN A.ye A.yf ["self"]
 CN:DM K A.gp "has" "Desk.has" pP A.yg A.yh ["self","store"]
 wG:DM K A.gp "record" "Desk.record" l7 A.sv A.sx ["self","store","patch","file","texts"]
 CO:DM K A.gp "cut" "Desk.cut" pQ A.yi A.yj ["self","store","patch","file","places"]
 z8:DM K A.gp "back" "Desk.back" qO A.we A.wg ["self","store","patch","other"]
 vp:DM K A.gp "told" "Desk.told" nZ A.wj A.wk ["self","patch"]
 M5:DM K A.gp "files" "Desk.files" tZ A.A8 A.A9 ["self","store"]
 CP:DM K A.gp "row" "Desk.row" pR A.yk A.yl ["self","store","file"]
 qw:DM K A.gp "patches_of" "Desk.patches_of" j4 A.n9 A.n_ ["self","store"]
 l8:DM K A.gp "sight_of" "Desk.sight_of" mr A.qp A.qr ["self","store","file"]
 jP:DM K A.gp "check_store" "Desk.check_store" kW A.nG A.nH ["self","store"]
 qx:DM K A.gp "check_made" "Desk.check_made" lr A.oa A.oe ["self","patch"]
 qy:DM K A.gp "check_held" "Desk.check_held" lu A.og A.oh ["self","store","patch"]
 lD:DM K A.gp "check_new" "Desk.check_new" lS A.o_ A.pb ["self","patch","files"]
 rN:DM K A.gp "keep" "Desk.keep" qP A.wo A.wq ["self","store","patch"]
 jH:DF K mg "_law_cell_at" nv A.qX A.qY ["script","k"]
 rO:DF K mg "_law_name" qQ A.wu A.wx ["cell","k"]
 vq:DF K mg "_law_text" n1 A.wy A.wz ["cell"]
 z9:DF K mg "_law_edit" qR A.wA A.wB ["texts","cell"]
 sY:DF K mg "_law_whole" pS A.uk A.um ["found"]
 sC:DF K mg "_law_row_form" mv A.qt A.qv ["row"]
 mO:DF K mg "_law_line_is" nz A.qZ A.q8 ["found","due"]
 pW:DF K mg "_law_told_is" nA A.q9 A.q_ ["found","file","puts","cuts","other"]
 pX:DF K mg "_law_twice" pT A.uo A.uq ["desk","name","file","puts","cuts","other"]
 z_:DF K mg "_law_puts" n4 A.wC A.wD ["before","behind"]
 iH:DC K A.hU
 M6:Mk K A.hU A.mw
 M7:mg "Line"=some (.ref A.hU)
 hZ:jN K A.hU "name"
 ji:jN K A.hU "text"
 iA:jN K A.hU "upper_name"
 iB:jN K A.hU "lower_name"
 iZ:DC K A.hG
 A_:Mk K A.hG A.lU
 Ba:mg "Patch"=some (.ref A.hG)
 iW:jN K A.hG "name"
 jI:jN K A.hG "file"
 jm:jN K A.hG "puts"
 jn:jN K A.hG "cuts"
 iN:jN K A.hG "other"
 j7:DC K A.ig
 Kz:Mk K A.ig A.lV
 KA:mg "Sight"=some (.ref A.ig)
 ju:jN K A.ig "ahead"
 iw:jN K A.ig "lines"
 ix:DC K A.gp
 M8:Mk K A.gp A.mx
 M9:mg "Desk"=some (.ref A.gp)
 i0:jN K A.gp "made"
 jJ:jN K A.gp "needs"
 i3:jN K A.gp "held"
 KC:Exc K mg "PatchError" A.ly
 Aa:Exc K mg "BadName" A.jy
 wH:Exc K mg "NameTaken" A.jl
 Ga:Exc K mg "NoStore" A.jo
 Ab:Exc K mg "NoPatch" A.kE
 H_:Exc K mg "NoLine" A.nI
 CQ:Exc K mg "Unsettled" A.kZ
 Ia:Exc K mg "Same" A.sU
 Bb:mg "NAME_SIGNS"=some (.str (Str.ofString "abcdefghijklmnopqrstuvwxyz0123456789") A.mL)
 rm:mg "LONGEST_NAME"=some (.int 12 A.lA)
 z:True
end
open PySem L2 PM
noncomputable def nk(n:Nm):List Key:=[Sum.inr n.1,Sum.inl (n.2:Int)]
theorem oA{a b:Nm}(h:nk a=nk b):a=b:=by
 unfold nk at h
 injection h with h1 h2
 injection h2 with h2 _
 exact Prod.ext (aci h1) (by have:=Sum.inl.inj h2;omega)
noncomputable abbrev nT(n:Nm):HO:=.tup ((nk n).map kV)
def j8(H:Hp)(v:V)(n:Nm):Prop:=∃t,v=.ref t∧H t=some (nT n)
def CS(H:Hp)(v:V):Option Nm→Prop
 | none=>v=.iP
 | some n=>j8 H v n
def OI(v:V):Option Str→Prop
 | none=>v=.iP
 | some x=>v=.str x
noncomputable def KD(a b c d:V):List (Str×V):=[("name",a),("text",b),("upper_name",c),("lower_name",d)]
theorem i4{a b c d:V}:(KD a b c d).lookup ("name":Str)=some a:=by kernel_rfl
theorem uv{a b c d:V}:(KD a b c d).lookup ("text":Str)=some b:=by kernel_rfl
theorem Bc{a b c d:V}:(KD a b c d).lookup ("upper_name":Str)=some c:=by kernel_rfl
theorem Be{a b c d:V}:(KD a b c d).lookup ("lower_name":Str)=some d:=by kernel_rfl
noncomputable def KG(a b c d e:V):List (Str×V):=[("name",a),("file",b),("puts",c),("cuts",d),("other",e)]
theorem rn{a b c d e:V}:(KG a b c d e).lookup ("name":Str)=some a:=by kernel_rfl
theorem CT{a b c d e:V}:(KG a b c d e).lookup ("file":Str)=some b:=by kernel_rfl
theorem yo{a b c d e:V}:(KG a b c d e).lookup ("puts":Str)=some c:=by kernel_rfl
theorem yp{a b c d e:V}:(KG a b c d e).lookup ("cuts":Str)=some d:=by kernel_rfl
theorem pd{a b c d e:V}:(KG a b c d e).lookup ("other":Str)=some e:=by kernel_rfl
def my(A:Ad)(H:Hp)(a:Addr)(l:Ln):Prop:=∃dx vn vu vl,H a=some (.ins A.hU dx (KD vn (.str l.tx) vu vl))∧j8 H vn l.nm∧CS H vu l.up∧CS H vl l.lo
def pY(A:Ad)(H:Hp)(a:Addr)(ls:List Ln):Prop:=∃as:List Addr,H a=some (.lst (as.map V.ref))∧Paired (my A H) as ls
def yq(H:Hp)(a:Addr)(ns:List Nm):Prop:=∃vs,H a=some (.lst vs)∧Paired (j8 H) vs ns
def nN(A:Ad)(H:Hp)(a:Addr)(p:Pt):Prop:=∃dx vf pu cu vo,H a=some (.ins A.hG dx (KG (.str p.nm) vf (.ref pu) (.ref cu) vo))∧OI vf p.file∧pY A H pu p.ik∧yq H cu p.iV∧OI vo p.other
def wZ(A:Ad)(H:Hp)(a:Addr)(ps:List Pt):Prop:=∃as:List Addr,H a=some (.lst (as.map V.ref))∧Paired (nN A H) as ps
section
variable{A:Ad}{H H':Hp}{a:Addr}
theorem j8.same{v:V}{n:Nm}(x:j8 H v n)(s:gc H H'):j8 H' v n:=by obtain⟨t,e,h⟩:=x;exact⟨t,e,s _ _ h⟩
theorem CS.same{v:V}{o:Option Nm}(x:CS H v o)(s:gc H H'):CS H' v o:=by
 cases o with
 | none=>exact x
 | some n=>exact j8.same x s
theorem my.same{l:Ln}(x:my A H a l)(s:gc H H'):my A H' a l:=by
 obtain⟨dx,vn,vu,vl,h,h1,h2,h3⟩:=x
 exact⟨dx,vn,vu,vl,s _ _ h,h1.same s,h2.same s,h3.same s⟩
theorem pY.same{ls:List Ln}(x:pY A H a ls)(s:gc H H'):pY A H' a ls:=by
 obtain⟨as,h,p⟩:=x
 exact⟨as,s _ _ h,Paired.jK p fun _ _ z=>z.same s⟩
theorem yq.same{ns:List Nm}(x:yq H a ns)(s:gc H H'):yq H' a ns:=by
 obtain⟨vs,h,p⟩:=x
 exact⟨vs,s _ _ h,Paired.jK p fun _ _ z=>z.same s⟩
theorem nN.same{p:Pt}(x:nN A H a p)(s:gc H H'):nN A H' a p:=by
 obtain⟨dx,vf,pu,cu,vo,h,h1,h2,h3,h4⟩:=x
 exact⟨dx,vf,pu,cu,vo,s _ _ h,h1,h2.same s,h3.same s,h4⟩
theorem wZ.same{ps:List Pt}(x:wZ A H a ps)(s:gc H H'):wZ A H' a ps:=by
 obtain⟨as,h,p⟩:=x
 exact⟨as,s _ _ h,Paired.jK p fun _ _ z=>z.same s⟩
end
theorem ie{α β:Type}{F:α→β→Prop}{xs:List α}{ys:List β}(p:Paired F xs ys):∀{i:Nat} {x:α},xs[i]?=some x→∃y,ys[i]?=some y∧F x y:=by
 induction p with
 | nil=>intro i x h;simp at h
 | cons f t ih=>
  intro i x h
  cases i with
  | zero=>simp at h;subst h;exact⟨_,rfl,f⟩
  | succ i=>simpa using ih (by simpa using h)
theorem kj{α β:Type}{F:α→β→Prop}{xs:List α}{ys:List β}(p:Paired F xs ys):∀{i:Nat} {y:β},ys[i]?=some y→∃x,xs[i]?=some x∧F x y:=by
 induction p with
 | nil=>intro i x h;simp at h
 | cons f t ih=>
  intro i x h
  cases i with
  | zero=>simp at h;subst h;exact⟨_,rfl,f⟩
  | succ i=>simpa using ih (by simpa using h)
theorem sZ{α β:Type}{F:α→β→Prop}{xs zs:List α}{ys ws:List β}(p:Paired F xs ys)(q:Paired F zs ws):Paired F (xs++zs) (ys++ws):=by
 induction p with
 | nil=>exact q
 | cons f t ih=>exact .cons f ih
theorem ij{α β:Type}{F:α→β→Prop}{xs:List α}{ys:List β}{x:α}{y:β}(p:Paired F xs ys)(h:F x y):Paired F (xs++[x]) (ys++[y]):=sZ p (.cons h .nil)
theorem yr{α β:Type}{F:α→β→Prop}{xs:List α}{ys:List β}(p:Paired F xs ys):Paired F xs.reverse ys.reverse:=by
 induction p with
 | nil=>exact .nil
 | cons f t ih=>rw[acb,acb];exact ij ih f
theorem jZ{as:List Addr}{i:Nat}{v:V}(h:(as.map V.ref)[i]?=some v):∃b,as[i]?=some b∧v=.ref b:=by
 rw[ZZ] at h
 obtain⟨b,e,rfl⟩:=Option.map_eq_some_iff.mp h
 exact⟨b,e,rfl⟩
theorem OI.eq{v:V}{o:Option Str}(h:OI v o)(f:Str):decide (v=.str f)=decide (o=some f):=by
 cases o with
 | none=>rw[show v=.iP from h,aab (fun z=>by cases z),aab (fun z=>by cases z)]
 | some x=>
  rw[show v=.str x from h]
  by_cases e:x=f
  ·subst e;rw[UN rfl,UN rfl]
  ·rw[aab (fun z=>e (V.str.inj z)),aab (fun z=>e (aao z))]
theorem M_{α:Type}{xs:List α}{x:α}{i:Nat}(h:xs.length≤i:=by assumption):(xs++[x]).length≤i+1:=by rw[TZ];exact acf h
def yt(n:Nat):Prop:=n≤4000
theorem yt.sz{n:Nat}(h:yt n):n≤sizeLine:=aac h (by decide)
section
variable{P:Program}{w:World}{K:Qqy}{mg:Qqx}{base:Heap}{A:Ad}
def Na(A:Ad):Sp:=fun vs H Q _=>∃(a:Addr)(ps:List Pt),vs=[.ref a]∧wZ A H a ps∧yt ps.length∧∀p H',gc H H'→H p=none→wZ A H' p (live ps)→Q (.ref p) H'
def Tb(kvs:List (Key×V))(t:List Str):Prop:=∀x,(iU kvs (Sum.inr x)).isSome=decide (x∈t)
theorem Tb.put{kvs:List (Key×V)}{t:List Str}(h:Tb kvs t)(y:Str)(v:V):Tb (putK kvs (Sum.inr y) v) (y::t):=fun x=>by
 rw[j0]
 by_cases e:x=y
 ·subst e;rw[aak rfl,UN aal];rfl
 ·rw[aai (fun z=>e (aci z)),h x]
  by_cases m:x∈t
  ·rw[UN m,UN (Z4 _ m)]
  ·rw[aab m,aab (fun z=>(WK.mp z).elim e m)]
theorem Ef(p:Pt)(r:List Pt)(t:List Str):mD (p::r) t=if p.nm∈t then mD r t else p::mD r (match p.other with|some o=>o::t|none=>t):=rfl
theorem w6(T:Txt mg)(O:Ok K mg A):iz P w K mg base mB 1 A.qT A.qU ["patches"] (Na A):=by
 refine O.ur.f.qJ kQ fun jw A0 outer s H vs Q E hr h=>?_
 obtain⟨a,ps,rfl,⟨as,ha,pa⟩,kq,q⟩:=h
 have hlen:=aad pa
 refine⟨_,(de (l6 1 kQ mZ)
   (de (l6 2 kQ (iX e_))
   (de (iQ aav rfl (Ki rfl T.yd (a_ (pv 0) e_)) (uN 3 kQ) (fV (iy (jq (lM (by exact ja hr) (g_ (pv 3) rfl) (pv 1))) (de (ip (mW aaB aaI aaJ jx (pv 2) (a_ (pv 3) e_)))
   (fV (iy (jq (nS (g_ (pv 3) rfl))) (fV (jB (by exact ja hr) (pv 1) (g_ (pv 3) rfl) jS rfl)) hV))) hV)))
   (fV (h_ (D6 rfl (by rfl) T.sR (by rfl) T.yd (a_ (pv 2) e_))))))),?_⟩
 refine MN ?_;intro _ _ _
 intro t ht
 have s1:gc H (upd H t (.dK [])):=(gc.refl H).new ht
 refine⟨L2.kq,fun l hl=>?_⟩
 have s2:gc H (upd (upd H t (.dK [])) l (.lst [])):=s1.new hl
 have GQ:t≠l:=fun z=>by rw[z] at hl;rw[b_] at hl;cases hl
 refine⟨_,rfl,a,_,rfl,ib.of (s2 a _ ha),Kj (K:=K) (a:=a) (xs:=as.map V.ref) (fun i σ H2=>∃(v:Option V)(kvs:List (Key×V))(tb:List Str)(ls:List Addr)(lp:List Pt),σ=[rr a,rr t,rr l,v]∧gc H H2∧H2 t=some (.dK kvs)∧Tb kvs tb∧kvs.length≤i∧H2 l=some (.lst (ls.map V.ref))∧ls.length≤i∧Paired (nN A H) ls lp∧lp++mD (ps.reverse.drop i) tb=mD ps.reverse [])
  ⟨none,[],[],[],[],rfl,s2,by rw[d_ GQ];exact b_,(fun x=>rfl),TU _,b_,TU _,.nil,rfl⟩ (by rintro _ _ _ _ ⟨_,_,_,_,_,_,s3,_⟩;exact ib.of (s3 a _ ha)) ?_ ?_⟩
 ·rintro i v σ H2 hx ⟨v0,kvs,tb,ls,lp,rfl,s3,h1,h2,h3,h4,h5,h6,h7⟩
  rw[←List.map_reverse] at hx
  obtain⟨b,hb,rfl⟩:=jZ hx
  obtain⟨p,hp,dx,vf,pu,cu,vo,g1,g2,g3,g4,g5⟩:=ie (yr pa) hb
  have hi:i<ps.reverse.length:=(List.getElem?_eq_some_iff.mp hp).1
  have zy:i<4000:=by rw[abf] at hi;exact aax hi kq
  have hd:ps.reverse.drop i=p::ps.reverse.drop (i+1):=by rw[aaS hi];congr 1;exact(List.getElem?_eq_some_iff.mp hp).2
  rw[hd] at h7
  refine⟨_,rfl,b,A.hG,dx,_,_,rfl,s3 _ _ g1,O.iZ,O.iW,rn,_,rfl,t,_,rfl,js.k (k:=Sum.inr p.nm) h1,_,rfl,?_⟩
  rw[h2 p.nm]
  rw[Ef] at h7
  by_cases hm:p.nm∈tb
  ·rw[aak hm] at h7
   rw[UN hm]
   exact jC ⟨_,kvs,tb,ls,lp,rfl,s3,h1,h2,by omega,h4,by omega,h6,h7⟩
  ·rw[aai hm] at h7
   rw[aab hm]
   refine nM ?_
   refine⟨_,rfl,.inl ⟨rfl,_,ib.of h4⟩,_,rfl,l,_,_,rfl,rfl,h4,by rw[QR];exact abl h5 (Nat.lt_trans zy (by decide)),?_⟩
   have UO:H l=none:=s1.free hl
   have s4:gc H (upd H2 l (.lst (ls.map V.ref++[V.ref b]))):=s3.upd UO
   have Lc:upd H2 l (.lst (ls.map V.ref++[V.ref b])) t=some (.dK kvs):=by rw[d_ GQ];exact h1
   have e4:upd H2 l (.lst (ls.map V.ref++[V.ref b])) l=some (.lst ((ls++[b]).map V.ref)):=by rw[b_,aam];rfl
   have pp:Paired (nN A H) (ls++[b]) (lp++[p]):=ij h6 ⟨dx,vf,pu,cu,vo,g1,g2,g3,g4,g5⟩
   have Xn:(ls++[b]).length≤i+1:=M_
   refine⟨_,rfl,b,A.hG,dx,_,_,rfl,s4 _ _ g1,O.iZ,O.iN,pd,_,rfl,?_⟩
   cases ho:p.other with
   | none=>
    rw[ho] at g5 h7
    rw[show vo=V.iP from g5]
    exact⟨_,kvs,tb,_,_,rfl,s4,Lc,h2,by omega,e4,Xn,pp,by rw[aaL];exact h7⟩
   | some x=>
    rw[ho] at g5 h7
    rw[show vo=V.str x from g5] at g1 ⊢
    refine⟨_,rfl,_,rfl,b,A.hG,dx,_,_,rfl,s4 _ _ g1,O.iZ,O.iN,pd,t,_,rfl,mY.k (k:=Sum.inr x) Lc (abl h3 (Nat.lt_trans zy (by decide))),?_⟩
    have Xo:=jk kvs (Sum.inr x:Key) (V.bl true)
    have htH:H t=none:=ht
    exact⟨_,_,x::tb,_,_,rfl,s4.upd htH,b_,h2.put x _,by omega,by rw[d_ GQ.symm];exact e4,Xn,pp,by rw[aaL];exact h7⟩
 ·rintro σ H2 ⟨v0,kvs,tb,ls,lp,rfl,s3,h1,h2,h3,h4,h5,h6,h7⟩
  rw[QR] at h3 h5 h7
  rw[hlen,←abf,acg] at h7
  have h7:lp=mD ps.reverse []:=by rw[show mD [] tb=[] from rfl,aaF] at h7;exact h7
  refine⟨_,rfl,l,_,rfl,ib.of h4,fun p hp=>?_⟩
  have s4:=s3.new (o:=.lst (ls.map V.ref).reverse) hp
  refine q p _ s4 (s3.free hp) ⟨ls.reverse,by rw[b_,List.map_reverse],?_⟩
  unfold live
  rw[←h7]
  exact Paired.jK (yr h6) fun _ _ z=>z.same s4
theorem rq{α β:Type}{f:α→List β}{ps qs:List α}(h:ps.Sublist qs):(ps.flatMap f).Sublist (qs.flatMap f):=by
 induction h with
 | slnil=>exact aaz _
 | cons x _ ih=>rw[aap];exact ih.trans (aaX _ _)
 | cons_cons x _ ih=>rw[aap,aap];exact(aaz _).append ih
structure Small(ps:List Pt):Prop where
 many:yt ps.length
 ik:yt (ps.flatMap (·.ik)).length
 iV:yt (ps.flatMap (·.iV)).length
theorem Small.sub{ps qs:List Pt}(h:ps.Sublist qs)(s:Small qs):Small ps:=⟨aac h.length_le s.many,aac (rq h).length_le s.ik,aac (rq h).length_le s.iV⟩
theorem pZ(ps:List Pt)(f:Str):(g9 ps f).length≤(ps.flatMap (·.ik)).length:=(rq aaW).length_le
theorem zh(ps:List Pt)(p:Pt)(f:Str):g9 (ps++[p]) f=g9 ps f++if p.file=some f then p.ik else[]:=by
 unfold g9
 rw[aaD,aaM]
 by_cases h:p.file=some f
 ·rw[aak h,Z8 (by simpa using h),aa6,aap,abc,aaF]
 ·rw[aai h,aae (by simpa using h),aa6,abc]
theorem take_snoc{α:Type}{xs:List α}{i:Nat}{x:α}(h:xs[i]?=some x):xs.take (i+1)=xs.take i++[x]:=by rw[List.take_add_one,h];rfl
def OJ(kvs:List (List Key×V))(ns:List Nm):Prop:=∀n,(iU kvs (nk n)).isSome=decide (n∈ns)
theorem OJ.put{kvs:List (List Key×V)}{ns:List Nm}(h:OJ kvs ns)(y:Nm)(v:V):OJ (putK kvs (nk y) v) (ns++[y]):=fun x=>by
 rw[j0]
 by_cases e:x=y
 ·subst e;rw[aak rfl,UN (by simp)];rfl
 ·rw[aai (fun z=>e (oA z)),h x]
  by_cases m:x∈ns
  ·rw[UN m,UN (aaf _ m)]
  ·rw[aab m,aab (fun z=>(WL.mp z).elim m fun z=>e (TN.mp z))]
def P0(A:Ad):Sp:=fun vs H Q _=>∃(a:Addr)(ps:List Pt)(f:Str),vs=[.ref a,.str f]∧wZ A H a ps∧Small ps∧∀p H',gc H H'→H p=none→pY A H' p (g9 ps f)→Q (.ref p) H'
theorem uw(T:Txt mg)(O:Ok K mg A):iz P w K mg base mB 1 A.vZ A.v_ ["patches","file"] (P0 A):=by
 refine O.vk.f.qJ pU fun jw A0 outer s H vs Q E hr h=>?_
 obtain⟨a,ps,f,rfl,⟨as,ha,pa⟩,sm,q⟩:=h
 have hlen:=aad pa
 refine⟨_,(de (l6 2 pU (iX e_))
   (de (iQ aav rfl (iD (pv 0)) (uN 3 pU) (fV (iy (iq qi (g_ (pv 3) rfl) (pv 1) (iS _)) (fV (ip (mW aaB PySem.F.slot_list_extend PySem.F.type_list_extend zI (pv 2) (a_ (g_ (pv 3) rfl) e_)))) hV)))
   (fV (h_ (pv 2))))),?_⟩
 refine DD ?_;intro _ _
 refine⟨L2.kq,fun l hl=>?_⟩
 have s1:gc H (upd H l (.lst [])):=(gc.refl H).new hl
 dsimp only [oJ];refine MP ?_;intro _
 let Jv:=fun(i:Nat) (σ:St) (H2:Hp)=>∃(v:Option V)(ls:List Addr),σ=[rr a,rs f,rr l,v]∧gc H H2∧H2 l=some (.lst (ls.map V.ref))∧Paired (my A H) ls (g9 (ps.take i) f)
 refine⟨_,rfl,a,rfl,⟨_,ib.of (s1 a _ ha)⟩,jz (K:=K) (a:=a) (xs:=as.map V.ref) Jv
  ⟨none,[],rfl,s1,b_,.nil⟩ (by rintro _ _ _ _ ⟨_,_,_,s3,_⟩;exact ib.of (s3 a _ ha)) ?_ ?_⟩
 ·rintro i v σ H2 hx ⟨v0,ls,rfl,s3,h4,h6⟩
  obtain⟨b,hb,rfl⟩:=jZ hx
  obtain⟨p,hp,dx,vf,pu,cu,vo,g1,g2,⟨as2,g3,QX⟩,g4,g5⟩:=ie pa hb
  have e:g9 (ps.take (i+1)) f=g9 (ps.take i) f++if p.file=some f then p.ik else[]:=by rw[take_snoc hp,zh]
  refine⟨_,rfl,b,A.hG,dx,_,_,rfl,s3 _ _ g1,O.iZ,O.jI,CT,_,rfl,?_⟩
  have hf:JS vf (V.str f)=true:=by
   cases hq:p.file with
   | none=>rw[hq] at g2;rw[show vf=V.iP from g2];rfl
   | some x=>rw[hq] at g2;rw[show vf=V.str x from g2];rfl
  refine⟨hf,_,rfl,?_⟩
  rw[g2.eq f]
  by_cases hm:p.file=some f
  ·rw[aak hm] at e
   rw[UN hm]
   refine nM ?_
   refine⟨_,rfl,.inl ⟨rfl,_,ib.of h4⟩,_,rfl,b,A.hG,dx,_,_,rfl,s3 _ _ g1,O.iZ,O.jm,yo,l,pu,_,_,rfl,rfl,h4,s3 _ _ g3,?_,?_⟩
   ·rw[QR,QR,aad h6,aad QX,←TZ,←e]
    exact aac (pZ _ f) (Small.sub (aca _ _) sm).ik.sz
   ·refine⟨_,ls++as2,rfl,s3.upd hl,by rw[b_,aam],?_⟩
    rw[e]
    exact sZ h6 QX
  ·rw[aai hm,aaF] at e
   rw[aab hm]
   exact jC ⟨_,ls,rfl,s3,h4,by rw[e];exact h6⟩
 ·rintro σ H2 ⟨v0,ls,rfl,s3,h4,h6⟩
  rw[QR,hlen,aan] at h6
  exact⟨_,rfl,q l _ s3 hl ⟨ls,h4,Paired.jK h6 fun _ _ z=>z.same s3⟩⟩
theorem Gb(ps:List Pt)(p:Pt):gone (ps++[p])=gone ps++p.iV:=by
 unfold gone
 rw[aaM,aap,abc,aaF]
def KH(A:Ad):Sp:=fun vs H Q _=>∃(a:Addr)(ps:List Pt)(f:Str),vs=[.ref a,.str f]∧wZ A H a ps∧Small ps∧∀p H',gc H H'→H p=none→pY A H' p (kJ ps f)→Q (.ref p) H'
theorem ux(T:Txt mg)(O:Ok K mg A):iz P w K mg base mB 2 A.oY A.oZ ["patches","file"] (KH A):=by
 have yJ:=@w6 P w K mg base A T O
 have rG:=@uw P w K mg base A T O
 refine O.rf.f.qJ jd fun jw A0 outer s H vs Q E hr h=>?_
 obtain⟨a,ps,f,rfl,pa,sm,q⟩:=h
 refine⟨_,(de (l6 2 jd (pk O.ur yJ hr (a_ (pv 0) e_)))
   (de (kU (i:=3) jd.nd rfl (Or.inr rfl) l9)
   (de (iQ aav rfl (iD (pv 2)) (uN 4 jd) (fV (iQ aav rfl (iD (g_ (pv 4) rfl)) (uN 5 jd) (fV (jB (by exact ja hr) (pv 3) (pv 5) jS rfl)))))
   (fV (h_ (AJ oS (fW kD).names [6] rfl (iD (pk O.vk rG hr (a_ (pv 2) (a_ (pv 1) e_)))) rfl (by decide+kernel) (fun _ _ _ _=>(iJ (i:=6) jd.nd rfl (Or.inl rfl))) (fun _ _ _ _=>⟨_,pB (jq (lM (by exact ja hr) (g_ (pv 6) rfl) (pv 3))),by(try simp only [lg]);rfl⟩) (fun _ _ _ _=>zV (pv 6)))))))),?_⟩
 refine MN ?_;intro _ _ _
 refine⟨_,rfl,a,ps,rfl,pa,sm.many,fun l H1 s1 LW OQ=>?_⟩
 have UP:Small (live ps):=sm.sub (xW ps)
 obtain⟨as,ha,pl⟩:=id OQ
 have hlen:=aad pl
 intro g hg
 have s2:gc H1 (upd H1 g (.dT [])):=(gc.refl H1).new hg
 dsimp only [oJ];refine MP ?_;intro _
 let Jv:=fun(i:Nat) (σ:St) (H2:Hp)=>∃(v4 v5:Option V)(kvs:List (List Key×V)),σ=[rr a,rs f,rr l,rr g,v4,v5,none]∧gc H1 H2∧H2 g=some (.dT kvs)∧OJ kvs (gone ((live ps).take i))∧kvs.length≤(gone ((live ps).take i)).length
 refine⟨_,rfl,l,rfl,⟨_,ib.of (s2 l _ ha)⟩,jz (K:=K) (a:=l) (xs:=as.map V.ref) Jv
  ⟨none,none,[],rfl,s2,b_,(fun x=>rfl),TU _⟩ (by rintro _ _ _ _ ⟨_,_,_,_,s3,_⟩;exact ib.of (s3 l _ ha)) ?_ ?_⟩
 ·rintro i v σ H2 hx ⟨v4,v5,kvs,rfl,s3,h1,h2,h3⟩
  obtain⟨b,hb,rfl⟩:=jZ hx
  obtain⟨p,hp,dx,vf,pu,cu,vo,g1,g2,g3,⟨cs,g4,OR⟩,g5⟩:=ie pl hb
  have e:gone ((live ps).take (i+1))=gone ((live ps).take i)++p.iV:=by rw[take_snoc hp,Gb]
  have hsz:(gone ((live ps).take i)++p.iV).length≤4000:=by rw[←e];exact(UP.sub (aca _ _)).iV
  rw[TZ] at hsz
  have Fh:=aad OR
  let Jv:=fun(j:Nat) (σ:St) (H3:Hp)=>∃(v5:Option V)(kvs:List (List Key×V)),σ=[rr a,rs f,rr l,rr g,rr b,v5,none]∧gc H1 H3∧H3 g=some (.dT kvs)∧OJ kvs (gone ((live ps).take i)++p.iV.take j)∧kvs.length≤(gone ((live ps).take i)).length+j
  refine⟨_,rfl,b,A.hG,dx,_,_,rfl,s3 _ _ g1,O.iZ,O.jn,yp,cu,rfl,⟨_,ib.of (s3 _ _ g4)⟩,jz (K:=K) (a:=cu) (xs:=cs) Jv
   ⟨v5,kvs,rfl,s3,h1,by rw[abO,aaF];exact h2,by omega⟩ (by rintro _ _ _ _ ⟨_,_,_,s4,_⟩;exact ib.of (s4 cu _ g4)) ?_ ?_⟩
  ·rintro j v σ H3 hx ⟨v5,kvs,rfl,s4,h1,h2,h3⟩
   obtain⟨n,hn,t,rfl,ht⟩:=ie OR hx
   have hj:j<cs.length:=(List.getElem?_eq_some_iff.mp hx).1
   refine⟨_,rfl,_,rfl,g,_,rfl,mY.t (k:=nk n) h1 (s4 _ _ ht) (abl (m:=4000) (by omega) (by decide)),?_⟩
   have Xo:=jk kvs (nk n) (V.bl true)
   refine⟨_,_,rfl,s4.upd hg,b_,?_,by omega⟩
   rw[take_snoc hn,←aaL]
   exact h2.put n _
  ·rintro σ H3 ⟨v5,kvs,rfl,s4,h1,h2,h3⟩
   rw[Fh,aan] at h2
   rw[Fh] at h3
   exact⟨_,v5,kvs,rfl,s4,h1,by rw[e];exact h2,by rw[e,TZ];exact h3⟩
 ·rintro σ H2 ⟨v4,v5,kvs,rfl,s3,h1,h2,h3⟩
  rw[QR,hlen,aan] at h2
  refine⟨_,rfl,_,rfl,l,live ps,f,rfl,OQ.same s3,UP,fun p H3 s4 Dl ⟨UQ,Xp,Xq⟩=>?_⟩
  have Xr:UQ.length=(g9 (live ps) f).length:=aad Xq
  have hbound:UQ.length≤4000:=by rw[Xr];exact aac (pZ _ _) UP.ik
  refine⟨p,rfl,⟨_,ib.of Xp⟩,jU (K:=K) (a:=p) (xs:=UQ.map V.ref) (by rw[QR];exact aac hbound (by decide)) (fun i ys σ H4=>∃(v6:Option V)(ls:List Addr),σ=[rr a,rs f,rr l,rr g,v4,v5,v6]∧H4=H3∧ys=ls.map V.ref∧ls.length≤i∧Paired (my A H3) ls (((g9 (live ps) f).take i).filter fun l=>l.nm∉gone (live ps)))
   ⟨none,[],rfl,rfl,rfl,TU _,.nil⟩ (by rintro _ _ _ _ _ ⟨_,ls,_,e,e2,e3,_⟩;subst e e2;exact⟨ib.of Xp,by rw[QR];exact e3⟩) ?_ ?_⟩
  ·rintro i v ys σ H4 hx ⟨v6,ls,rfl,rfl,rfl,e3,h6⟩
   obtain⟨b,hb,rfl⟩:=jZ hx
   obtain⟨ln,vy,dx,vn,vu,vl,k1,⟨t,rfl,k2⟩,k3,k4⟩:=ie Xq hb
   refine⟨_,rfl,b,A.hU,dx,_,_,rfl,k1,O.iH,O.hZ,i4,_,rfl,g,_,rfl,js.t (k:=nk ln.nm) (s4 _ _ h1) k2,_,rfl,?_⟩
   rw[h2 ln.nm,take_snoc vy,aaD]
   by_cases hm:ln.nm∈gone (live ps)
   ·rw[UN hm]
    refine jC ⟨_,ls,rfl,rfl,rfl,by omega,?_⟩
    rw[aae (by simpa using hm),aa6,aaF]
    exact h6
   ·rw[aab hm]
    refine nM ⟨_,rfl,_,ls++[b],rfl,rfl,by rw[aam];rfl,M_,?_⟩
    rw[Z8 (by simpa using hm),aa6]
    exact ij h6 ⟨dx,.ref t,vu,vl,k1,⟨t,rfl,k2⟩,k3,k4⟩
  ·rintro ys σ H4 ⟨v6,ls,rfl,rfl,rfl,e3,h6⟩ p2 zx
   rw[QR,Xr,aan] at h6
   have s5:=((s1.trans s3).trans s4).new (o:=.lst (ls.map V.ref)) zx
   refine q p2 _ s5 (((s1.trans s3).trans s4).free zx) ⟨ls,b_,?_⟩
   exact Paired.jK h6 fun _ _ z=>z.same ((gc.refl H4).new zx)
theorem pe{κ:Type}[DecidableEq κ](kvs:List (κ×V))(k:κ)(v:V):(putK kvs k v).map (·.1)=if k∈kvs.map (·.1) then kvs.map (·.1) else kvs.map (·.1)++[k]:=by
 unfold putK
 by_cases h:k∈kvs.map (·.1)
 ·have h':(kvs.any fun kv=>decide (kv.1=k))=true:=by
   obtain⟨p,hp,e⟩:=aaw.mp h
   exact List.any_eq_true.mpr ⟨p,hp,UN e⟩
  rw[aak h',aak h,List.map_map]
  refine abV fun p _=>?_
  show(if p.1=k then(p.1,v) else p).1=p.1
  split<;>rfl
 ·have h':¬(kvs.any fun kv=>decide (kv.1=k))=true:=fun z=>by
   obtain⟨p,hp,e⟩:=List.any_eq_true.mp z
   exact h (aaw.mpr ⟨p,hp,aau e⟩)
  rw[aai h',aai h,aam]
  rfl
theorem rP{κ:Type}[DecidableEq κ]{kvs:List (κ×V)}{k:κ}:(iU kvs k).isSome=true↔k∈kvs.map (·.1):=by
 induction kvs with
 | nil=>exact⟨(fun z=>by cases z),(fun z=>by cases z)⟩
 | cons p r ih=>
  by_cases e:p.1=k
  ·rw[jf e,aaq,e];exact⟨fun _=>aal,fun _=>rfl⟩
  ·rw[jb e,ih,aaq]
   exact⟨fun m=>Z4 _ m,fun z=>(WK.mp z).elim (fun z=>absurd z.symm e) id⟩
theorem CU{κ:Type}[DecidableEq κ]{kvs:List (κ×V)}{k:κ}(h:k∉kvs.map (·.1)):iU kvs k=none:=by
 cases e:iU kvs k with
 | none=>rfl
 | some v=>exact absurd (rP.mp (by rw[e];rfl)) h
theorem rA{n:Nm}{l:List Nm}:nk n∈l.map nk↔n∈l:=by
 constructor
 ·intro h
  obtain⟨m,hm,e⟩:=aaw.mp h
  rw[←oA e];exact hm
 ·exact fun h=>T1 h
def zi(H:Hp)(a:Addr)(l:List Nm):Prop:=∃dk,H a=some (.dT dk)∧dk.map (·.1)=l.map nk
noncomputable def nO(l:List Nm)(m:Nm):List Nm:=if m∈l then l else l++[m]
theorem rB{l:List Nm}{m x:Nm}:x∈nO l m↔x∈l∨x=m:=by
 unfold nO
 split
 ·rename_i h
  exact⟨.inl,fun z=>z.elim id fun z=>z▸h⟩
 ·simp
theorem xr{l:List Nm}{m:Nm}(h:l.Nodup):(nO l m).Nodup:=by
 unfold nO
 split
 ·exact h
 ·rename_i hm
  rw[aa1]
  exact⟨h,by simp,fun a ha b hb z=>hm (by rw[TN.mp hb] at z;exact z▸ha)⟩
theorem CV{l:List Nm}{m:Nm}:(nO l m).length≤l.length+1:=by
 unfold nO
 split
 ·omega
 ·rw[TZ];exact TU _
theorem uy{dk:List (List Key×V)}{l:List Nm}(h:dk.map (·.1)=l.map nk)(m:Nm)(v:V):(putK dk (nk m) v).map (·.1)=(nO l m).map nk:=by
 rw[pe,h]
 unfold nO
 by_cases e:m∈l
 ·rw[aak (rA.mpr e),aak e]
 ·rw[aai (fun z=>e (rA.mp z)),aai e,aam];rfl
noncomputable def zk(ns:List Nm)(ds:List Addr):List (List Key×V):=List.zipWith (fun n d=>(nk n,V.ref d)) ns ds
theorem E5:∀{ns:List Nm} {ds:List Addr} (n:Nm) (d:Addr),ns.length=ds.length→zk (ns++[n]) (ds++[d])=zk ns ds++[(nk n,V.ref d)]
 | [],[],_,_,_=>rfl
 | [],_::_,_,_,h=>by simp at h
 | _::_,[],_,_,h=>by simp at h
 | x::r,y::t,n,d,h=>by
  show(nk x,V.ref y)::zk (r++[n]) (t++[d])=_
  rw[E5 n d (by simpa using h)]
  rfl
theorem Bf:∀{ns:List Nm} {ds:List Addr},ns.length=ds.length→(zk ns ds).map (·.1)=ns.map nk
 | [],[],_=>rfl
 | [],_::_,h=>by simp at h
 | _::_,[],h=>by simp at h
 | x::r,y::t,h=>by
  show nk x::(zk r t).map (·.1)=nk x::r.map nk
  rw[Bf (by simpa using h)]
noncomputable def rY:List Nm→List Addr→Nm→Addr
 | x::r,d::t,n=>if x=n then d else rY r t n
 | _,_,_=>0
theorem Ib:∀{ns:List Nm} {ds:List Addr} {n:Nm},ns.length=ds.length→n∈ns→iU (zk ns ds) (nk n)=some (.ref (rY ns ds n))
 | [],_,_,_,hn=>by cases hn
 | _::_,[],_,h,_=>by simp at h
 | x::r,y::t,n,h,hn=>by
  show iU ((nk x,V.ref y)::zk r t) (nk n)=some (.ref (if x=n then y else rY r t n))
  by_cases e:x=n
  ·subst e
   rw[jf rfl,aak rfl]
  ·have hr:n∈r:=(WK.mp hn).elim (fun z=>absurd z.symm e) id
   rw[jb (fun z=>e (oA z)),Ib (by simpa using h) hr,aai e]
theorem Bg:∀{ns:List Nm} {ds:List Addr} {n:Nm},ns.length=ds.length→n∈ns→rY ns ds n∈ds
 | [],_,_,_,hn=>by cases hn
 | _::_,[],_,h,_=>by simp at h
 | x::r,y::t,n,h,hn=>by
  show(if x=n then y else rY r t n)∈y::t
  by_cases e:x=n
  ·rw[aak e];exact aal
  ·rw[aai e]
   exact Z4 _ (Bg (by simpa using h) ((WK.mp hn).elim (fun z=>absurd z.symm e) id))
theorem Ic:∀{ns:List Nm} {ds:List Addr} {n m:Nm},ns.length=ds.length→ds.Nodup→n∈ns→m∈ns→rY ns ds n=rY ns ds m→n=m
 | [],_,_,_,_,_,hn,_,_=>by cases hn
 | _::_,[],_,_,h,_,_,_,_=>by simp at h
 | x::r,y::t,n,m,h,nd,hn,hm,e=>by
  have hl:r.length=t.length:=by simpa using h
  rw[aaT] at nd
  have e:(if x=n then y else rY r t n)=(if x=m then y else rY r t m):=e
  by_cases e1:x=n
  ·by_cases e2:x=m
   ·exact e1.symm.trans e2
   ·rw[aak e1,aai e2] at e
    exact absurd (e▸Bg hl ((WK.mp hm).elim (fun z=>absurd z.symm e2) id)) nd.1
  ·have ON:=(WK.mp hn).elim (fun z=>absurd z.symm e1) id
   by_cases e2:x=m
   ·rw[aai e1,aak e2] at e
    exact absurd (e▸Bg hl ON) nd.1
   ·rw[aai e1,aai e2] at e
    exact Ic hl nd.2 ON ((WK.mp hm).elim (fun z=>absurd z.symm e2) id) e
structure T3(H:Hp)(p:Addr)(ns:List Nm)(ad:Nm→Addr)(sf:Nm→List Nm):Prop where
 at_:∃kvs,H p=some (.dT kvs)∧(∀n∈ns,iU kvs (nk n)=some (.ref (ad n)))∧kvs.map (·.1)=ns.map nk
 inj:∀n∈ns,∀m∈ns,ad n=ad m→n=m
 ks:∀n∈ns,zi H (ad n) (sf n)
theorem KI{ls:List Ln}{l:Ln}{m n:Nm}:Sa (ls++[l]) m n↔Sa ls m n∨(l.nm=n∧l.up=some m)∨(l.nm=m∧l.lo=some n):=by
 unfold Sa
 constructor
 ·rintro⟨x,hx,q⟩
  rcases WL.mp hx with h|h
  ·exact .inl ⟨x,h,q⟩
  ·rw[TN.mp h] at q;exact .inr q
 ·rintro(⟨x,hx,q⟩|q)
  ·exact⟨x,aaf _ hx,q⟩
  ·exact⟨l,by simp,q⟩
def P1(A:Ad):Sp:=fun vs H Q _=>∃(a:Addr)(ls:List Ln),vs=[.ref a]∧pY A H a ls∧yt ls.length∧(ls.map (·.nm)).Nodup∧pH ls∧
 ∀p H' ad sf,gc H H'→H p=none→(∀n∈ls.map (·.nm),H (ad n)=none)→T3 H' p (ls.map (·.nm)) ad sf→(∀n,(sf n).Nodup∧∀m,m∈sf n↔Sa ls m n)→Q (.ref p) H'
theorem uA(T:Txt mg)(O:Ok K mg A):iz P w K mg base mB 1 A.o3 A.o4 ["lines"] (P1 A):=by
 refine O.rg.f.qJ j6 fun jw A0 outer s H vs Q E hr h=>?_
 obtain⟨a,ls,rfl,⟨as,ha,pa⟩,kq,nd,cl,q⟩:=h
 have hlen:=aad pa
 refine⟨_,(de (l6 1 j6 l9)
   (de (iQ aav rfl (iD (pv 0)) (uN 2 j6) (fV (jB (by exact ja hr) (pv 1) (g_ (pv 2) rfl) l9 rfl)))
   (de (iQ aav rfl (iD (pv 0)) (uN 2 j6) (de (qH (iy (jq (nS (g_ (pv 2) rfl))) (fV (jB (by exact ja hr) (B1 hr (pv 1) (g_ (pv 2) rfl)) (g_ (pv 2) rfl) jS rfl)) hV))
   (fV (iy (jq (nS (g_ (pv 2) rfl))) (fV (jB (by exact ja hr) (B1 hr (pv 1) (g_ (pv 2) rfl)) (g_ (pv 2) rfl) jS rfl)) hV))))
   (fV (h_ (pv 1)))))),?_⟩
 refine MN ?_;intro _ _ _
 intro p hp
 have s1:gc H (upd H p (.dT [])):=(gc.refl H).new hp
 dsimp only [oJ];refine MP ?_;intro _
 let Jv:=fun(i:Nat) (σ:St) (H2:Hp)=>∃(v:Option V)(ds:List Addr),σ=[rr a,rr p,v]∧gc H H2∧H2 p=some (.dT (zk ((ls.take i).map (·.nm)) ds))∧ds.length=((ls.take i).map (·.nm)).length∧ds.Nodup∧(∀d∈ds,H d=none∧d≠p∧H2 d=some (.dT []))
 refine⟨_,rfl,a,rfl,⟨_,ib.of (s1 a _ ha)⟩,jz (K:=K) (a:=a) (xs:=as.map V.ref) Jv
  ⟨none,[],rfl,s1,b_,rfl,abi,fun d hd=>by cases hd⟩ (by rintro _ _ _ _ ⟨_,_,_,s3,_⟩;exact ib.of (s3 a _ ha)) ?_ ?_⟩
 ·rintro i v σ H2 hx ⟨v0,ds,rfl,s3,h1,h2,h3,h4⟩
  obtain⟨b,hb,rfl⟩:=jZ hx
  obtain⟨l,hl,dx,vn,vu,vl,g1,⟨t,rfl,g2⟩,g3,g4⟩:=ie pa hb
  have hi:i<ls.length:=(List.getElem?_eq_some_iff.mp hl).1
  intro d hd
  have s4:gc H (upd H2 d (.dT [])):=s3.new hd
  have UR:d≠p:=fun z=>by rw[z,h1] at hd;cases hd
  have JF:d∉ds:=fun z=>by rw[(h4 d z).2.2] at hd;cases hd
  have Lc:upd H2 d (.dT []) p=some (.dT (zk ((ls.take i).map (·.nm)) ds)):=by rw[d_ UR.symm];exact h1
  have yK:l.nm∉(ls.take i).map (·.nm):=fun z=>by
   have e2:(ls.map (·.nm)).take i=(ls.take i).map (·.nm):=List.map_take.symm
   rw[←e2] at z
   obtain⟨j,hj,e⟩:=aaH.mp z |>.imp fun j h=>(⟨(List.getElem?_eq_some_iff.mp h).1,h⟩:j<((ls.map (·.nm)).take i).length∧((ls.map (·.nm)).take i)[j]?=some l.nm)
   have Li:j<i:=by rw[aaG] at hj;omega
   rw[List.getElem?_take,aak Li] at e
   have e3:(ls.map (·.nm))[i]?=some l.nm:=by rw[ZZ,hl];rfl
   have:=(List.getElem?_inj (List.getElem?_eq_some_iff.mp e).1 nd).mp (e.trans e3.symm)
   omega
  refine⟨_,rfl,_,rfl,b,A.hU,dx,_,_,rfl,s4 _ _ g1,O.iH,O.hZ,i4,p,_,rfl,mY.t (k:=nk l.nm) Lc (s4 _ _ g2) ?_,?_⟩
  ·have:(zk ((ls.take i).map (·.nm)) ds).length≤ds.length:=by unfold zk;rw[List.length_zipWith];exact Nat.min_le_right _ _
   rw[h2,QR,aaG] at this
   exact abl (m:=4000) (by have:yt ls.length:=kq;unfold yt at this;omega) (by decide)
  ·have e:putK (zk ((ls.take i).map (·.nm)) ds) (nk l.nm) (V.ref d)=zk ((ls.take (i+1)).map (·.nm)) (ds++[d]):=by
    rw[take_snoc hl,aam]
    show _=zk (_++[l.nm]) _
    rw[E5 _ _ h2.symm]
    refine Ck _ ?_
    exact CU (by rw[Bf h2.symm];exact fun z=>yK (rA.mp z))
   rw[e]
   refine⟨_,ds++[d],rfl,s4.upd hp,b_,?_,?_,?_⟩
   ·rw[take_snoc hl,aam,TZ,TZ,h2];rfl
   ·rw[aa1]
    exact⟨h3,by simp,fun x hx y hy z=>JF (by rw[TN.mp hy] at z;exact z▸hx)⟩
   ·intro x hx
    rcases WL.mp hx with hx|hx
    ·obtain⟨k1,k2,k3⟩:=h4 x hx
     refine⟨k1,k2,?_⟩
     rw[d_ k2,d_ (fun z=>by rw[z] at hx;exact JF hx)]
     exact k3
    ·rw[TN.mp hx]
     exact⟨s3.free hd,UR,by rw[d_ UR];exact b_⟩
 ·rintro σ H2 ⟨v0,ds,rfl,s3,h1,h2,h3,h4⟩
  have el:(as.map V.ref).length=ls.length:=by rw[QR];exact hlen
  rw[el,aan] at h1 h2
  have Sn:=h2.symm
  have EB:∀n∈ls.map (·.nm),iU (zk (ls.map (·.nm)) ds) (nk n)=some (.ref (rY (ls.map (·.nm)) ds n)):=fun n hn=>Ib Sn hn
  have Lj:∀n∈ls.map (·.nm),∀m∈ls.map (·.nm),rY (ls.map (·.nm)) ds n=rY (ls.map (·.nm)) ds m→n=m:=fun n hn m hm e=>Ic Sn h3 hn hm e
  have wI:∀n∈ls.map (·.nm),H (rY (ls.map (·.nm)) ds n)=none∧rY (ls.map (·.nm)) ds n≠p∧H2 (rY (ls.map (·.nm)) ds n)=some (.dT []):=fun n hn=>h4 _ (Bg Sn hn)
  generalize rY (ls.map (·.nm)) ds=ad at EB Lj wI
  have LX:=Bf Sn
  generalize zk (ls.map (·.nm)) ds=kvs at h1 EB LX
  dsimp only [oJ];refine MP ?_;intro _
  let Jv:=fun(i:Nat) (σ:St) (H3:Hp)=>∃(v:Option V)(sf:Nm→List Nm),σ=[rr a,rr p,v]∧gc H H3∧H3 p=some (.dT kvs)∧(∀n∈ls.map (·.nm),zi H3 (ad n) (sf n))∧∀n,(sf n).Nodup∧(sf n).length≤2*i∧∀m,m∈sf n↔Sa (ls.take i) m n
  refine⟨_,rfl,a,rfl,⟨_,ib.of (s3 a _ ha)⟩,jz (K:=K) (a:=a) (xs:=as.map V.ref) Jv
   ⟨v0,fun _=>[],rfl,s3,h1,fun n hn=>⟨[],(wI n hn).2.2,rfl⟩,fun n=>⟨abi,aaE _,fun m=>⟨(fun z=>by cases z),fun⟨x,hx,_⟩=>by rw[abO] at hx;cases hx⟩⟩⟩ (by rintro _ _ _ _ ⟨_,_,_,s3,_⟩;exact ib.of (s3 a _ ha)) ?_ ?_⟩
  ·rintro i v σ H3 hx ⟨v1,sf,rfl,s4,k1,k2,k3⟩
   obtain⟨b,hb,rfl⟩:=jZ hx
   obtain⟨l,hl,dx,vn,vu,vl,g1,⟨t,rfl,g2⟩,g3,g4⟩:=ie pa hb
   have hi:i<ls.length:=(List.getElem?_eq_some_iff.mp hl).1
   have hi4:i<4000:=aax hi kq
   have vy:l.nm∈ls.map (·.nm):=T1 (UK hl)
   have step:∀{H3:Hp} {sf:Nm→List Nm} {n m:Nm},gc H H3→H3 p=some (.dT kvs)→(∀n∈ls.map (·.nm),zi H3 (ad n) (sf n))→n∈ls.map (·.nm)→∀dk,H3 (ad n)=some (.dT dk)→dk.map (·.1)=(sf n).map nk→
     gc H (upd H3 (ad n) (.dT (putK dk (nk m) (V.bl true))))∧upd H3 (ad n) (.dT (putK dk (nk m) (V.bl true))) p=some (.dT kvs)∧(∀x∈ls.map (·.nm),zi (upd H3 (ad n) (.dT (putK dk (nk m) (V.bl true)))) (ad x) (if x=n then nO (sf n) m else sf x)):=fun{H3 sf n m} s4 k1 k2 hn dk hdk US=>by
    refine⟨s4.upd (wI n hn).1,by rw[d_ (wI n hn).2.1.symm];exact k1,fun x hx=>?_⟩
    by_cases e:x=n
    ·subst e
     rw[aak rfl]
     exact⟨_,b_,uy US m _⟩
    ·rw[aai e]
     obtain⟨N5,e1,e2⟩:=k2 x hx
     exact⟨N5,by rw[d_ (fun z=>e (Lj x hx n hn z))];exact e1,e2⟩
   have So:∀m n,Sa (ls.take (i+1)) m n↔Sa (ls.take i) m n∨(l.nm=n∧l.up=some m)∨(l.nm=m∧l.lo=some n):=fun m n=>by rw[take_snoc hl];exact KI
   refine⟨fun σ H4=>∃sf:Nm→List Nm,σ=[rr a,rr p,rr b]∧gc H H4∧H4 p=some (.dT kvs)∧(∀n∈ls.map (·.nm),zi H4 (ad n) (sf n))∧∀n,(sf n).Nodup∧(sf n).length≤2*i+1∧∀m,m∈sf n↔Sa (ls.take i) m n∨(l.nm=n∧l.up=some m),?_,?_⟩
   ·refine⟨_,rfl,b,A.hU,dx,_,_,rfl,s4 _ _ g1,O.iH,O.iA,Bc,_,rfl,?_⟩
    cases hu:l.up with
    | none=>
     rw[hu] at g3
     rw[show vu=V.iP from g3]
     exact⟨sf,rfl,s4,k1,k2,fun n=>⟨(k3 n).1,by have:=(k3 n).2.1;omega,fun m=>by rw[(k3 n).2.2 m];exact⟨.inl,fun z=>z.elim id fun z=>by cases z.2⟩⟩⟩
    | some u=>
     rw[hu] at g3
     obtain⟨tu,rfl,gu⟩:=(show j8 H vu u from g3)
     obtain⟨dk,e1,e2⟩:=k2 l.nm vy
     have hdl:dk.length=(sf l.nm).length:=by have:=aaQ List.length e2;rwa [QR,QR] at this
     refine⟨_,rfl,_,rfl,b,A.hU,dx,_,_,rfl,s4 _ _ g1,O.iH,O.hZ,i4,p,.ref (ad l.nm),rfl,?_,_,rfl,b,A.hU,dx,_,_,rfl,s4 _ _ g1,O.iH,O.iA,Bc,ad l.nm,_,rfl,mY.t (k:=nk u) e1 (s4 _ _ gu) (abl (m:=8000) (by have:=(k3 l.nm).2.1;omega) (by decide)),?_⟩
     ·have:=js.t (k:=nk l.nm) k1 (s4 _ _ g2)
      rw[EB _ vy] at this
      exact this
     ·obtain⟨z1,z2,z3⟩:=step (m:=u) s4 k1 k2 vy dk e1 e2
      refine⟨fun x=>if x=l.nm then nO (sf l.nm) u else sf x,rfl,z1,z2,z3,fun n=>?_⟩
      obtain⟨y1,y2,y3⟩:=k3 n
      show(if n=l.nm then nO (sf l.nm) u else sf n).Nodup∧(if n=l.nm then nO (sf l.nm) u else sf n).length≤_∧∀m,m∈(if n=l.nm then nO (sf l.nm) u else sf n)↔_
      by_cases e:n=l.nm
      ·subst e
       rw[aak rfl]
       have:=CV (l:=sf l.nm) (m:=u)
       refine⟨xr y1,by omega,fun m=>?_⟩
       rw[rB,y3 m]
       exact⟨fun z=>z.elim .inl fun z=>.inr ⟨rfl,by rw[z]⟩,fun z=>z.elim .inl fun z=>.inr (aao z.2).symm⟩
      ·rw[aai e]
       refine⟨y1,by omega,fun m=>?_⟩
       rw[y3 m]
       exact⟨.inl,fun z=>z.elim id fun z=>absurd z.1.symm e⟩
   ·rintro σ H4 ⟨Fi,rfl,s5,k4,k5,k6⟩
    have fin:∀(N6:Nm→List Nm)(n:Nm),((N6 n).Nodup∧(N6 n).length≤2*i+2∧∀m,m∈N6 n↔(Sa (ls.take i) m n∨(l.nm=n∧l.up=some m))∨(l.nm=m∧l.lo=some n))→(N6 n).Nodup∧(N6 n).length≤2*(i+1)∧∀m,m∈N6 n↔Sa (ls.take (i+1)) m n:=fun N6 n ⟨z1,z2,z3⟩=>
     ⟨z1,by omega,fun m=>by rw[z3 m,So m n,or_assoc]⟩
    refine⟨_,rfl,b,A.hU,dx,_,_,rfl,s5 _ _ g1,O.iH,O.iB,Be,_,rfl,?_⟩
    cases hu:l.lo with
    | none=>
     rw[hu] at g4
     rw[show vl=V.iP from g4]
     refine⟨_,Fi,rfl,s5,k4,k5,fun n=>fin Fi n ⟨(k6 n).1,by have:=(k6 n).2.1;omega,fun m=>?_⟩⟩
     rw[(k6 n).2.2 m,hu]
     exact⟨.inl,fun z=>z.elim id fun z=>by cases z.2⟩
    | some d=>
     have JF:d∈ls.map (·.nm):=(cl l (UK hl)).2 d hu
     rw[hu] at g4
     obtain⟨td,rfl,gd⟩:=(show j8 H vl d from g4)
     obtain⟨dk,e1,e2⟩:=k5 d JF
     have hdl:dk.length=(Fi d).length:=by have:=aaQ List.length e2;rwa [QR,QR] at this
     refine⟨_,rfl,_,rfl,b,A.hU,dx,_,_,rfl,s5 _ _ g1,O.iH,O.iB,Be,p,.ref (ad d),rfl,?_,_,rfl,b,A.hU,dx,_,_,rfl,s5 _ _ g1,O.iH,O.hZ,i4,ad d,_,rfl,mY.t (k:=nk l.nm) e1 (s5 _ _ g2) (abl (m:=8001) (by have:=(k6 d).2.1;omega) (by decide)),?_⟩
     ·have:=js.t (k:=nk d) k4 (s5 _ _ gd)
      rw[EB _ JF] at this
      exact this
     ·obtain⟨z1,z2,z3⟩:=step (m:=l.nm) s5 k4 k5 JF dk e1 e2
      refine⟨_,fun x=>if x=d then nO (Fi d) l.nm else Fi x,rfl,z1,z2,z3,fun n=>fin (fun x=>if x=d then nO (Fi d) l.nm else Fi x) n ?_⟩
      obtain⟨y1,y2,y3⟩:=k6 n
      show(if n=d then nO (Fi d) l.nm else Fi n).Nodup∧(if n=d then nO (Fi d) l.nm else Fi n).length≤_∧∀m,m∈(if n=d then nO (Fi d) l.nm else Fi n)↔_
      by_cases e:n=d
      ·subst e
       rw[aak rfl]
       have:=CV (l:=Fi n) (m:=l.nm)
       refine⟨xr y1,by omega,fun m=>?_⟩
       rw[rB,y3 m,hu]
       exact⟨fun z=>z.elim .inl fun z=>.inr ⟨z.symm,rfl⟩,fun z=>z.elim .inl fun z=>.inr z.1.symm⟩
      ·rw[aai e]
       refine⟨y1,by omega,fun m=>?_⟩
       rw[y3 m,hu]
       exact⟨.inl,fun z=>z.elim id fun z=>absurd (aao z.2).symm e⟩
  ·rintro σ H3 ⟨v1,sf,rfl,s4,k1,k2,k3⟩
   rw[QR,hlen] at k3
   exact⟨_,rfl,q p _ ad sf s4 hp (fun n hn=>(wI n hn).1) ⟨⟨kvs,k1,EB,LX⟩,Lj,k2⟩ fun n=>⟨(k3 n).1,fun m=>by rw[(k3 n).2.2 m,aan]⟩⟩
theorem j8.upd{H:Hp}{v:V}{n:Nm}{x:Addr}{o o':HO}(h:j8 H v n)(hx:H x=some o')(ht:∀xs,o'≠.tup xs):j8 (L2.upd H x o) v n:=by
 obtain⟨t,e,LU⟩:=h
 exact⟨t,e,by rw[d_ (jc LU hx (fun z=>ht _ z.symm))];exact LU⟩
theorem rC{dk:List (List Key×V)}{l:List Nm}(h:dk.map (·.1)=l.map nk):dk.length=l.length:=by
 have:=aaQ List.length h
 rwa [QR,QR] at this
theorem CW{dk:List (List Key×V)}{l:List Nm}(h:dk.map (·.1)=l.map nk){i:Nat}{k:List Key}{v:V}(hi:dk[i]?=some (k,v)):∃n,l[i]?=some n∧k=nk n:=by
 have h1:(dk.map (·.1))[i]?=some k:=by rw[ZZ,hi];rfl
 rw[h,ZZ] at h1
 obtain⟨n,e,e2⟩:=Option.map_eq_some_iff.mp h1
 exact⟨n,e,e2.symm⟩
theorem keys_has{dk:List (List Key×V)}{l:List Nm}(h:dk.map (·.1)=l.map nk)(n:Nm):(iU dk (nk n)).isSome=decide (n∈l):=by
 by_cases m:n∈l
 ·rw[UN m];exact rP.mpr (by rw[h];exact rA.mpr m)
 ·rw[aab m,abF];exact fun z=>m (rA.mp (by rw[←h];exact rP.mp z))
theorem CY:∀(more:List (List Key×V))(dk:List (List Key×V))(l r:List Nm),dk.map (·.1)=l.map nk→more.map (·.1)=r.map nk→l.Nodup→∃l':List Nm,(putAll dk more).map (·.1)=l'.map nk∧l'.Nodup∧∀m,m∈l'↔m∈l∨m∈r
 | [],dk,l,r,h1,h2,nd=>by
  have:r=[]:=by cases r with|nil=>rfl|cons _ _=>cases h2
  subst this
  exact⟨l,h1,nd,fun m=>by simp⟩
 | p::t,dk,l,r,h1,h2,nd=>by
  cases r with
  | nil=>cases h2
  | cons x r=>
   rw[aaq,aaq] at h2
   injection h2 with e1 e2
   rw[qI,e1]
   obtain⟨l',z1,z2,z3⟩:=CY t (putK dk (nk x) p.2) (nO l x) r (uy h1 x _) e2 (xr nd)
   refine⟨l',z1,z2,fun m=>?_⟩
   rw[z3 m,rB,WK,or_assoc]
def Nb:Sp:=fun vs H Q _=>∃(d a:Addr)(xs:List Nm)(ka:List (List Key×V))(af:Nm→List Nm),vs=[.ref d,.ref a]∧zi H d xs∧d≠a∧H a=some (.dT ka)∧(∀x∈xs,∃b,iU ka (nk x)=some (.ref b)∧b≠d∧zi H b (af x))∧xs.length≤4000∧(∀x∈xs,(af x).length≤4000)∧
 ∀p H' rs,gc H H'→H p=none→zi H' p rs→rs.Nodup→(∀m,m∈rs↔∃x∈xs,m=x∨m∈af x)→Q (.ref p) H'
theorem Gd(T:Txt mg)(O:Ok K mg A):iz P w K mg base mB 1 A.CJ A.CK ["names","ahead"] Nb:=by
 refine O.joined.f.qJ vb fun jw A0 outer s H vs Q E hr h=>?_
 obtain⟨d,a,xs,ka,af,rfl,⟨kd,hd,hk⟩,hda,ha,hb,hx4,haf,q⟩:=h
 refine⟨_,(de (l6 2 vb l9)
   (de (AL (iQ aav rfl (xS (pv 0)) (uN 3 vb) (de (jB (by exact ja hr) (pv 2) (pv 3) jS rfl)
   (fV (ip (HG (by exact ja hr) (pv 2) (B1 hr (pv 1) (pv 3)) ⟨rfl,rfl,rfl,rfl⟩))))))
   (fV (h_ (pv 2))))),?_⟩
 refine DD ?_;intro _ _
 intro p hp
 have QY:p≠d:=(f_ hd hp).symm
 have QZ:p≠a:=(f_ ha hp).symm
 refine⟨_,rfl,d,kd,rfl,by rw[d_ QY.symm];exact hd,fun o uz=>?_⟩
 have OS:=rC hk
 let Jv:=fun(i:Nat) (σ:St) (H2:Hp)=>∃(v:Option V)(kf:List (List Key×V))(rs:List Nm),σ=[rr d,rr a,rr p,v]∧(∀b o,H b=some o→b≠d→H2 b=some o)∧H2 d=some (.nR o (.dT kd))∧H2 p=some (.dT kf)∧kf.map (·.1)=rs.map nk∧rs.Nodup∧kf.length≤i*4001∧∀m,m∈rs↔∃x∈xs.take i,m=x∨m∈af x
 refine zU (d:=d) (o:=o) (kvs:=kd) Jv
  ⟨none,[],[],rfl,fun b o e nb=>by rw[d_ nb,d_ (f_ e hp)];exact e,b_,by rw[d_ QY];exact b_,rfl,abi,by simp,fun m=>by simp⟩ (by rintro _ _ _ ⟨_,_,_,_,_,e,_⟩;exact e) ?_ ?_
 ·rintro i k v t σ H2 hi ht ⟨v0,kf,rs,rfl,h1,h2,h3,h4,h5,h6,h7⟩
  obtain⟨x,hx,rfl⟩:=CW hk hi
  have Xs:x∈xs:=UK hx
  have zy:i<xs.length:=(List.getElem?_eq_some_iff.mp hx).1
  obtain⟨b,e1,e2,kb,e3,e4⟩:=hb x Xs
  have Xt:b≠p:=f_ e3 hp
  have LS:=rC e4
  have hb4:=haf x Xs
  have JG:t≠p:=fun z=>by rw[z,h3] at ht;cases ht
  have hl:=jk kf (nk x) (V.bl true)
  have sz:sizeLine=16777216:=aaA
  have hmul:i*4001≤4000*4001:=Nat.mul_le_mul_right _ (by omega)
  refine⟨_,rfl,_,rfl,p,_,rfl,mY.t (k:=nk x) h3 ht (by omega),?_⟩
  have qz:putK kf (nk x) (V.bl true)≠[]:=fun z=>by
   have:=uy h4 x (V.bl true)
   rw[z] at this
   have hm:x∈nO rs x:=rB.mpr (.inr rfl)
   cases hq:nO rs x with
   | nil=>rw[hq] at hm;cases hm
   | cons _ _=>rw[hq] at this;cases this
  refine⟨_,rfl,p,rfl,.inr ⟨_,.inl b_⟩,_,rfl,_,rfl,a,.ref b,rfl,?_,b,_,kb,rfl,b_,.inl (by rw[d_ Xt];exact h1 _ _ e3 e2),Xt.symm,qz,by omega,?_⟩
  ·have:=js.t (H:=L2.upd H2 p (.dT (putK kf (nk x) (V.bl true)))) (k:=nk x) (by rw[d_ QZ.symm];exact h1 a _ ha hda.symm) (b:=t) (by rw[d_ JG];exact ht)
   rw[e1] at this
   exact this
  ·obtain⟨l',z1,z2,z3⟩:=CY kb _ (nO rs x) (af x) (uy h4 x (V.bl true)) e4 (xr h5)
   refine⟨_,_,l',rfl,fun b o e nb=>?_,?_,b_,z1,z2,?_,fun m=>?_⟩
   ·rw[d_ (f_ e hp),d_ (f_ e hp)];exact h1 b o e nb
   ·rw[d_ QY.symm,d_ QY.symm];exact h2
   ·have:=pE kb (putK kf (nk x) (V.bl true))
    have:(i+1)*4001=i*4001+4001:=Nat.succ_mul _ _
    omega
   ·rw[z3 m,rB,h7 m,take_snoc hx]
    constructor
    ·rintro((⟨y,hy,z⟩|z)|z)
     ·exact⟨y,aaf _ hy,z⟩
     ·exact⟨x,by simp,.inl z⟩
     ·exact⟨x,by simp,.inr z⟩
    ·rintro⟨y,hy,z⟩
     rcases WL.mp hy with hy|hy
     ·exact .inl (.inl ⟨y,hy,z⟩)
     ·rw[TN.mp hy] at z
      exact z.elim (fun z=>.inl (.inr z)) .inr
 ·rintro σ H2 ⟨v0,kf,rs,rfl,h1,h2,h3,h4,h5,h6,h7⟩
  rw[OS,aan] at h7
  refine⟨d,o,_,h2,uz,_,rfl,q p _ rs (fun b u e=>?_) hp ⟨kf,by rw[d_ QY];exact h3,h4⟩ h5 h7⟩
  by_cases UT:b=d
  ·subst UT;rw[b_];rw[hd] at e;exact e
  ·rw[d_ UT];exact h1 b u e UT
structure oB(ls:List Ln)(H1 H:Hp)(h:Addr)(S:List Nm)(af:Nm→List Nm):Prop where
 ex:∃kvs,H h=some (.dT kvs)∧kvs.map (·.1)=S.map nk∧∀n∈S,∃b,iU kvs (nk n)=some (.ref b)∧b≠h∧H1 b=none∧zi H b (af n)
 nd:S.Nodup
 good:∀n∈S,n∈ls.map (·.nm)∧(af n).Nodup∧∀m,m∈af n↔Ah ls m n
theorem oB.same{ls:List Ln}{H1 H H':Hp}{h:Addr}{S:List Nm}{af:Nm→List Nm}(x:oB ls H1 H h S af)(s:gc H H'):oB ls H1 H' h S af:=by
 obtain⟨⟨kvs,e1,e2,e3⟩,nd,g⟩:=x
 refine⟨⟨kvs,s _ _ e1,e2,fun n hn=>?_⟩,nd,g⟩
 obtain⟨b,z1,z2,z3,dk,z4,z5⟩:=e3 n hn
 exact⟨b,z1,z2,z3,dk,s _ _ z4,z5⟩
theorem oB.lst{ls:List Ln}{H1 H:Hp}{h c:Addr}{S:List Nm}{af:Nm→List Nm}{xs:List V}{o:HO}(x:oB ls H1 H h S af)(hc:H c=some (.lst xs)):oB ls H1 (L2.upd H c o) h S af:=by
 obtain⟨⟨kvs,e1,e2,e3⟩,nd,g⟩:=x
 refine⟨⟨kvs,by rw[d_ (jc e1 hc (fun z=>by cases z))];exact e1,e2,fun n hn=>?_⟩,nd,g⟩
 obtain⟨b,z1,z2,z3,dk,z4,z5⟩:=e3 n hn
 exact⟨b,z1,z2,z3,dk,by rw[d_ (jc z4 hc (fun z=>by cases z))];exact z4,z5⟩
theorem E6{sf:Nm→List Nm}{B n:Nat}{st S:List Nm}(r:Run sf B n st S):st.length≤B:=by
 cases r with
 | nil=>exact aaE _
 | skip _ h _=>exact h
 | fin _ _ h _=>exact h
 | push _ _ h _=>exact h
theorem CZ{α β:Type}{F:α→β→Prop}{vs:List α}{xs:List β}{x:β}(p:Paired F vs (xs++[x])):∃Sq v,vs=Sq++[v]∧Paired F Sq xs∧F v x:=by
 induction xs generalizing vs with
 | nil=>
  cases p with
  | cons f t=>cases t;exact⟨[],_,rfl,.nil,f⟩
 | cons y r ih=>
  cases p with
  | cons f t=>
   obtain⟨Sq,v,rfl,h1,h2⟩:=ih t
   exact⟨_::Sq,v,rfl,.cons f h1,h2⟩
def Bh(H:Hp)(p:Addr)(ls:List Ln):Prop:=∃kvs,H p=some (.dT kvs)∧∀n∈ls.map (·.nm),∃b dk,iU kvs (nk n)=some (.ref b)∧H b=some (.dT dk)∧∀m,(iU dk (nk m)).isSome=true↔Ah ls m n
theorem Bh.same{H H':Hp}{p:Addr}{ls:List Ln}(x:Bh H p ls)(s:gc H H'):Bh H' p ls:=by
 obtain⟨kvs,e1,e2⟩:=x
 refine⟨kvs,s _ _ e1,fun n hn=>?_⟩
 obtain⟨b,dk,z1,z2,z3⟩:=e2 n hn
 exact⟨b,dk,z1,s _ _ z2,z3⟩
def P2(A:Ad):Sp:=fun vs H Q _=>∃(a:Addr)(ls:List Ln),vs=[.ref a]∧pY A H a ls∧yt ls.length∧(ls.map (·.nm)).Nodup∧pH ls∧HM ls∧∀p H',gc H H'→H p=none→Bh H' p ls→Q (.ref p) H'
theorem Bi(T:Txt mg)(O:Ok K mg A):iz P w K mg base mB 2 A.wa A.wb ["lines"] (P2 A):=by
 have vz:=@uA P w K mg base A T O
 have IZ:=@Gd P w K mg base A T O
 refine O.zZ.f.qJ jD fun jw A0 outer s H vs Q E hr h=>?_
 obtain⟨a,ls,rfl,la,kq,nd,cl,tp,q⟩:=h
 obtain⟨as,ha,pa⟩:=id la
 have hlen:=aad pa
 have Dm:ls.length≤4000:=kq
 refine⟨_,(de (l6 1 jD (pk O.rg vz hr (a_ (pv 0) e_)))
   (de (kU (i:=2) jD.nd rfl (Or.inr rfl) l9)
   (de (iQ aav rfl (iD (pv 0)) (uN 3 jD) (de (l6 4 jD (iX (a_ (g_ (pv 3) rfl) e_)))
   (fV (Ca aav (tM (pv 4) (fun _=>rfl)) (de (l6 5 jD (Mx aaB PySem.F.slot_list_pop PySem.F.type_list_pop Mz (pv 4)))
   (de (iy (jq (qG (by exact ja hr) (pv 5) (pv 2))) (fV (B_)) hV)
   (de (AL (xI (j:=6) vT (fW nY).names [7] jD.nd rfl rfl rfl (xS (B1 hr (pv 1) (pv 5))) rfl (by decide+kernel) (fun _ _ _ _=>(iJ (i:=7) jD.nd rfl (Or.inl rfl))) (fun _ _ _ _=>⟨_,pB (jq (lM (by exact ja hr) (pv 7) (pv 2))),by(try simp only [lg]);rfl⟩) (fun _ _ _ _=>zV (pv 7))))
   (fV (iy (tM (pv 6) (fun _=>rfl)) (de (ip (mW aaB aaI aaJ jx (pv 4) (a_ (pv 5) e_)))
   (fV (ip (mW aaB PySem.F.slot_list_extend PySem.F.type_list_extend zI (pv 4) (a_ (pv 6) e_))))) (fV (jB (by exact ja hr) (pv 2) (pv 5) (pk O.joined IZ hr (a_ (B1 hr (pv 1) (pv 5)) (a_ (pv 2) e_))) rfl)))))))))))
   (fV (h_ (pv 2)))))),?_⟩
 refine MN ?_;intro _ _ _
 refine⟨_,rfl,a,ls,rfl,la,kq,nd,cl,fun st H1 ad sf s1 hst0 had0 Ex N7=>?_⟩
 obtain⟨⟨kst,Q0,Q1,hst3⟩,Lj,US⟩:=Ex
 have hN:(1+ls.length*ls.length)≤16000001:=by have:=Nat.mul_le_mul Dm Dm;omega
 have sz:sizeLine=16777216:=aaA
 have Q2:∀n,(sf n).length≤4000:=fun n=>by
  have:=len_sub (ys:=ls.map (·.nm)) (N7 n).1 fun y hy=>(cl.sa (((N7 n).2 y).mp hy)).1
  rw[QR] at this;omega
 intro h hh
 have s2:gc H1 (L2.upd H1 h (.dT [])):=(gc.refl H1).new hh
 dsimp only [oJ];refine MP ?_;intro _
 let Jv:=fun(i:Nat) (σ:St) (H2:Hp)=>∃(v3 v4 v5 v6:Option V)(S:List Nm)(af:Nm→List Nm),σ=[rr a,rr st,rr h,v3,v4,v5,v6,none]∧gc H1 H2∧oB ls H1 H2 h S af∧∀l∈ls.take i,l.nm∈S
 refine⟨_,rfl,a,rfl,⟨_,ib.of (s2 _ _ (s1 _ _ ha))⟩,jz (K:=K) (a:=a) (xs:=as.map V.ref) Jv
  ⟨none,none,none,none,[],fun _=>[],rfl,s2,⟨⟨[],b_,rfl,fun n hn=>by cases hn⟩,abi,fun n hn=>by cases hn⟩,fun l hl=>by rw[abO] at hl;cases hl⟩ (by rintro _ _ _ _ ⟨_,_,_,_,_,_,_,s3,_⟩;exact ib.of (s3 _ _ (s1 _ _ ha))) ?_ ?_⟩
 ·rintro i v σ H2 hx ⟨v3,v4,v5,v6,S0,af0,rfl,s3,D0,hS0⟩
  obtain⟨b,hb,rfl⟩:=jZ hx
  obtain⟨l,hl,dx,vn,vu,vl,g1,⟨t0,rfl,g2⟩,g3,g4⟩:=ie pa hb
  have vy:l.nm∈ls.map (·.nm):=T1 (UK hl)
  refine⟨_,rfl,b,A.hU,dx,_,_,rfl,s3 _ _ (s1 _ _ g1),O.iH,O.hZ,i4,L2.kq,fun c hc=>?_⟩
  have UU:H1 c=none:=s3.free hc
  have s4:gc H1 (L2.upd H2 c (.lst [.ref t0])):=s3.new hc
  obtain⟨n0,r0⟩:=HN cl tp N7 l.nm S0
  refine⟨fun m σ H3=>∃(v5 v6:Option V)(sk S:List Nm)(af:Nm→List Nm)(cv:List V),σ=[rr a,rr st,rr h,rr b,rr c,v5,v6,none]∧Run sf (1+ls.length*ls.length) m sk S∧gc H1 H3∧H3 c=some (.lst cv)∧Paired (j8 H3) cv sk.reverse∧oB ls H1 H3 h S af∧(∀y∈sk,y∈ls.map (·.nm))∧(l.nm∈sk∨l.nm∈S)∧(∀y∈S0,y∈S),
   ⟨n0,v5,v6,[l.nm],S0,af0,[.ref t0],rfl,r0,s4,b_,.cons ⟨t0,rfl,s4 _ _ (s1 _ _ g2)⟩ .nil,D0.same ((gc.refl H2).new hc),fun y hy=>by rw[TN.mp hy];exact vy,.inl (by simp),fun _ z=>z⟩,?_⟩
  rintro m σ H3 ⟨v5,v6,sk,S,af,cv,rfl,run,s5,N8,UW,D,UX,IT,hS⟩
  cases sk with
  | nil=>
   have:cv=[]:=by cases UW;rfl
   subst this
   refine⟨_,rfl,false,.inl ⟨_,ib.of N8,rfl⟩,jC ?_⟩
   refine⟨_,_,_,_,S,af,rfl,s5,D,fun y hy=>?_⟩
   rw[take_snoc hl] at hy
   rcases WL.mp hy with hy|hy
   ·exact hS _ (hS0 y hy)
   ·rw[TN.mp hy]
    exact IT.elim (fun z=>by cases z) id
  | cons x sk=>
   rw[acb] at UW
   obtain⟨GR,vx,rfl,Q3,t,rfl,ht⟩:=CZ UW
   have Sr:x∈ls.map (·.nm):=UX x aal
   have Q4:∀y∈sk,y∈ls.map (·.nm):=fun y hy=>UX y (Z4 _ hy)
   have Fh:GR.length=sk.length:=by have:=aad Q3;rwa [abf] at this
   refine⟨_,rfl,true,.inl ⟨_,ib.of N8,by simp⟩,nM ?_⟩
   obtain⟨n,hn,run'⟩:∃n,m=n+1∧(x∈S∧Run sf (1+ls.length*ls.length) n sk S∨x∉S∧Cw sf S x=[]∧Run sf (1+ls.length*ls.length) n sk (S++[x])∨x∉S∧Cw sf S x≠[]∧Run sf (1+ls.length*ls.length) n ((Cw sf S x).reverse++x::sk) S):=by
    cases run with
    | skip z1 _ z2=>exact⟨_,rfl,.inl ⟨z1,z2⟩⟩
    | fin z1 z2 _ z3=>exact⟨_,rfl,.inr (.inl ⟨z1,z2,z3⟩)⟩
    | push z1 z2 _ z3=>exact⟨_,rfl,.inr (.inr ⟨z1,z2,z3⟩)⟩
   have OO:sk.length+1≤16000001:=by have:=E6 run;rw[WJ] at this;omega
   subst hn
   refine⟨fun σ H4=>∃(v5 v6:Option V)(sk S:List Nm)(af:Nm→List Nm)(cv:List V),σ=[rr a,rr st,rr h,rr b,rr c,v5,v6,none]∧Run sf (1+ls.length*ls.length) n sk S∧gc H1 H4∧H4 c=some (.lst cv)∧Paired (j8 H4) cv sk.reverse∧oB ls H1 H4 h S af∧(∀y∈sk,y∈ls.map (·.nm))∧(l.nm∈sk∨l.nm∈S)∧(∀y∈S0,y∈S),fun σ' H' z=>⟨n,acd n,z⟩,?_⟩
   refine⟨_,rfl,.inl ⟨rfl,_,ib.of N8⟩,c,_,.ref t,rfl,rfl,N8,by simp,?_⟩
   rw[List.dropLast_concat]
   have D4:oB ls H1 (L2.upd H3 c (.lst GR)) h S af:=D.lst N8
   have s6:gc H1 (L2.upd H3 c (.lst GR)):=s5.upd UU
   have p4:Paired (j8 (L2.upd H3 c (.lst GR))) GR sk.reverse:=Paired.jK Q3 fun _ _ z=>z.upd N8 (fun _ z=>by cases z)
   have OT:L2.upd H3 c (.lst GR) t=some (nT x):=by rw[d_ (jc ht N8 (fun z=>by cases z))];exact ht
   have OU:L2.upd H3 c (.lst GR) c=some (.lst GR):=b_
   generalize L2.upd H3 c (.lst GR)=H4 at D4 s6 p4 OT OU ⊢
   obtain⟨⟨kvs,e1,e2,e3⟩,N9,good⟩:=id D4
   refine⟨_,rfl,_,rfl,h,_,rfl,js.t (k:=nk x) e1 OT,_,rfl,?_⟩
   rw[keys_has e2 x]
   rcases run' with⟨OV,r⟩|LY
   ·rw[UN OV]
    refine nM ⟨_,_,sk,S,af,GR,rfl,r,s6,OU,p4,D4,Q4,?_,hS⟩
    exact IT.elim (fun z=>(WK.mp z).elim (fun z=>.inr (z▸OV)) .inl) .inr
   ·have OV:x∉S:=LY.elim (·.1) (·.1)
    rw[aab OV]
    refine jC ?_
    obtain⟨dk,UY,hd2⟩:=US x Sr
    have UZ:=s6 _ _ UY
    have Q5:ad x≠h:=f_ UY hh
    refine⟨_,rfl,_,rfl,st,.ref (ad x),rfl,?_,ad x,dk,rfl,UZ,fun o uz=>?_⟩
    ·have:=js.t (k:=nk x) (s6 _ _ Q0) OT
     rw[Q1 x Sr] at this
     exact this
    have U0:∀{y:Addr} {u:HO},y≠ad x→H4 y=some u→L2.upd H4 (ad x) (.nR o (.dT dk)) y=some u:=fun ny e=>by rw[d_ ny];exact e
    refine HC (d:=ad x) (o:=o) (kvs:=dk) (by rw[rC hd2];exact aac (Q2 x) (by decide)) (fun i ys σ H5=>∃(v7:Option V),σ=[rr a,rr st,rr h,rr b,rr c,rr t,v6,v7]∧H5=L2.upd H4 (ad x) (.nR o (.dT dk))∧ys.length≤i∧Paired (j8 (L2.upd H4 (ad x) (.nR o (.dT dk)))) ys (((sf x).take i).filter fun y=>y∉S))
     ⟨none,rfl,rfl,TU _,.nil⟩ (by rintro _ _ _ _ ⟨_,_,e,e4,_⟩;subst e;exact⟨b_,e4⟩) ?_ ?_
    ·rintro i k v tb ys σ H5 hi U1 ⟨v7,rfl,rfl,e4,e5⟩
     obtain⟨y,hy,rfl⟩:=CW hd2 hi
     refine⟨_,rfl,_,rfl,h,_,rfl,js.t (k:=nk y) (U0 Q5.symm e1) U1,_,rfl,?_⟩
     rw[keys_has e2 y,take_snoc hy,aaD]
     by_cases hm:y∈S
     ·rw[UN hm]
      refine jC ⟨_,rfl,rfl,by omega,?_⟩
      rw[aae (by simpa using hm),aa6,aaF]
      exact e5
     ·rw[aab hm]
      refine nM ⟨_,rfl,_,rfl,rfl,M_,?_⟩
      rw[Z8 (by simpa using hm),aa6]
      exact ij e5 ⟨tb,rfl,U1⟩
    ·rintro ys σ H5 ⟨v7,rfl,rfl,e4,e5⟩ p hp
     rw[rC hd2,aan] at e5
     have QZ:p≠ad x:=fun z=>by rw[z,b_] at hp;cases hp
     have Lk:H4 p=none:=by rw[d_ QZ] at hp;exact hp
     refine⟨ad x,o,_,by rw[d_ QZ.symm];exact b_,uz,?_⟩
     rw[EY UZ QZ]
     have pm:Paired (j8 H4) ys (Cw sf S x):=Paired.jK e5 fun v y ⟨tb,e,z⟩=>⟨tb,e,by
      have:tb≠ad x:=fun w=>by rw[w,b_] at z;cases z
      rwa [d_ this] at z⟩
     have s7:gc H4 (L2.upd H4 p (.lst ys)):=(gc.refl H4).new Lk
     have I_:ys.length=(Cw sf S x).length:=aad pm
     refine⟨_,rfl,!ys.isEmpty,.inl ⟨_,ib.of b_,rfl⟩,?_⟩
     rcases LY with⟨_,Ss,r⟩|⟨_,Ss,r⟩
     ·
      have:ys=[]:=aaK.mp (by rw[I_,Ss];rfl)
      subst this
      refine jC ?_
      have GF:=AR.mp Ss
      refine⟨_,rfl,_,rfl,st,.ref (ad x),rfl,?_,_,rfl,ad x,h,sf x,kvs,af,rfl,⟨dk,s7 _ _ UZ,hd2⟩,Q5,s7 _ _ e1,fun y hy=>?_,Q2 x,fun y hy=>?_,fun p2 H6 rs s8 zx U2 nd2 hm2=>?_⟩
      ·have:=js.t (k:=nk x) (s7 _ _ (s6 _ _ Q0)) (s7 _ _ OT)
       rw[Q1 x Sr] at this
       exact this
      ·obtain⟨bb,z1,z2,z3,N5,z4,z5⟩:=e3 y (GF y hy)
       exact⟨bb,z1,(f_ UY z3).symm,N5,s7 _ _ z4,z5⟩
      ·obtain⟨z1,z2,z3⟩:=good y (GF y hy)
       have:=len_sub (ys:=ls.map (·.nm)) z2 fun m hm=>(cl.ah ((z3 m).mp hm)).1
       rw[QR] at this;omega
      ·have s9:=s7.trans s8
       have hSl:S.length≤4000:=by
        have:=len_sub (ys:=ls.map (·.nm)) N9 fun m hm=>(good m hm).1
        rw[QR] at this;omega
       have e6:H6 h=some (.dT kvs):=s9 _ _ e1
       refine⟨_,rfl,_,rfl,h,_,rfl,mY.t (k:=nk x) e6 (s9 _ _ OT) (by rw[rC e2];omega),?_⟩
       have Q6:p2≠h:=(f_ (s7 _ _ e1) zx).symm
       have U3:H1 p2=none:=(s6.trans s7).free zx
       have key:putK kvs (nk x) (V.ref p2)=kvs++[(nk x,V.ref p2)]:=Ck _ (CU (by rw[e2];exact fun z=>OV (rA.mp z)))
       have hhT:H1 h=none:=hh
       refine⟨_,_,sk,S++[x],fun y=>if y=x then rs else af y,GR,rfl,r,(s6.trans s9).upd hhT,?_,?_,⟨⟨_,b_,?_,fun y hy=>?_⟩,?_,fun y hy=>?_⟩,Q4,?_,fun y hy=>aaf _ (hS y hy)⟩
       ·rw[d_ (jc (s9 _ _ OU) e6 (fun z=>by cases z))];exact s9 _ _ OU
       ·exact Paired.jK p4 fun _ _ z=>(z.same s9).upd e6 (fun _ z=>by cases z)
       ·rw[key,aam,e2,aam];rfl
       ·show ∃bb,iU (putK kvs (nk x) (V.ref p2)) (nk y)=some (V.ref bb)∧bb≠h∧H1 bb=none∧zi _ bb (if y=x then rs else af y)
        rw[j0]
        by_cases e:y=x
        ·subst e
         rw[aak rfl,aak rfl]
         obtain⟨N5,w1,w2⟩:=U2
         exact⟨p2,rfl,Q6,U3,N5,by rw[d_ Q6];exact w1,w2⟩
        ·rw[aai (fun z=>e (oA z)),aai e]
         have hyS:y∈S:=(WL.mp hy).elim id fun z=>absurd (TN.mp z) e
         obtain⟨bb,z1,z2,z3,N5,z4,z5⟩:=e3 y hyS
         exact⟨bb,z1,z2,z3,N5,by rw[d_ z2];exact s9 _ _ z4,z5⟩
       ·rw[aa1]
        exact⟨N9,by simp,fun u hu w hw z=>OV (by rw[TN.mp hw] at z;have z:u=x:=z;exact z▸hu)⟩
       ·show y∈ls.map (·.nm)∧(if y=x then rs else af y).Nodup∧∀m,m∈(if y=x then rs else af y)↔Ah ls m y
        by_cases e:y=x
        ·subst e
         rw[aak rfl]
         refine⟨Sr,nd2,fun m=>?_⟩
         rw[hm2 m,Ah.last]
         constructor
         ·rintro⟨u,hu,z⟩
          have So:=((N7 y).2 u).mp hu
          rcases z with z|z
          ·exact .inl (z▸So)
          ·exact .inr ⟨u,((good u (GF u hu)).2.2 m).mp z,So⟩
         ·rintro(z|⟨u,z1,z2⟩)
          ·exact⟨m,((N7 y).2 m).mpr z,.inl rfl⟩
          ·have hu:=((N7 y).2 u).mpr z2
           exact⟨u,hu,.inr (((good u (GF u hu)).2.2 m).mpr z1)⟩
        ·rw[aai e]
         exact good y ((WL.mp hy).elim id fun z=>absurd (TN.mp z) e)
       ·exact IT.elim (fun z=>(WK.mp z).elim (fun z=>.inr (by rw[z];simp)) .inl) fun z=>.inr (aaf _ z)
     ·
      have B2:(!ys.isEmpty)=true:=by
       cases ys with
       | nil=>exact absurd (aaK.mp I_.symm) Ss
       | cons _ _=>rfl
      refine EZ B2 ?_
      have EA:=E6 r
      rw[TZ,abf,WJ] at EA
      have Su:=s7 _ _ OU
      refine⟨_,rfl,.inl ⟨rfl,_,ib.of Su⟩,_,rfl,c,_,_,rfl,rfl,Su,by omega,?_⟩
      have hpc:p≠c:=(f_ OU Lk).symm
      refine⟨_,rfl,.inl ⟨rfl,_,ib.of b_⟩,_,rfl,c,p,_,_,rfl,rfl,b_,by rw[d_ hpc];exact b_,by rw[TZ];show GR.length+1+ys.length≤_;omega,?_⟩
      refine⟨_,_,(Cw sf S x).reverse++x::sk,S,af,_,rfl,r,((s6.trans s7).upd UU).upd UU,b_,?_,((D4.same s7).lst Su).lst b_,fun y hy=>?_,?_,hS⟩
      ·rw[List.reverse_append,List.reverse_reverse,acb]
       refine Paired.jK (F:=j8 (L2.upd H4 p (.lst ys))) (sZ (ij (Paired.jK p4 fun _ _ z=>z.same s7) ⟨t,rfl,s7 _ _ OT⟩) (Paired.jK pm fun _ _ z=>z.same s7)) fun _ _ z=>?_
       exact(z.upd Su (fun _ z=>by cases z)).upd b_ (fun _ z=>by cases z)
      ·rcases WL.mp hy with hy|hy
       ·have hy:=(aaj.mp (List.mem_reverse.mp hy)).1
        exact(cl.sa (((N7 x).2 y).mp hy)).1
       ·exact UX y hy
      ·exact IT.elim (fun z=>.inl (aay _ z)) .inr
 ·rintro σ H2 ⟨v3,v4,v5,v6,S,af,rfl,s3,⟨⟨kvs,e1,e2,e3⟩,N9,good⟩,hS⟩
  rw[QR,hlen,aan] at hS
  refine⟨_,rfl,q h _ (s1.trans s3) (s1.free hh) ⟨kvs,e1,fun n hn=>?_⟩⟩
  obtain⟨l,hl,rfl⟩:=aaw.mp hn
  obtain⟨bb,z1,z2,z3,dk,z4,z5⟩:=e3 _ (hS l hl)
  exact⟨bb,dk,z1,z4,fun m=>by rw[rP,z5,rA];exact(good _ (hS l hl)).2.2 m⟩
theorem Ie{κ:Type}[DecidableEq κ]:∀{kvs:List (κ×V)} {i:Nat} {k:κ} {v:V},(kvs.map (·.1)).Nodup→kvs[i]?=some (k,v)→iU kvs k=some v
 | [],_,_,_,_,h=>by simp at h
 | p::r,i,k,v,nd,h=>by
  rw[aaq,aaT] at nd
  cases i with
  | zero=>simp at h;subst h;exact jf rfl
  | succ i=>
   have h:r[i]?=some (k,v):=by simpa using h
   have hm:k∈r.map (·.1):=aaw.mpr ⟨_,UK h,rfl⟩
   rw[jb (fun z=>nd.1 (by rw[z];exact hm))]
   exact Ie nd.2 h
theorem Ig{κ:Type}[DecidableEq κ](kvs:List (κ×V))(k j:κ)(h:j≠k):iU (kF kvs k) j=iU kvs j:=by
 induction kvs with
 | nil=>rfl
 | cons p r ih=>
  by_cases e:p.1=k
  ·rw[zN e,ih,jb (fun z=>h (z.symm.trans e))]
  ·rw[zO e]
   by_cases e2:p.1=j
   ·rw[jf e2,jf e2]
   ·rw[jb e2,jb e2,ih]
theorem Ge{kvs:List (List Key×V)}{rem:List Ln}{n:Nm}(h:kvs.map (·.1)=rem.map fun l=>nk l.nm):(kF kvs (nk n)).map (·.1)=(rem.filter fun o=>o.nm≠n).map fun l=>nk l.nm:=by
 induction kvs generalizing rem with
 | nil=>cases rem with|nil=>rfl|cons _ _=>cases h
 | cons p r ih=>
  cases rem with
  | nil=>cases h
  | cons x t=>
   rw[aaq,aaq] at h
   injection h with h1 h2
   by_cases e:x.nm=n
   ·rw[zN (by rw[h1,e]),aae (by simpa using e)]
    exact ih h2
   ·rw[zO (fun z=>e (oA (h1.symm.trans z))),Z8 (by simpa using e),aaq,aaq,ih h2,h1]
structure Wait(kw:List (List Key×V))(rem:List Ln)(f:Ln→Nat):Prop where
 keys:kw.map (·.1)=rem.map fun l=>nk l.nm
 val:∀o∈rem,iU kw (nk o.nm)=some (.int (f o:Nat))
theorem Wait.len{kw:List (List Key×V)}{rem:List Ln}{f:Ln→Nat}(w:Wait kw rem f):kw.length=rem.length:=by
 have:=aaQ List.length w.keys
 rwa [QR,QR] at this
theorem Nc{rem:List Ln}:(rem.map fun l=>nk l.nm)=(rem.map (·.nm)).map nk:=by rw[List.map_map];rfl
theorem P4{xs:List Nm}(h:xs.Nodup):(xs.map nk).Nodup:=by
 induction xs with
 | nil=>exact abi
 | cons x r ih=>
  rw[aaT] at h
  rw[aaq,aaT]
  exact⟨fun z=>h.1 (rA.mp z),ih h.2⟩
theorem Wait.nd{kw:List (List Key×V)}{rem:List Ln}{f:Ln→Nat}(w:Wait kw rem f)(h:(rem.map (·.nm)).Nodup):(kw.map (·.1)).Nodup:=by rw[w.keys,Nc];exact P4 h
theorem Wait.get{kw:List (List Key×V)}{rem:List Ln}{f:Ln→Nat}(w:Wait kw rem f)(h:(rem.map (·.nm)).Nodup){i:Nat}{k:List Key}{v:V}(hi:kw[i]?=some (k,v)):∃o,rem[i]?=some o∧k=nk o.nm∧v=.int (f o:Nat):=by
 have h1:(kw.map (·.1))[i]?=some k:=by rw[ZZ,hi];rfl
 rw[w.keys,ZZ] at h1
 obtain⟨o,e,e2⟩:=Option.map_eq_some_iff.mp h1
 refine⟨o,e,e2.symm,?_⟩
 have h2:=Ie (w.nd h) hi
 rw[←e2,w.val o (UK e)] at h2
 exact(aao h2).symm
def T4:Sp:=fun vs H Q _=>∃(d:Addr)(kw:List (List Key×V))(rem:List Ln)(f:Ln→Nat)(l:Ln),vs=[.ref d]∧H d=some (.dT kw)∧Wait kw rem f∧(rem.map (·.nm)).Nodup∧rem.find? (fun o=>f o ==0)=some l∧∀t,H t=some (nT l.nm)→Q (.ref t) H
theorem zj(T:Txt mg)(O:Ok K mg A):iz P w K mg base mB 1 A.ue A.uf ["waiting"] T4:=by
 refine O.ym.f.qJ se fun jw A0 outer s H vs Q E hr h=>?_
 obtain⟨d,kw,rem,f,l,rfl,hd,W,nd,hf,q⟩:=h
 refine⟨_,(de (AL (iQ aav rfl (xS (pv 0)) (uN 1 se) (fV (iy (iq qi (B1 hr (pv 0) (pv 1)) fY (iS _)) (fV (h_ (pv 1))) hV))))
   (fV (h_ k9))),?_⟩
 refine Kc ?_;intro _
 refine⟨_,rfl,d,kw,rfl,hd,fun o uz=>?_⟩
 let Jv:=fun(i:Nat) (σ:St) (H2:Hp)=>∃(v:Option V),σ=[rr d,v]∧H2=L2.upd H d (.nR o (.dT kw))∧(rem.drop i).find? (fun o=>f o ==0)=some l
 refine zU (d:=d) (o:=o) (kvs:=kw) Jv ⟨none,rfl,rfl,hf⟩ (by rintro _ _ _ ⟨_,_,e,_⟩;subst e;exact b_) ?_ ?_
 ·rintro i k v t σ H2 hi ht ⟨v0,rfl,rfl,h1⟩
  obtain⟨x,hx,rfl,rfl⟩:=W.get nd hi
  have kr:i<rem.length:=(List.getElem?_eq_some_iff.mp hx).1
  have Sv:rem.drop i=x::rem.drop (i+1):=by rw[aaS kr];congr 1;exact(List.getElem?_eq_some_iff.mp hx).2
  rw[Sv] at h1
  refine⟨_,rfl,_,rfl,d,_,rfl,.inr ⟨kw,nk x.nm,t,.inr ⟨o,b_⟩,rfl,ht,(W.val x (UK hx)).symm⟩,rfl,_,rfl,?_⟩
  refine l_ (fun h=>?_) (fun h=>?_)
  ·have h:f x=0:=by have:=V.int.inj (aau h);omega
   rw[List.find?_cons_of_pos (by simpa using h)] at h1
   cases h1
   refine⟨_,rfl,d,o,_,b_,uz,?_⟩
   rw[FL hd]
   exact q t (by
    have:t≠d:=fun z=>by rw[z,b_] at ht;cases ht
    rwa [d_ this] at ht)
  ·have h:¬f x=0:=fun z=>h (UN (by rw[z];rfl))
   rw[List.find?_cons_of_neg (by simpa using h)] at h1
   exact⟨_,rfl,rfl,h1⟩
 ·rintro σ H2 ⟨v0,rfl,rfl,h1⟩
  rw[W.len,acg] at h1
  cases h1
end
section
open Classical
noncomputable def nP(lt:Nm→Nm→Prop)(rem:List Ln)(l:Ln):Nat:=(rem.filter fun o=>decide (lt o.nm l.nm)).length
theorem Ih(lt:Nm→Nm→Prop)(rem:List Ln):(fun o=>nP lt rem o ==0)=free lt rem:=by
 funext o
 unfold nP free
 rw[abj,abR,aaK,List.filter_eq_nil_iff,aa2]
 exact⟨fun h x hx=>by simpa using h x hx,fun h x hx=>by simpa using h x hx⟩
theorem Ii{lt:Nm→Nm→Prop}{rem:List Ln}(nd:(rem.map (·.nm)).Nodup){l:Ln}(hl:l∈rem)(o:Ln):nP lt rem o=nP lt (rem.filter fun x=>x.nm≠l.nm) o+if lt l.nm o.nm then 1 else 0:=by
 unfold nP
 induction rem with
 | nil=>cases hl
 | cons x r ih=>
  rw[aaq,aaT] at nd
  rcases WK.mp hl with rfl|hl
  ·have e:r.filter (fun x=>decide (x.nm≠l.nm))=r:=List.filter_eq_self.mpr fun y hy=>UN fun z=>nd.1 (z▸T1 hy)
   rw[aae (p:=fun x:Ln=>decide (x.nm≠l.nm)) (by simp),e]
   by_cases h:lt l.nm o.nm
   ·rw[Z8 (by simpa using h),aak h,WJ]
   ·rw[aae (by simpa using h),aai h,Nat.add_zero]
  ·have hx:x.nm≠l.nm:=fun z=>nd.1 (z▸T1 hl)
   rw[Z8 (p:=fun x:Ln=>decide (x.nm≠l.nm)) (by simpa using hx)]
   by_cases h:lt x.nm o.nm
   ·rw[Z8 (by simpa using h),Z8 (by simpa using h),WJ,WJ,ih nd.2 hl];omega
   ·rw[aae (by simpa using h),aae (by simpa using h),ih nd.2 hl]
end
theorem Ij{lt:Nm→Nm→Prop}{n:Nat}{rem:List Ln}{l:Ln}(h:rem.find? (free lt rem)=some l):ql lt (n+1) rem=l::ql lt n (rem.filter fun o=>o.nm≠l.nm):=by
 rw[ql,h]
section
variable{P:Program}{w:World}{K:Qqy}{mg:Qqx}{base:Heap}{A:Ad}
def P5(A:Ad):Sp:=fun vs H Q _=>∃(a h:Addr)(ls al:List Ln),vs=[.ref a,.ref h]∧pY A H a ls∧Bh H h al∧yt ls.length∧(ls.map (·.nm)).Nodup∧(∀l∈ls,l.nm∈al.map (·.nm))∧HM al∧
 ∀p H',gc H H'→H p=none→pY A H' p (rowOf (Ah al) ls)→Q (.ref p) H'
theorem Gf(T:Txt mg)(O:Ok K mg A):iz P w K mg base mB 2 A.CL A.CM ["lines","ahead"] (P5 A):=by
 have BF:=@zj P w K mg base A T O
 refine O.HZ.f.qJ kY fun jw A0 outer s H vs Q E hr h=>?_
 obtain⟨a,h,ls,al,rfl,⟨as,ha,pa⟩,⟨kh,Q7,Xu⟩,kq,nd,zz,tp,q⟩:=h
 have hlen:=aad pa
 have Dm:ls.length≤4000:=kq
 have sz:sizeLine=16777216:=aaA
 have tpl:∃rk:Nm→Nat,∀m n,Ah al m n→rk m<rk n:=by obtain⟨rk,r⟩:=tp;exact⟨rk,fun m n z=>r.ah z⟩
 refine⟨_,(de (l6 2 kY l9)
   (de (l6 3 kY l9)
   (de (iQ aav rfl (iD (pv 0)) (iJ (i:=4) kY.nd rfl (Or.inr rfl)) (de (jB (by exact ja hr) (pv 2) (g_ (pv 4) rfl) (pv 4) rfl)
   (fV (jB (by exact ja hr) (pv 3) (g_ (pv 4) rfl) (hE gg (by rfl) T.jG aas (a_ (AJ CB (fW tY).names [7] rfl (iD (pv 0)) rfl (by decide+kernel) (fun _ _ _ _=>(iJ (i:=7) kY.nd rfl (Or.inl rfl))) (fun _ _ _ _=>⟨_,pB (jq (qG (by exact ja hr) (g_ (pv 7) rfl) (B1 hr (pv 1) (g_ (pv 4) rfl)))),by(try simp only [lg]);rfl⟩) (fun _ _ _ _=>zV (pv 7))) e_)) rfl))))
   (de (l6 5 kY (iX e_))
   (de (Ca aav (FT (pv 3) (fun _=>rfl)) (de (l6 6 kY (pk O.ym BF hr (a_ (pv 3) e_)))
   (de (ip (HI (by exact ja hr) (pv 3) (pv 6) ⟨rfl,rfl,rfl,rfl⟩))
   (de (ip (mW aaB aaI aaJ jx (pv 5) (a_ (B1 hr (pv 2) (pv 6)) e_)))
   (fV (iQ aav rfl (iD (uT (wQ rfl) (by rfl) T.sR abp (a_ (pv 3) e_))) (uN 7 kY) (fV (iy (jq (qG (by exact ja hr) (pv 6) (B1 hr (pv 1) (pv 7)))) (fV (jB (by exact ja hr) (pv 3) (pv 7) (hX uP (B1 hr (pv 3) (pv 7)) fY) rfl)) hV))))))))
   (fV (h_ (pv 5)))))))),?_⟩
 refine RY ?_;intro _ _ _ _ _
 intro bn Q8 wt Sw
 have s1:gc H (L2.upd (L2.upd H bn (.dT [])) wt (.dT [])):=((gc.refl H).new Q8).new Sw
 have N_:H wt=none:=((gc.refl H).new (o:=.dT []) Q8).free Sw
 have Q9:bn≠wt:=fun z=>by rw[z,b_] at Sw;cases Sw
 dsimp only [oJ];refine MP ?_;intro _
 let Jv:=fun(i:Nat) (σ:St) (H2:Hp)=>∃(v4:Option V)(kb kw:List (List Key×V)),σ=[rr a,rr h,rr bn,rr wt,v4,none,none,none]∧gc H H2∧H2 bn=some (.dT kb)∧H2 wt=some (.dT kw)∧kb.length≤i∧(∀l∈ls.take i,∃b,iU kb (nk l.nm)=some (.ref b)∧my A H b l)∧Wait kw (ls.take i) (nP (Ah al) ls)
 refine⟨_,rfl,a,rfl,⟨_,ib.of (s1 _ _ ha)⟩,jz (K:=K) (a:=a) (xs:=as.map V.ref) Jv
  ⟨none,[],[],rfl,s1,by rw[d_ Q9];exact b_,b_,TU _,(fun l hl=>by rw[abO] at hl;cases hl),⟨rfl,(fun l hl=>by rw[abO] at hl;cases hl)⟩⟩ (by rintro _ _ _ _ ⟨_,_,_,_,s3,_⟩;exact ib.of (s3 _ _ ha)) ?_ ?_⟩
 ·rintro i v σ H2 hx ⟨v4,kb,kw,rfl,s3,h1,h2,h3,h4,W⟩
  obtain⟨b,hb,rfl⟩:=jZ hx
  obtain⟨l,hl,dx,vn,vu,vl,g1,⟨t,rfl,g2⟩,g3,g4⟩:=ie pa hb
  have hlm:l∈ls:=UK hl
  have hi:i<ls.length:=(List.getElem?_eq_some_iff.mp hl).1
  have yK:∀x∈ls.take i,x.nm≠l.nm:=fun x hx z=>by
   obtain⟨j,hj⟩:=aaH.mp hx
   have Li:j<i:=by have:=(List.getElem?_eq_some_iff.mp hj).1;rw[aaG] at this;omega
   rw[List.getElem?_take,aak Li] at hj
   have e1:(ls.map (·.nm))[j]?=some l.nm:=by rw[ZZ,hj,←z];rfl
   have e2:(ls.map (·.nm))[i]?=some l.nm:=by rw[ZZ,hl];rfl
   have:=(List.getElem?_inj (List.getElem?_eq_some_iff.mp e1).1 nd).mp (e1.trans e2.symm)
   omega
  obtain⟨bb,dk,z1,z2,z3⟩:=Xu l.nm (zz l hlm)
  have UI:=jk kb (nk l.nm) (V.ref b)
  refine⟨_,rfl,_,rfl,_,rfl,b,A.hU,dx,_,_,rfl,s3 _ _ g1,O.iH,O.hZ,i4,bn,_,rfl,mY.t (k:=nk l.nm) h1 (s3 _ _ g2) (by omega),?_⟩
  have s4:gc H (L2.upd H2 bn (.dT (putK kb (nk l.nm) (V.ref b)))):=s3.upd Q8
  have Lc:L2.upd H2 bn (.dT (putK kb (nk l.nm) (V.ref b))) bn=some (.dT (putK kb (nk l.nm) (V.ref b))):=b_
  have Xv:L2.upd H2 bn (.dT (putK kb (nk l.nm) (V.ref b))) wt=some (.dT kw):=by rw[d_ Q9.symm];exact h2
  generalize L2.upd H2 bn (.dT (putK kb (nk l.nm) (V.ref b)))=H3 at s4 Lc Xv ⊢
  refine⟨_,rfl,a,rfl,⟨_,ib.of (s4 _ _ ha)⟩,jU (K:=K) (a:=a) (xs:=as.map V.ref) (by rw[QR,hlen];omega) (fun j ys σ H4=>∃v7:Option V,σ=[rr a,rr h,rr bn,rr wt,rr b,none,none,v7]∧H4=H3∧ys.length=nP (Ah al) (ls.take j) l)
   ⟨none,rfl,rfl,rfl⟩ (by rintro _ _ _ _ _ ⟨_,_,e,e2⟩;subst e;exact⟨ib.of (s4 _ _ ha),by rw[e2];unfold nP;exact aac (aaU _ _) (by rw[aaG];omega)⟩) ?_ ?_⟩
  ·rintro j v ys σ H4 hx ⟨v7,rfl,rfl,e2⟩
   obtain⟨b2,Oa,rfl⟩:=jZ hx
   obtain⟨l2,IP,dx2,vn2,vu2,vl2,k1,⟨t2,rfl,k2⟩,k3,k4⟩:=ie pa Oa
   refine⟨_,rfl,b2,A.hU,dx2,_,_,rfl,s4 _ _ k1,O.iH,O.hZ,i4,_,rfl,_,rfl,b,A.hU,dx,_,_,rfl,s4 _ _ g1,O.iH,O.hZ,i4,h,.ref bb,rfl,?_,bb,_,rfl,js.t (k:=nk l2.nm) (s4 _ _ z2) (s4 _ _ k2),_,rfl,?_⟩
   ·have:=js.t (k:=nk l.nm) (s4 _ _ Q7) (s4 _ _ g2)
    rw[z1] at this
    exact this
   ·unfold nP at e2 ⊢
    rw[take_snoc IP,aaD,TZ]
    by_cases hm:Ah al l2.nm l.nm
    ·rw[(z3 l2.nm).mpr hm]
     refine nM ⟨_,rfl,_,rfl,rfl,?_⟩
     rw[Z8 (by simpa using hm),aa6,TZ,e2];rfl
    ·rw[abF.mpr fun z=>hm ((z3 l2.nm).mp z)]
     refine jC ⟨_,rfl,rfl,?_⟩
     rw[aae (by simpa using hm),aa6,e2];rfl
  ·rintro ys σ H4 ⟨v7,rfl,rfl,e2⟩ p hp
   rw[QR,hlen,aan] at e2
   have s5:=s4.new (o:=.lst ys) hp
   have LQ:=W.len
   rw[aaG] at LQ
   refine⟨p,_,rfl,.inl (ib.of b_),_,rfl,_,rfl,b,A.hU,dx,_,_,rfl,s5 _ _ g1,O.iH,O.hZ,i4,wt,_,rfl,mY.t (k:=nk l.nm) (il hp Xv) (s5 _ _ g2) (by omega),?_⟩
   refine⟨_,_,_,rfl,s5.upd N_,by rw[d_ Q9];exact il hp Lc,b_,by omega,fun x hx=>?_,⟨?_,fun x hx=>?_⟩⟩
   ·rw[take_snoc hl] at hx
    rcases WL.mp hx with hx|hx
    ·obtain⟨c,c1,c2⟩:=h4 x hx
     exact⟨c,by rw[j0,aai (fun z=>yK x hx (oA z))];exact c1,c2⟩
    ·rw[TN.mp hx]
     exact⟨b,by rw[j0,aak rfl],dx,_,vu,vl,g1,⟨t,rfl,g2⟩,g3,g4⟩
   ·rw[pe,W.keys,take_snoc hl,aam]
    exact aai fun z=>by
     obtain⟨x,hx,e⟩:=aaw.mp z
     exact yK x hx (oA e)
   ·rw[take_snoc hl] at hx
    rw[j0]
    rcases WL.mp hx with hx|hx
    ·rw[aai (fun z=>yK x hx (oA z))];exact W.val x hx
    ·rw[TN.mp hx,aak rfl,e2]
 ·rintro σ H2 ⟨v4,kb,kw,rfl,s3,h1,h2,h3,h4,W⟩
  have el:(as.map V.ref).length=ls.length:=by rw[QR];exact hlen
  rw[el,aan] at h4 W
  refine⟨L2.kq,fun r qB=>?_⟩
  have Xw:H r=none:=s3.free qB
  have hrb:bn≠r:=f_ h1 qB
  have U4:wt≠r:=f_ h2 qB
  obtain⟨rk,IX⟩:=tpl
  refine⟨fun m σ H3=>∃(v6 v7:Option V)(kw:List (List Key×V))(rem row:List Ln)(rs:List Addr),m=rem.length∧σ=[rr a,rr h,rr bn,rr wt,v4,rr r,v6,v7]∧gc H H3∧H3 bn=some (.dT kb)∧H3 wt=some (.dT kw)∧H3 r=some (.lst (rs.map V.ref))∧Paired (my A H) rs row∧Wait kw rem (nP (Ah al) rem)∧rem.Sublist ls∧row.length+rem.length=ls.length∧row++ql (Ah al) rem.length rem=rowOf (Ah al) ls,
   ⟨ls.length,none,none,kw,ls,[],[],rfl,rfl,s3.new qB,il qB h1,il qB h2,b_,.nil,W,aaz _,by simp,rfl⟩,?_⟩
  rintro m σ H3 ⟨v6,v7,kw,rem,row,rs,rfl,rfl,s4,b1,w1,r1,pr,W,sub,hsum,uJ⟩
  have Sx:(rem.map (·.nm)).Nodup:=(sub.map _).nodup nd
  refine⟨_,rfl,wt,kw,rfl,w1,?_⟩
  have LQ:=W.len
  cases rem with
  | nil=>
   have:kw=[]:=aaK.mp LQ
   subst this
   refine jC ⟨_,rfl,q r _ s4 Xw ⟨rs,r1,?_⟩⟩
   rw[show ql (Ah al) ([]:List Ln).length []=[] from rfl,aaF] at uJ
   rw[←uJ]
   exact Paired.jK pr fun _ _ z=>z.same s4
  | cons x0 U5=>
   generalize U6:x0::U5=rem at *
   have qz:rem≠[]:=by rw[←U6];exact fun z=>by cases z
   obtain⟨l,Ja⟩:=qK (lt:=Ah al) IX rem qz
   have Ob:l∈rem:=List.mem_of_find?_eq_some Ja
   have Xx:l∈ls:=sub.subset Ob
   have LZ:=lN Sx Ob
   refine EZ (by cases kw with|nil=>exact absurd (aaK.mp LQ.symm) qz|cons _ _=>rfl) ?_
   refine⟨fun σ H4=>∃(v6 v7:Option V)(kw:List (List Key×V))(lI row:List Ln)(rs:List Addr),lI.length<rem.length∧σ=[rr a,rr h,rr bn,rr wt,v4,rr r,v6,v7]∧gc H H4∧H4 bn=some (.dT kb)∧H4 wt=some (.dT kw)∧H4 r=some (.lst (rs.map V.ref))∧Paired (my A H) rs row∧Wait kw lI (nP (Ah al) lI)∧lI.Sublist ls∧row.length+lI.length=ls.length∧row++ql (Ah al) lI.length lI=rowOf (Ah al) ls,
    fun σ' H' ⟨u6,u7,Q_,lI,GH,rs2,kr,z⟩=>⟨lI.length,kr,u6,u7,Q_,lI,GH,rs2,rfl,z⟩,?_⟩
   refine⟨_,rfl,wt,kw,rem,nP (Ah al) rem,l,rfl,w1,W,Sx,by rw[Ih];exact Ja,fun t ht=>?_⟩
   have EB:=W.val l Ob
   refine⟨_,rfl,wt,rfl,.inr ⟨_,.inl w1⟩,_,rfl,t,kw,nk l.nm,_,rfl,w1,ht,EB,?_⟩
   have s5:gc H (L2.upd H3 wt (.dT (kF kw (nk l.nm)))):=s4.upd N_
   have b2:L2.upd H3 wt (.dT (kF kw (nk l.nm))) bn=some (.dT kb):=by rw[d_ Q9];exact b1
   have r2:L2.upd H3 wt (.dT (kF kw (nk l.nm))) r=some (.lst (rs.map V.ref)):=by rw[d_ U4.symm];exact r1
   have t2:L2.upd H3 wt (.dT (kF kw (nk l.nm))) t=some (nT l.nm):=by rw[d_ (jc ht w1 (fun z=>by cases z))];exact ht
   have w2:L2.upd H3 wt (.dT (kF kw (nk l.nm))) wt=some (.dT (kF kw (nk l.nm))):=b_
   have W2:Wait (kF kw (nk l.nm)) (rem.filter fun o=>o.nm≠l.nm) (nP (Ah al) rem):=⟨Ge W.keys,fun o ho=>by
    have p8:=aaj.mp ho
    rw[Ig _ _ _ (fun z=>by have:=oA z;simpa[this] using p8.2)]
    exact W.val o p8.1⟩
   generalize L2.upd H3 wt (.dT (kF kw (nk l.nm)))=H4 at s5 b2 r2 t2 w2 ⊢
   generalize kF kw (nk l.nm)=Q_ at w2 W2
   obtain⟨bl,LS,hLn⟩:=h4 l Xx
   have U7:=aad pr
   refine⟨_,rfl,.inl ⟨rfl,_,ib.of r2⟩,_,rfl,_,rfl,bn,.ref bl,rfl,?_,r,_,_,rfl,rfl,r2,by rw[QR,U7];omega,?_⟩
   ·have:=js.t (k:=nk l.nm) b2 t2
    rw[LS] at this
    exact this
   have s6:gc H (L2.upd H4 r (.lst (rs.map V.ref++[V.ref bl]))):=s5.upd Xw
   have b3:L2.upd H4 r (.lst (rs.map V.ref++[V.ref bl])) bn=some (.dT kb):=by rw[d_ hrb];exact b2
   have w3:L2.upd H4 r (.lst (rs.map V.ref++[V.ref bl])) wt=some (.dT Q_):=by rw[d_ U4];exact w2
   have t3:L2.upd H4 r (.lst (rs.map V.ref++[V.ref bl])) t=some (nT l.nm):=by rw[d_ (jc t2 r2 (fun z=>by cases z))];exact t2
   have r3:L2.upd H4 r (.lst (rs.map V.ref++[V.ref bl])) r=some (.lst ((rs++[bl]).map V.ref)):=by rw[b_,aam];rfl
   generalize L2.upd H4 r (.lst (rs.map V.ref++[V.ref bl]))=H5 at s6 b3 w3 t3 r3 ⊢
   have Fj:(rem.filter fun o=>o.nm≠l.nm).Sublist rem:=aaW
   generalize hR:(rem.filter fun o=>decide (o.nm≠l.nm))=lI at W2 Fj LZ
   have Ra:(lI.map (·.nm)).Nodup:=(Fj.map _).nodup Sx
   refine⟨_,rfl,wt,Q_,rfl,w3,fun p bs hp Xy=>?_⟩
   have s7:=s6.new (o:=.lst (bs.map V.ref)) hp
   have U8:=aad Xy
   have U2:=W2.len
   let Jv:=fun(j:Nat) (σ:St) (H6:Hp)=>∃(v7:Option V)(Jb:List (List Key×V)),σ=[rr a,rr h,rr bn,rr wt,v4,rr r,rr t,v7]∧gc H H6∧H6 bn=some (.dT kb)∧H6 wt=some (.dT Jb)∧H6 t=some (nT l.nm)∧H6 r=some (.lst ((rs++[bl]).map V.ref))∧H6 p=some (.lst (bs.map V.ref))∧(∀b∈bs,∀xs,H5 b=some (.tup xs)→H6 b=some (.tup xs))∧Jb.map (·.1)=lI.map (fun l=>nk l.nm)∧∀(i:Nat)(o:Ln),lI[i]?=some o→iU Jb (nk o.nm)=some (.int ((if i<j then nP (Ah al) lI o else nP (Ah al) rem o:Nat):Int))
   refine⟨p,rfl,⟨_,ib.of b_⟩,jz (K:=K) (a:=p) (xs:=bs.map V.ref) Jv
    ⟨v7,Q_,rfl,s7,il hp b3,il hp w3,il hp t3,il hp r3,b_,fun b _ xs e=>il hp e,W2.keys,fun i o ho=>by rw[aai (by omega)];exact W2.val o (UK ho)⟩ (by rintro _ _ _ _ ⟨_,_,_,_,_,_,_,_,e,_⟩;exact ib.of e) ?_ ?_⟩
   ·rintro j v σ H6 hx ⟨v7,Jb,rfl,s8,b4,w4,t4,r4,p4,Ll,Aq,Jc⟩
    obtain⟨c,hc,rfl⟩:=jZ hx
    obtain⟨⟨k,v⟩,hkv,U9⟩:=kj Xy hc
    obtain⟨o,ho,rfl,rfl⟩:=W2.get Ra hkv
    have Oc:o∈rem:=Fj.subset (UK ho)
    have U_:H6 c=some (nT o.nm):=Ll c (UK hc) _ U9
    obtain⟨bb,dk,z1,z2,z3⟩:=Xu o.nm (zz o (sub.subset Oc))
    have An:=Ii (lt:=Ah al) Sx Ob o
    have Xz:∀(Rb:List (List Key×V)),Rb.map (·.1)=lI.map (fun l=>nk l.nm)→(∀x∈lI,x.nm≠o.nm→iU Rb (nk x.nm)=iU Jb (nk x.nm))→iU Rb (nk o.nm)=some (.int ((nP (Ah al) lI o:Nat):Int))→∀(i:Nat)(x:Ln),lI[i]?=some x→iU Rb (nk x.nm)=some (.int ((if i<j+1 then nP (Ah al) lI x else nP (Ah al) rem x:Nat):Int)):=fun Rb _ h1 h2 i x Rc=>by
     by_cases e:i=j
     ·subst e
      rw[ho] at Rc
      cases Rc
      rw[aak (acd _)]
      exact h2
     ·have Va:x.nm≠o.nm:=fun z=>by
       have e1:(lI.map (·.nm))[i]?=some o.nm:=by rw[ZZ,Rc,←z];rfl
       have e2:(lI.map (·.nm))[j]?=some o.nm:=by rw[ZZ,ho];rfl
       exact e ((List.getElem?_inj (List.getElem?_eq_some_iff.mp e1).1 Ra).mp (e1.trans e2.symm))
      rw[h1 x (UK Rc) Va,Jc i x Rc]
      by_cases UM:i<j
      ·rw[aak UM,aak (by omega)]
      ·rw[aai UM,aai (by omega)]
    rw[hR] at An
    refine⟨_,rfl,_,rfl,_,rfl,h,.ref bb,rfl,?_,bb,_,rfl,js.t (k:=nk l.nm) (s8 _ _ z2) t4,_,rfl,?_⟩
    ·have:=js.t (k:=nk o.nm) (s8 _ _ Q7) U_
     rw[z1] at this
     exact this
    by_cases hm:Ah al l.nm o.nm
    ·rw[(z3 l.nm).mpr hm]
     rw[aak hm] at An
     refine nM ?_
     have Rf:=Jc j o ho
     rw[aai (aba _)] at Rf
     have hg:js H6 wt (.ref c) (some (.int ((nP (Ah al) rem o:Nat):Int))):=by
      have:=js.t (k:=nk o.nm) w4 U_
      rw[Rf] at this
      exact this
     have hk3:Jb.length=lI.length:=by have:=aaQ List.length Aq;rwa [QR,QR] at this
     refine⟨_,rfl,_,rfl,wt,_,rfl,hg,_,_,rfl,rfl,_,rfl,_,rfl,wt,_,rfl,mY.t (k:=nk o.nm) w4 U_ (by omega),?_⟩
     have kk:(putK Jb (nk o.nm) (V.int ((nP (Ah al) rem o:Nat)-1))).map (·.1)=lI.map (fun l=>nk l.nm):=by
      rw[pe,Aq]
      exact aak (aaw.mpr ⟨o,UK ho,rfl⟩)
     refine⟨_,_,rfl,s8.upd N_,by rw[d_ Q9];exact b4,b_,by rw[d_ (jc t4 w4 (fun z=>by cases z))];exact t4,by rw[d_ U4.symm];exact r4,by rw[d_ (jc p4 w4 (fun z=>by cases z))];exact p4,fun b hb xs e=>?_,kk,Xz _ kk (fun x _ Va=>?_) ?_⟩
     ·have:=Ll b hb xs e
      rw[d_ (jc this w4 (fun z=>by cases z))];exact this
     ·rw[j0,aai (fun z=>Va (oA z))]
     ·rw[j0,aak rfl]
      have e9:((nP (Ah al) rem o:Nat):Int)-1=((nP (Ah al) lI o:Nat):Int):=by omega
      exact aaQ (fun z=>some (V.int z)) e9
    ·rw[abF.mpr fun z=>hm ((z3 l.nm).mp z)]
     rw[aai hm] at An
     refine jC ⟨_,Jb,rfl,s8,b4,w4,t4,r4,p4,Ll,Aq,Xz Jb Aq (fun x _ _=>rfl) ?_⟩
     have Rf:=Jc j o ho
     rw[aai (aba _)] at Rf
     rw[Rf,An,Nat.add_zero]
   ·rintro σ H6 ⟨v7,Jb,rfl,s8,b4,w4,t4,r4,p4,Ll,Aq,Jc⟩
    have hlen2:(bs.map V.ref).length=lI.length:=by rw[QR,←U8,U2]
    refine⟨_,_,Jb,lI,row++[l],rs++[bl],by omega,rfl,s8,b4,w4,r4,ij pr hLn,⟨Aq,fun o ho=>?_⟩,Fj.trans sub,by rw[TZ];show row.length+1+lI.length=_;omega,?_⟩
    ·obtain⟨i,hi⟩:=aaH.mp ho
     have QQ:=(List.getElem?_eq_some_iff.mp hi).1
     rw[Jc i o hi,aak (by omega)]
    ·rw[←uJ,←LZ,Ij Ja,aaL,hR]
     rfl
end
end PK
namespace Kp
open PySem L2
noncomputable abbrev RZ:Stmt:=PK.oy
noncomputable abbrev R0:Stmt:=PK.pK
noncomputable abbrev T5:Stmt:=PK.pL
noncomputable abbrev LH:Stmt:=PK.Ee
structure Txt(mg:Qqx):Prop where
 len:mg "len"=none
 range:mg "range"=none
 max:mg "max"=none
noncomputable abbrev ia(l:List Str):List V:=l.map V.str
noncomputable def tab(old new:List Str)(i:Nat):List V:=(List.range (new.length+1)).map fun j=>V.int (K01.uZ old new i j)
theorem Bj{old new:List Str}{i j:Nat}(h:j≤new.length):(tab old new i)[j]?=some (V.int (K01.uZ old new i j)):=by
 unfold tab
 rw[ZZ,abW (by omega)]
 rfl
noncomputable def part(old new:List Str)(i k:Nat):List V:=(List.range (new.length+1)).map fun j=>if new.length-k≤j then V.int (K01.uZ old new i j) else V.int 0
theorem E7{old new:List Str}{i k j:Nat}(h:j≤new.length)(hk:new.length-k≤j):(part old new i k)[j]?=some (V.int (K01.uZ old new i j)):=by
 unfold part
 rw[ZZ,abW (by omega)]
 show some (if _ then _ else _)=_
 rw[aak hk]
theorem yu(old new:List Str)(i k:Nat):(part old new i k).length=new.length+1:=by unfold part;rw[QR,abH]
theorem Ik(old new:List Str)(i:Nat):part old new i new.length=tab old new i:=by
 unfold part tab
 refine abV fun j _=>?_
 rw[aak (by omega)]
theorem Ac(old new:List Str)(i n:Nat)(h:n=new.length+1):(List.replicate n [V.int 0]).flatten=part old new i 0:=by
 subst h
 refine List.ext_getElem? fun j=>?_
 unfold part
 rw[ZZ]
 have e:(List.replicate (new.length+1) [V.int 0]).flatten=List.replicate (new.length+1) (V.int 0):=by
  generalize new.length+1=m
  induction m with
  | zero=>rfl
  | succ m ih=>rw[aa4,abS,ih,aa4];rfl
 rw[e,List.getElem?_replicate]
 by_cases hj:j<new.length+1
 ·rw[aak hj,abW hj]
  show some _=some (if _ then _ else _)
  by_cases h2:new.length-0≤j
  ·rw[aak h2,K01.xl (.inr (by omega))];rfl
  ·rw[aai h2]
 ·rw[aai hj,List.getElem?_eq_none_iff.mpr (by rw[abH];omega)]
  rfl
theorem C0{old new:List Str}{i k:Nat}(h:k<new.length):(part old new i k).set (new.length-1-k) (V.int (K01.uZ old new i (new.length-1-k)))=part old new i (k+1):=by
 refine List.ext_getElem? fun j=>?_
 by_cases e:j=new.length-1-k
 ·subst e
  rw[aa9 (by rw[yu];omega),E7 (by omega) (by omega)]
 ·rw[abm (fun z=>e z.symm)]
  unfold part
  rw[ZZ,ZZ]
  by_cases hj:j<new.length+1
  ·rw[abW hj]
   show some (if _ then _ else _)=some (if _ then _ else _)
   by_cases h2:new.length-k≤j
   ·rw[aak h2,aak (by omega)]
   ·rw[aai h2,aai (by omega)]
  ·rw[List.getElem?_eq_none_iff.mpr (by rw[abH];omega)]
   rfl
theorem kO{l:List Str}{j:Nat}{x:Str}(h:l[j]?=some x):(ia l)[j]?=some (V.str x):=by rw[ZZ,h];rfl
section
variable{P:Program}{w:World}{K:Qqy}{mg:Qqx}{base:Heap}
theorem Nd:g8 ["text","new","below","counts","second"] ["text","new","below"] (fW RZ):=⟨rfl,rfl,rfl,by decide+kernel,rfl,by decide+kernel,by decide+kernel⟩
def P6:Sp:=fun vs H Q _=>∃(old new:List Str)(i:Nat)(t:Str)(n b:Addr),vs=[.str t,.ref n,.ref b]∧old[i]?=some t∧H n=some (.lst (ia new))∧H b=some (.lst (tab old new (i+1)))∧new.length≤1000∧
 ∀p H',gc H H'→H p=none→H' p=some (.lst (tab old new i))→Q (.ref p) H'
theorem P7{f:Addr}{fd:FuncData}(F:vN K "counts_with" "counts_with" RZ f fd)(T:Txt mg):iz P w K mg base mB 1 f fd ["text","new","below"] P6:=by
 refine F.qJ Nd fun jw A outer s H vs Q E hr h=>?_
 obtain⟨old,new,i,t,n,b,rfl,ht,hn,hb,hl,k⟩:=h
 refine⟨_,de (kU (i:=3) Nd.nd rfl (Or.inl rfl) (hX DY (iX (a_ fY e_)) (hX i8 (hE gg (by rfl) T.len aas (a_ (pv 1) e_)) fY)))
  (de (iQ aav rfl (uV rfl T.range (a_ (hX uP (hE gg (by rfl) T.len aas (a_ (pv 1) e_)) fY) (a_ (xB sH fY) (a_ (xB sH fY) e_)))) (iJ (i:=4) Nd.nd rfl (Or.inl rfl))
   (fV (iy (iq qi (iC kx (pv 1) (pv 4) (fun _ _=>rfl)) (pv 0) (iS _))
    (fV (Ay (hX i8 (iC kx (pv 2) (hX i8 (pv 4) fY) (fun _ _=>rfl)) fY) (Ax (pv 3) (pv 4) set_list)))
    (fV (Ay (hE (Fx rfl) (by rfl) T.max PyProof.Rows.boot_max (a_ (iC kx (pv 2) (pv 4) (fun _ _=>rfl)) (a_ (iC kx (pv 3) (hX i8 (pv 4) fY) (fun _ _=>rfl)) e_))) (Ax (pv 3) (pv 4) set_list))))))
  (fV (h_ (pv 3)))),?_⟩
 refine DD ?_;intro _ _
 refine⟨kq,fun l LW=>?_⟩
 have Od:(upd H l (.lst [V.int 0])) n=some (.lst (ia new)):=by rw[d_ (f_ hn LW)];exact hn
 refine⟨_,rfl,n,_,rfl,.inl (ib.of Od),_,_,rfl,rfl,l,_,_,rfl,rfl,b_,by simp<;>omega,by simp<;>omega,by simp;have:sizeLine=2 ^ 24:=rfl;omega,fun p hp=>?_⟩
 have nQ:p≠l:=fun z=>by rw[z,b_] at hp;cases hp
 have GI:H p=none:=by rw[d_ nQ] at hp;exact hp
 have s0:gc H (upd H l (.lst [V.int 0])):=(gc.refl H).upd LW
 have e0:(List.replicate (((ia new).length:Int)+1).toNat [V.int 0]).flatten=part old new i 0:=Ac old new i _ (by simp<;>omega)
 rw[e0]
 have s1:gc H (upd (upd H l (.lst [V.int 0])) p (.lst (part old new i 0))):=s0.upd GI
 refine⟨_,rfl,n,_,rfl,.inl (ib.of (s1 n _ hn)),_,_,rfl,rfl,_,rfl,_,rfl,_,_,rfl,⟨by simp<;>omega,by simp<;>omega,by omega,by omega⟩,?_⟩
 have en:((((ia new).length:Int)-1) - -1).toNat=new.length:=by simp<;>omega
 rw[en]
 let Jv:=fun(m:Nat) (σ:St) (H2:Hp)=>∃v,σ=[rs t,rr n,rr b,rr p,v]∧gc H H2∧H2 p=some (.lst (part old new i m))
 refine sL Jv ⟨none,rfl,s1,b_⟩ ?_ ?_
 ·rintro m σ H2 hm ⟨v,rfl,s2,h2⟩
  obtain⟨j,hj⟩:∃j,j=new.length-1-m:=⟨_,rfl⟩
  have hjl:j<new.length:=by omega
  rw[show((ia new).length:Int)-1+(m:Int) * -1=(j:Int) by simp<;>omega]
  have Oe:new[j]?=some new[j]:=QV hjl
  have B:=K01.Ks ht Oe
  refine⟨_,rfl,_,rfl,n,_,_,_,rfl,rfl,ib.of (s2 n _ hn),gr rfl (kO Oe),_,rfl,rfl,_,rfl,?_⟩
  refine l_ (fun hc=>?_) (fun hc=>?_)
  ·have hc:new[j]=t:=by have:=aau hc;injection this
   rw[aak hc] at B
   refine⟨_,rfl,_,rfl,_,_,rfl,rfl,b,_,_,_,rfl,rfl,ib.of (s2 b _ hb),gr (j:=j+1) (by omega) (Bj (by omega)),_,_,rfl,rfl,_,rfl,_,rfl,p,_,_,j,rfl,rfl,h2,AM rfl (by rw[yu];omega),?_⟩
   refine⟨_,rfl,s2.upd GI,?_⟩
   rw[b_]
   dsimp only
   have e:((K01.uZ old new (i+1) (j+1):Nat):Int)+1=((K01.uZ old new i j:Nat):Int):=by omega
   rw[e,hj,C0 hm]
  ·have hc:¬new[j]=t:=fun z=>hc (by rw[z];exact UN rfl)
   rw[aai hc] at B
   refine⟨_,rfl,_,rfl,b,_,_,_,rfl,rfl,ib.of (s2 b _ hb),gr rfl (Bj (by omega)),_,rfl,_,rfl,_,_,rfl,rfl,p,_,_,_,rfl,rfl,ib.of h2,gr (j:=j+1) (by omega) (E7 (by omega) (by omega)),_,_,rfl,_,rfl,_,rfl,p,_,_,j,rfl,rfl,h2,AM rfl (by rw[yu];omega),?_⟩
   refine⟨_,rfl,s2.upd GI,?_⟩
   rw[b_]
   have e:(if((K01.uZ old new i (j+1):Nat):Int)>((K01.uZ old new (i+1) j:Nat):Int) then((K01.uZ old new i (j+1):Nat):Int) else((K01.uZ old new (i+1) j:Nat):Int))=((K01.uZ old new i j:Nat):Int):=by split<;>omega
   rw[e,hj,C0 hm]
 ·rintro σ H2 ⟨v,rfl,s2,h2⟩
  refine⟨_,rfl,k p H2 s2 GI ?_⟩
  rw[h2,Ik]
def LI(H:Hp)(old new:List Str)(rows:List V)(Rg:Nat):Prop:=rows.length=old.length+1∧∀i,i≤old.length→∃a,rows[i]?=some (.ref a)∧(Rg≤i→H a=some (.lst (tab old new i)))
noncomputable abbrev Z_:List Str:=["old","new","table","first","place"]
theorem KJ:g8 ["old","new","table","first","place"] ["old","new"] (fW R0):=⟨rfl,rfl,rfl,by decide+kernel,rfl,by decide+kernel,by decide+kernel⟩
def P8:Sp:=fun vs H Q _=>∃(old new:List Str)(o n:Addr),vs=[.ref o,.ref n]∧H o=some (.lst (ia old))∧H n=some (.lst (ia new))∧old.length≤1000∧new.length≤1000∧
 ∀p H' rows,gc H H'→H p=none→H' p=some (.lst rows)→LI H' old new rows 0→Q (.ref p) H'
theorem Il(new:List Str)(n:Nat)(h:n=new.length+1):(List.replicate n [V.int 0]).flatten=tab [] new 0:=by
 rw[Ac [] new 0 n h]
 unfold part tab
 refine abV fun j _=>?_
 rw[show K01.uZ ([]:List Str) new 0 j=0 from K01.xl (.inl (by simp))]
 split<;>rfl
theorem KL(old new:List Str)(n:Nat)(h:n=new.length+1):(List.replicate n [V.int 0]).flatten=tab old new old.length:=by
 rw[Il new n h]
 unfold tab
 refine abV fun j _=>?_
 rw[show K01.uZ ([]:List Str) new 0 j=0 from K01.xl (.inl (by simp)),K01.xl (.inl (TU _))]
theorem P9{f fC:Addr}{fd OW:FuncData}(F:vN K "most_pairs" "most_pairs" R0 f fd)(T:Txt mg)(C:vN K "counts_with" "counts_with" RZ fC OW)(bC:Binds K OW ["text","new","below"] [])(mC:mg "counts_with"=some (.ref fC)) :
  iz P w K mg base mB 2 f fd ["old","new"] P8:=by
 have GC:iz P w K mg base mB 1 fC OW ["text","new","below"] P6:=P7 C T
 refine F.qJ KJ fun jw A outer s H vs Q E hr h=>?_
 obtain⟨old,new,o,n,rfl,ho,hn,Uq,vy,k⟩:=h
 refine⟨_,de (EW (j:=2) Z_ (fW R0).names [4] KJ.nd rfl rfl rfl (j3 rfl T.range (a_ (hX i8 (hE gg (by rfl) T.len aas (a_ (pv 0) e_)) fY) e_)) rfl (by decide+kernel)
   (fun _ _ _ _=>iJ (i:=4) KJ.nd rfl (Or.inl rfl)) (fun _ _ _ _=>mf) (fun _ _ _ _=>⟨_,hX DY (iX (a_ fY e_)) (hX i8 (hE gg (by rfl) T.len aas (a_ (pv 1) e_)) fY),by(try simp only [lg]);rfl⟩))
  (de (iQ aav rfl (uV rfl T.range (a_ (hX uP (hE gg (by rfl) T.len aas (a_ (pv 0) e_)) fY) (a_ (xB sH fY) (a_ (xB sH fY) e_)))) (iJ (i:=3) KJ.nd rfl (Or.inl rfl))
   (fV (Ay (tN GC hr rfl mC C.kp bC .nil qj (a_ (iC kx (pv 0) (pv 3) (fun _ _=>rfl)) (a_ (pv 1) (a_ (iC kx (pv 2) (hX i8 (pv 3) fY) (fun _ _=>rfl)) e_)))) (Ax (pv 2) (pv 3) set_list))))
  (fV (h_ (pv 2)))),?_⟩
 refine DD ?_;intro _ _
 refine⟨_,rfl,o,_,rfl,.inl (ib.of ho),_,_,rfl,rfl,_,rfl,by simp<;>omega,by simp<;>omega,?_⟩
 have en:(((ia old).length:Int)+1).toNat=old.length+1:=by simp<;>omega
 rw[en]
 let Jv:=fun(m:Nat) (ys:List V) (σ:St) (H2:Hp)=>∃v,σ=[rr o,rr n,none,none,v]∧gc H H2∧ys.length=m∧∀i,i<m→∃a,ys[i]?=some (.ref a)∧H a=none∧H2 a=some (.lst (tab old new old.length))
 refine xJ (by have:sizeLine=2 ^ 24:=rfl;omega) Jv
  ⟨none,rfl,gc.refl H,rfl,fun i hi=>absurd hi (Nat.not_lt_zero _)⟩ (by rintro _ _ _ _ ⟨_,_,_,e,_⟩;exact Nat.le_of_eq e) ?_ ?_
 ·rintro m ys σ H2 hm ⟨v,rfl,s2,hy,BG⟩
  refine⟨kq,fun l LW=>?_⟩
  have s3:gc H (upd H2 l (.lst [V.int 0])):=s2.new LW
  refine⟨_,rfl,n,_,rfl,.inl (ib.of (s3 n _ hn)),_,_,rfl,rfl,l,_,_,rfl,rfl,b_,by simp<;>omega,by simp<;>omega,by simp;have:sizeLine=2 ^ 24:=rfl;omega,fun p hp=>?_⟩
  rw[KL old new _ (show(((ia new).length:Int)+1).toNat=new.length+1 by simp<;>omega)]
  have nQ:p≠l:=fun z=>by rw[z,b_] at hp;cases hp
  have zx:H2 p=none:=by rw[d_ nQ] at hp;exact hp
  refine⟨_,rfl,s3.new hp,by rw[TZ,hy];rfl,fun i hi=>?_⟩
  by_cases e:i<m
  ·obtain⟨a,e1,e2,e3⟩:=BG i e
   refine⟨a,by rw[abv (by omega)];exact e1,e2,?_⟩
   rw[d_ (f_ e3 zx),d_ (f_ e3 LW)]
   exact e3
  ·have:i=m:=by omega
   subst this
   exact⟨p,by rw[aa0 (by omega),hy];simp,s2.free zx,b_⟩
 ·rintro ys σ H2 ⟨v,rfl,s2,hy,BG⟩ p hp
  have s3:gc H (upd H2 p (.lst ys)):=s2.new hp
  have GI:H p=none:=s2.free hp
  refine⟨_,rfl,o,_,rfl,.inl (ib.of (s3 o _ ho)),_,_,rfl,rfl,_,rfl,_,rfl,_,_,rfl,⟨by simp<;>omega,by simp<;>omega,by omega,by omega⟩,?_⟩
  have en:((((ia old).length:Int)-1) - -1).toNat=old.length:=by simp<;>omega
  rw[en]
  let Jv:=fun(m:Nat) (σ:St) (H3:Hp)=>∃v w rows,σ=[rr o,rr n,rr p,v,w]∧gc H H3∧H3 p=some (.lst rows)∧LI H3 old new rows (old.length-m)∧∀i a,i≤old.length→rows[i]?=some (.ref a)→a≠p
  refine sL Jv
   ⟨_,_,ys,rfl,s3,b_,⟨hy,fun i hi=>?_⟩,fun i a hi ha=>?_⟩ ?_ ?_
  ·obtain⟨a,e1,e2,e3⟩:=BG i (by omega)
   refine⟨a,e1,fun z=>?_⟩
   have:i=old.length:=by omega
   subst this
   rw[d_ (f_ e3 hp)]
   exact e3
  ·obtain⟨a',e1,e2,e3⟩:=BG i (by omega)
   rw[ha] at e1
   cases e1
   exact f_ e3 hp
  ·rintro m σ H3 hm ⟨v,w',rows,rfl,s4,h4,tb,nb⟩
   obtain⟨i,hi⟩:∃i,i=old.length-1-m:=⟨_,rfl⟩
   have QQ:i<old.length:=by omega
   rw[show((ia old).length:Int)-1+(m:Int) * -1=(i:Int) by simp<;>omega]
   have Sl:old[i]?=some old[i]:=QV QQ
   obtain⟨b,e1,e2⟩:=tb.2 (i+1) (by omega)
   refine⟨_,rfl,_,rfl,o,_,_,_,rfl,rfl,ib.of (s4 o _ ho),gr rfl (kO Sl),_,rfl,_,rfl,_,rfl,_,_,rfl,rfl,p,_,_,_,rfl,rfl,ib.of h4,gr (j:=i+1) (by omega) e1,?_⟩
   refine⟨old,new,i,_,n,b,rfl,Sl,s4 n _ hn,e2 (by omega),vy,fun q H5 s5 XA h5=>?_⟩
   have XC:q≠p:=fun z=>by rw[z,h4] at XA;cases XA
   refine⟨_,rfl,_,rfl,p,rows,_,i,rfl,rfl,s5 p _ h4,AM rfl (by rw[tb.1];omega),?_⟩
   refine⟨_,_,_,rfl,(s4.trans s5).upd GI,b_,⟨by rw[ach];exact tb.1,fun i' zy=>?_⟩,fun i' a zy ha=>?_⟩
   ·by_cases e:i'=i
    ·subst e
     refine⟨q,by rw[aa9 (by rw[tb.1];omega)],fun _=>?_⟩
     rw[d_ XC];exact h5
    ·obtain⟨a,a1,a2⟩:=tb.2 i' zy
     refine⟨a,by rw[abm (fun z=>e z.symm)];exact a1,fun z=>?_⟩
     rw[d_ (nb i' a zy a1)]
     exact s5 a _ (a2 (by omega))
   ·by_cases e:i'=i
    ·subst e
     rw[aa9 (by rw[tb.1];omega)] at ha
     cases ha
     exact XC
    ·rw[abm (fun z=>e z.symm)] at ha
     exact nb i' a zy ha
  ·rintro σ H3 ⟨v,w',rows,rfl,s4,h4,tb,nb⟩
   refine⟨_,rfl,k p H3 rows s4 GI h4 ?_⟩
   rw[Nat.sub_self] at tb
   exact tb
end
end Kp
namespace K01
theorem Bk{α:Type}[DecidableEq α]{a:α}{new:List α}{j k:Nat}(hj:j≤k)(hk:new[k]?=some a)(hm:∀l,j≤l→l<k→new[l]?≠some a):i_ a new j=some k:=by
 cases e:i_ a new j with
 | none=>exact absurd hk (nc e k hj)
 | some k'=>
  obtain⟨h1,h2,h3⟩:=kc e
  rcases Nat.lt_trichotomy k k' with h|h|h
  ·exact absurd hk (h3 k hj h)
  ·rw[h]
  ·exact absurd h2 (hm k' h1 h)
theorem Bl{α:Type}[DecidableEq α]{a:α}{new:List α}{j:Nat}(hm:∀l,j≤l→l<new.length→new[l]?≠some a):i_ a new j=none:=by
 cases e:i_ a new j with
 | none=>rfl
 | some k'=>
  obtain⟨h1,h2,h3⟩:=kc e
  exact absurd h2 (hm k' h1 (List.getElem?_eq_some_iff.mp h2).1)
end K01
namespace Kp
open PySem L2
section
variable{P:Program}{w:World}{K:Qqy}{mg:Qqx}{base:Heap}
noncomputable def T6:Option Nat→V
 | none=>.iP
 | some k=>.int k
theorem P_:g8 ["texts","text","start","place"] ["texts","text","start"] (fW T5):=⟨rfl,rfl,rfl,by decide+kernel,rfl,by decide+kernel,by decide+kernel⟩
def Qa:Sp:=fun vs H Q _=>∃(new:List Str)(t:Str)(n:Addr)(j:Nat),vs=[.ref n,.str t,.int j]∧H n=some (.lst (ia new))∧new.length≤1000∧j≤1000∧Q (T6 (K01.i_ t new j)) H
theorem Qb{f:Addr}{fd:FuncData}(F:vN K "place_from" "place_from" T5 f fd)(T:Txt mg):iz P w K mg base mB 1 f fd ["texts","text","start"] Qa:=by
 refine F.qJ P_ fun jw A outer s H vs Q E hr h=>?_
 obtain⟨new,t,n,j,rfl,hn,hl,hj,k⟩:=h
 refine⟨_,de (iQ aav rfl (zD rfl T.range (a_ (pv 2) (a_ (hE gg (by rfl) T.len aas (a_ (pv 0) e_)) e_))) (iJ (i:=3) P_.nd rfl (Or.inl rfl))
   (fV (iy (iq qi (iC kx (pv 0) (pv 3) (fun _ _=>rfl)) (pv 1) (iS _)) (fV (h_ (pv 3))) hV)))
  (fV (h_ k9)),?_⟩
 refine Kc ?_;intro _
 refine⟨_,rfl,_,rfl,n,_,rfl,.inl (ib.of hn),_,_,rfl,⟨by omega,by omega,by simp<;>omega,by simp<;>omega⟩,?_⟩
 let Jv:=fun(m:Nat) (σ:St) (H2:Hp)=>∃v,σ=[rr n,rs t,ri j,v]∧H2=H∧∀l,j≤l→l<j+m→new[l]?≠some t
 refine ku Jv ⟨none,rfl,rfl,fun l h1 h2=>by omega⟩ ?_ ?_
 ·rintro m σ H2 hm ⟨v,rfl,rfl,h2⟩
  have hm:j+m<new.length:=by simp at hm;omega
  rw[show(j:Int)+(m:Int)=((j+m:Nat):Int) by omega]
  have Oe:new[j+m]?=some new[j+m]:=QV hm
  refine⟨_,rfl,_,rfl,n,_,_,_,rfl,rfl,ib.of hn,gr rfl (kO Oe),_,rfl,rfl,_,rfl,?_⟩
  refine l_ (fun hc=>?_) (fun hc=>?_)
  ·have hc:new[j+m]=t:=by have:=aau hc;injection this
   rw[hc] at Oe
   rw[K01.Bk (Nat.le_add_right j m) Oe h2] at k
   exact⟨_,rfl,k⟩
  ·have hc:¬new[j+m]=t:=fun z=>hc (by rw[z];exact UN rfl)
   refine⟨_,rfl,rfl,fun l h3 h4=>?_⟩
   by_cases e:l=j+m
   ·subst e
    rw[Oe]
    intro z
    exact hc (aao z)
   ·exact h2 l h3 (by omega)
 ·rintro σ H2 ⟨v,rfl,rfl,h2⟩
  rw[K01.Bl (j:=j) fun l h3 h4=>h2 l h3 (by simp<;>omega)] at k
  exact k
def lW(H:Hp)(q:Nat×Nat)(v:V):Prop:=∃a,v=.ref a∧H a=some (.tup [.int q.1,.int q.2])
abbrev je(H:Hp)(l:List (Nat×Nat))(vs:List V):Prop:=Paired (lW H) l vs
theorem je.keep{H H':Hp}{l:List (Nat×Nat)}{vs:List V}(h:je H l vs)(k:∀a xs,H a=some (.tup xs)→H' a=some (.tup xs)):je H' l vs:=
 Paired.jK h fun q v ⟨a,e,h⟩=>⟨a,e,k a _ h⟩
theorem Nf:g8 ["old","new","table","pairs","start","first","second"] ["old","new"] (fW LH):=⟨rfl,rfl,rfl,by decide+kernel,rfl,by decide+kernel,by decide+kernel⟩
def WQ:Sp:=fun vs H Q _=>∃(old new:List Str)(o n:Addr),vs=[.ref o,.ref n]∧H o=some (.lst (ia old))∧H n=some (.lst (ia new))∧old.length≤1000∧new.length≤1000∧
 ∀p H' ps,gc H H'→H p=none→H' p=some (.lst ps)→je H' (K01.kept old new) ps→Q (.ref p) H'
theorem KN{f fM fC fP:Addr}{fd Vb OW Vc:FuncData}(F:vN K "kept" "kept" LH f fd)(T:Txt mg)(C:vN K "counts_with" "counts_with" RZ fC OW)(bC:Binds K OW ["text","new","below"] [])(mC:mg "counts_with"=some (.ref fC))
  (M:vN K "most_pairs" "most_pairs" R0 fM Vb) (bM:Binds K Vb ["old","new"] []) (mM:mg "most_pairs"=some (.ref fM)) (Pf:vN K "place_from" "place_from" T5 fP Vc) (bP:Binds K Vc ["texts","text","start"] []) (mP:mg "place_from"=some (.ref fP)) :
  iz P w K mg base mB 3 f fd ["old","new"] WQ:=by
 have GM:iz P w K mg base mB 2 fM Vb ["old","new"] P8:=P9 M T C bC mC
 have GP:iz P w K mg base mB 2 fP Vc ["texts","text","start"] Qa:=(Qb Pf T).mono (by decide)
 refine F.qJ Nf fun jw A outer s H vs Q E hr h=>?_
 obtain⟨old,new,o,n,rfl,ho,hn,Uq,vy,k⟩:=h
 refine⟨_,de (kU (i:=2) Nf.nd rfl (Or.inl rfl) (tN GM hr rfl mM M.kp bM .nil qj (a_ (pv 0) (a_ (pv 1) e_))))
  (de (kU (i:=3) Nf.nd rfl (Or.inl rfl) (iX e_))
  (de (kU (i:=4) Nf.nd rfl (Or.inl rfl) fY)
  (de (iQ aav rfl (j3 rfl T.range (a_ (hE gg (by rfl) T.len aas (a_ (pv 0) e_)) e_)) (iJ (i:=5) Nf.nd rfl (Or.inl rfl))
   (de (kU (i:=6) Nf.nd rfl (Or.inl rfl) (tN GP hr rfl mP Pf.kp bP .nil qj (a_ (pv 1) (a_ (iC kx (pv 0) (pv 5) (fun _ _=>rfl)) (a_ (pv 4) e_)))))
   (fV (iy (pw_and (jq (nS (pv 6))) (pw_and1 (iq qi
     (hX i8 (iC kx (iC kx (pv 2) (hX i8 (pv 5) fY) (fun _ _=>rfl)) (hX i8 (pv 6) fY) (fun _ _=>rfl)) fY)
     (iC kx (iC kx (pv 2) (pv 5) (fun _ _=>rfl)) (pv 4) (fun _ _=>rfl)) (iS _)))).pt
    (de (ip (mW aaB aaI aaJ jx (pv 3) (a_ (lL (a_ (pv 5) (a_ (pv 6) e_))) e_)))
    (fV (kU (i:=4) Nf.nd rfl (Or.inl rfl) (hX i8 (pv 6) fY))))
    hV))))
  (fV (h_ (pv 3)))))),?_⟩
 refine MO ?_;intro _ _ _ _
 refine⟨_,rfl,_,rfl,old,new,o,n,rfl,ho,hn,Uq,vy,fun tb H1 rows s1 U1 h1 Rh=>?_⟩
 refine⟨kq,fun pr OX=>?_⟩
 have Vd:H pr=none:=s1.free OX
 refine⟨_,rfl,o,_,rfl,.inl (ib.of (s1.new OX o _ ho)),_,rfl,by simp<;>omega,by simp<;>omega,?_⟩
 have en:((ia old).length:Int).toNat=old.length:=by simp
 rw[en]
 refine ku (fun m σ H2=>∃(j:Nat)(acc:List (Nat×Nat))(ps:List V)(v w:Option V),σ=[rr o,rr n,rr tb,rr pr,ri j,v,w]∧gc H1 H2∧H2 pr=some (.lst ps)∧je H2 acc ps∧acc.length≤m∧j≤new.length∧
   acc++K01.oO new m (old.drop m) j=K01.kept old new) ⟨0,[],[],none,none,rfl,(gc.refl H1).new OX,b_,.nil,TU _,aaE _,rfl⟩ ?_ ?_
 ·rintro m σ H2 hm ⟨j,acc,ps,v,w',rfl,s2,h2,pa,yI,hj,hk⟩
  rw[show(0:Int)+(m:Int)=(m:Int) by omega]
  have Ve:old[m]?=some old[m]:=QV hm
  have hd:old.drop m=old[m]::old.drop (m+1):=aaS hm
  rw[hd,K01.oO] at hk
  refine⟨_,rfl,_,rfl,_,rfl,o,_,_,_,rfl,rfl,ib.of (s2 o _ (s1 o _ ho)),gr rfl (kO Ve),_,rfl,new,_,n,j,rfl,s2 n _ (s1 n _ hn),vy,by omega,?_⟩
  cases e:K01.i_ old[m] new j with
  | none=>
   rw[e] at hk
   refine⟨_,rfl,_,rfl,oM (by rfl) (jC ?_)⟩
   exact⟨j,acc,ps,_,_,rfl,s2,h2,pa,by omega,hj,hk⟩
  | some q=>
   rw[e] at hk
   simp only at hk
   obtain⟨hq1,Ri,hq3⟩:=K01.kc e
   have Rj:q<new.length:=(List.getElem?_eq_some_iff.mp Ri).1
   obtain⟨a1,ea1,Vf⟩:=Rh.2 (m+1) (by omega)
   obtain⟨a0,ea0,Vg⟩:=Rh.2 m (by omega)
   have Vf:=s2 a1 _ (Vf (aaE _))
   have Vg:=s2 a0 _ (Vg (aaE _))
   have Rl:H2 tb=some (.lst rows):=s2 tb _ h1
   refine⟨_,rfl,_,rfl,EZ (by rfl) ?_⟩
   refine⟨_,rfl,_,rfl,_,_,rfl,rfl,tb,_,_,_,rfl,rfl,ib.of Rl,gr (j:=m+1) (by omega) ea1,_,rfl,_,_,rfl,rfl,a1,_,_,_,rfl,rfl,ib.of Vf,gr (j:=q+1) (by omega) (Bj (by omega)),_,_,rfl,rfl,
    _,rfl,_,rfl,tb,_,_,_,rfl,rfl,ib.of Rl,gr rfl ea0,_,rfl,a0,_,_,_,rfl,rfl,ib.of Vg,gr rfl (Bj (by omega)),rfl,_,rfl,?_⟩
   refine l_ (fun hc=>?_) (fun hc=>?_)
   ·have hc:((K01.uZ old new (m+1) (q+1):Nat):Int)+1=((K01.uZ old new m j:Nat):Int):=by have:=aau hc;injection this
    have Am:K01.lcs (old.drop (m+1)) (new.drop (q+1))+1=K01.lcs (old[m]::old.drop (m+1)) (new.drop j):=by rw[←hd];unfold K01.uZ at hc;omega
    rw[aak Am] at hk
    refine⟨_,rfl,.inl ⟨rfl,_,ib.of h2⟩,_,rfl,_,rfl,kq,fun t ht=>?_⟩
    have nQ:=pa.length
    have XD:pr≠t:=f_ h2 ht
    refine⟨pr,ps,_,rfl,rfl,by rw[d_ XD];exact h2,by have:sizeLine=2 ^ 24:=rfl;omega,?_⟩
    refine⟨_,rfl,_,_,rfl,rfl,q+1,acc++[(m,q)],ps++[.ref t],_,_,rfl,(s2.new ht).upd OX,b_,?_,by rw[TZ];simp;omega,by omega,by rw[aaL];exact hk⟩
    refine Paired.snoc (pa.keep fun a xs ha=>?_) ⟨t,rfl,?_⟩
    ·rw[d_ (jc ha h2 (by intro z;cases z)),d_ (f_ ha ht)];exact ha
    ·rw[d_ (abA XD),b_]
     rfl
   ·have hc:¬((K01.uZ old new (m+1) (q+1):Nat):Int)+1=((K01.uZ old new m j:Nat):Int):=fun z=>hc (UN (aaQ V.int z))
    have Am:¬K01.lcs (old.drop (m+1)) (new.drop (q+1))+1=K01.lcs (old[m]::old.drop (m+1)) (new.drop j):=by rw[←hd];unfold K01.uZ at hc;omega
    rw[aai Am] at hk
    exact⟨j,acc,ps,_,_,rfl,s2,h2,pa,by omega,hj,hk⟩
 ·rintro σ H2 ⟨j,acc,ps,v,w',rfl,s2,h2,pa,yI,hj,hk⟩
  rw[acg,K01.oO,aaF] at hk
  rw[hk] at pa
  exact⟨_,rfl,k pr H2 ps (s1.trans s2) Vd h2 pa⟩
end
end Kp
namespace PK
open PySem L2 PM
open Kp (lW je)
theorem Ng(a b c d:V):jA "lower_name" d (jA "upper_name" c (jA "text" b (jA "name" a [])))=KD a b c d:=by kernel_rfl
theorem Nh(a b c d e:V):jA "other" e (jA "cuts" d (jA "puts" c (jA "file" b (jA "name" a []))))=KG a b c d e:=by kernel_rfl
noncomputable def OK(a l:Addr):List (Str×V):=[("ahead",.ref a),("lines",.ref l)]
theorem Ni(a l:Addr):jA "lines" (.ref l) (jA "ahead" (.ref a) [])=OK a l:=by kernel_rfl
theorem k7(a l:Addr):(OK a l).lookup ("lines":Str)=some (V.ref l):=by kernel_rfl
theorem Eg(a l:Addr):(OK a l).lookup ("ahead":Str)=some (V.ref a):=by kernel_rfl
theorem Nj(a l:Addr):(OK a l).lookup ("is_ahead":Str)=none:=by kernel_rfl
theorem Nk(a l:Addr):(OK a l).lookup ("quarrelling":Str)=none:=by kernel_rfl
theorem Gg(a:Addr):(jA ("ahead":Str) (.ref a) []).lookup ("ahead":Str)=some (V.ref a):=by kernel_rfl
def Eh(A:Ad)(H:Hp)(p:Addr)(al row:List Ln):Prop:=∃dx ah l,H p=some (.ins A.ig dx (OK ah l))∧Bh H ah al∧pY A H l row
theorem Eh.same{A:Ad}{H H':Hp}{p:Addr}{al row:List Ln}(x:Eh A H p al row)(s:gc H H'):Eh A H' p al row:=by
 obtain⟨dx,ah,l,h1,h2,h3⟩:=x
 exact⟨dx,ah,l,s _ _ h1,h2.same s,h3.same s⟩
section
variable{P:Program}{w:World}{K:Qqy}{mg:Qqx}{base:Heap}{A:Ad}
def Qc(A:Ad):Sp:=fun vs H Q _=>∃(p dx:Addr)(a b c d:V),vs=[.ref p,a,b,c,d]∧H p=some (.ins A.hU dx [])∧∀H',(∀x,x≠p→H' x=H x)→H' p=some (.ins A.hU dx (KD a b c d))→Q .iP H'
theorem Bm(T:Txt mg)(O:Ok K mg A):iz P w K mg base mB 1 A.mw A.qm ["self","name","text","upper_name","lower_name"] (Qc A):=by
 refine O.sy.f.qJ u5 fun jw A0 outer s H vs Q E hr h=>?_
 obtain⟨p,dx,a,b,c,d,rfl,hp,k⟩:=h
 refine⟨_,(de (k_ (pv 0) (pv 1) rfl)
  (de (k_ (pv 0) (pv 2) rfl)
  (de (k_ (pv 0) (pv 3) rfl)
  (fV (k_ (pv 0) (pv 4) rfl))))),?_⟩
 refine MN ?_;intro _ _ _
 refine⟨_,rfl,_,rfl,p,A.hU,dx,_,rfl,hp,O.iH,O.hZ,(by show 0<1000;decide),?_⟩
 refine⟨_,rfl,_,rfl,p,A.hU,dx,_,rfl,b_,O.iH,O.ji,(by show 1<1000;decide),?_⟩
 refine⟨_,rfl,_,rfl,p,A.hU,dx,_,rfl,b_,O.iH,O.iA,(by show 2<1000;decide),?_⟩
 refine⟨_,rfl,_,rfl,p,A.hU,dx,_,rfl,b_,O.iH,O.iB,(by show 3<1000;decide),?_⟩
 exact k _ (fun x hx=>by rw[d_ hx,d_ hx,d_ hx,d_ hx]) (Eq.trans b_ (aaQ (fun l=>some (HO.ins A.hU dx l)) (Ng a b c d)))
def Qd(A:Ad):Sp:=fun vs H Q _=>∃(p dx:Addr)(a b c d e:V),vs=[.ref p,a,b,c,d,e]∧H p=some (.ins A.hG dx [])∧∀H',(∀x,x≠p→H' x=H x)→H' p=some (.ins A.hG dx (KG a b c d e))→Q .iP H'
theorem oC(T:Txt mg)(O:Ok K mg A):iz P w K mg base mB 1 A.lU A.oU ["self","name","file","puts","cuts","other"] (Qd A):=by
 refine O.lB.f.qJ t_ fun jw A0 outer s H vs Q E hr h=>?_
 obtain⟨p,dx,a,b,c,d,e,rfl,hp,k⟩:=h
 refine⟨_,(de (k_ (pv 0) (pv 1) rfl)
  (de (k_ (pv 0) (pv 2) rfl)
  (de (k_ (pv 0) (pv 3) rfl)
  (de (k_ (pv 0) (pv 4) rfl)
  (fV (k_ (pv 0) (pv 5) rfl)))))),?_⟩
 refine MO ?_;intro _ _ _ _
 refine⟨_,rfl,_,rfl,p,A.hG,dx,_,rfl,hp,O.iZ,O.iW,(by show 0<1000;decide),?_⟩
 refine⟨_,rfl,_,rfl,p,A.hG,dx,_,rfl,b_,O.iZ,O.jI,(by show 1<1000;decide),?_⟩
 refine⟨_,rfl,_,rfl,p,A.hG,dx,_,rfl,b_,O.iZ,O.jm,(by show 2<1000;decide),?_⟩
 refine⟨_,rfl,_,rfl,p,A.hG,dx,_,rfl,b_,O.iZ,O.jn,(by show 3<1000;decide),?_⟩
 refine⟨_,rfl,_,rfl,p,A.hG,dx,_,rfl,b_,O.iZ,O.iN,(by show 4<1000;decide),?_⟩
 exact k _ (fun x hx=>by rw[d_ hx,d_ hx,d_ hx,d_ hx,d_ hx]) (Eq.trans b_ (aaQ (fun l=>some (HO.ins A.hG dx l)) (Nh a b c d e)))
def KO(A:Ad):Sp:=fun vs H Q _=>∃(p dx a:Addr)(ps:List Pt)(f:Str),vs=[.ref p,.ref a,.str f]∧H p=some (.ins A.ig dx [])∧wZ A H a ps∧Small ps∧
 ((g9 ps f).map (·.nm)).Nodup∧pH (g9 ps f)∧HM (g9 ps f)∧
 ∀(H':Hp),(∀b o,H b=some o→b≠p→H' b=some o)→Eh A H' p (g9 ps f) (rowOf (Ah (g9 ps f)) (kJ ps f))→Q .iP H'
theorem j8.off{H H':Hp}{p C dx:Addr}{fs:List (Str×V)}{v:V}{n:Nm}(x:j8 H v n)(hp:H p=some (.ins C dx fs))(s:∀b o,H b=some o→b≠p→H' b=some o):j8 H' v n:=by
 obtain⟨t,e,h⟩:=x
 exact⟨t,e,s _ _ h (jc h hp (fun z=>by cases z))⟩
theorem CS.off{H H':Hp}{p C dx:Addr}{fs:List (Str×V)}{v:V}{n:Option Nm}(x:CS H v n)(hp:H p=some (.ins C dx fs))(s:∀b o,H b=some o→b≠p→H' b=some o):CS H' v n:=by
 cases n with
 | none=>exact x
 | some n=>exact j8.off x hp s
theorem my.off{H H':Hp}{p C dx a:Addr}{fs:List (Str×V)}{l:Ln}(x:my A H a l)(hp:H p=some (.ins C dx fs))(hf:fs.length<2)(s:∀b o,H b=some o→b≠p→H' b=some o):my A H' a l:=by
 obtain⟨Vh,vn,vu,vl,h,h1,h2,h3⟩:=x
 have:a≠p:=fun z=>by
  rw[z,hp] at h
  have e:=aao h
  injection e with _ _ e
  rw[e] at hf
  exact absurd hf (by unfold KD;simp)
 exact⟨Vh,vn,vu,vl,s _ _ h this,h1.off hp s,h2.off hp s,h3.off hp s⟩
theorem pY.off{H H':Hp}{p C dx a:Addr}{fs:List (Str×V)}{ls:List Ln}(x:pY A H a ls)(hp:H p=some (.ins C dx fs))(hf:fs.length<2)(s:∀b o,H b=some o→b≠p→H' b=some o):pY A H' a ls:=by
 obtain⟨as,h,q⟩:=x
 exact⟨as,s _ _ h (jc h hp (fun z=>by cases z)),Paired.jK q fun _ _ z=>z.off hp hf s⟩
theorem yq.off{H H':Hp}{p C dx a:Addr}{fs:List (Str×V)}{ns:List Nm}(x:yq H a ns)(hp:H p=some (.ins C dx fs))(s:∀b o,H b=some o→b≠p→H' b=some o):yq H' a ns:=by
 obtain⟨as,h,q⟩:=x
 exact⟨as,s _ _ h (jc h hp (fun z=>by cases z)),Paired.jK q fun _ _ z=>z.off hp s⟩
theorem nN.off{H H':Hp}{p C dx a:Addr}{fs:List (Str×V)}{pt:Pt}(x:nN A H a pt)(hp:H p=some (.ins C dx fs))(hf:fs.length<2)(s:∀b o,H b=some o→b≠p→H' b=some o):nN A H' a pt:=by
 obtain⟨Vh,vf,pu,cu,vo,h,h1,h2,h3,h4⟩:=x
 have:a≠p:=fun z=>by
  rw[z,hp] at h
  have e:=aao h
  injection e with _ _ e
  rw[e] at hf
  exact absurd hf (by unfold KG;simp)
 exact⟨Vh,vf,pu,cu,vo,s _ _ h this,h1,h2.off hp hf s,h3.off hp s,h4⟩
theorem wZ.off{H H':Hp}{p C dx a:Addr}{fs:List (Str×V)}{ps:List Pt}(x:wZ A H a ps)(hp:H p=some (.ins C dx fs))(hf:fs.length<2)(s:∀b o,H b=some o→b≠p→H' b=some o):wZ A H' a ps:=by
 obtain⟨as,h,q⟩:=x
 exact⟨as,s _ _ h (jc h hp (fun z=>by cases z)),Paired.jK q fun _ _ z=>z.off hp hf s⟩
theorem Bh.off{H H':Hp}{p C dx a:Addr}{fs:List (Str×V)}{ls:List Ln}(x:Bh H a ls)(hp:H p=some (.ins C dx fs))(s:∀b o,H b=some o→b≠p→H' b=some o):Bh H' a ls:=by
 obtain⟨kvs,e1,e2⟩:=x
 refine⟨kvs,s _ _ e1 (jc e1 hp (fun z=>by cases z)),fun n hn=>?_⟩
 obtain⟨b,dk,z1,z2,z3⟩:=e2 n hn
 exact⟨b,dk,z1,s _ _ z2 (jc z2 hp (fun z=>by cases z)),z3⟩
theorem zl(T:Txt mg)(O:Ok K mg A):iz P w K mg base mB 3 A.lV A.o5 ["self","patches","file"] (KO A):=by
 have Dq:=@Bi P w K mg base A T O
 have rG:=@uw P w K mg base A T O
 have vA:=@ux P w K mg base A T O
 have Jd:=@Gf P w K mg base A T O
 refine O.rh.f.qJ ua fun jw A0 outer s H vs Q E hr h=>?_
 obtain⟨p,dx,a,ps,f,rfl,hp,ha,sm,nd,cl,tp,q⟩:=h
 have Rm:yt (g9 ps f).length:=aac (pZ ps f) sm.ik
 have zz:=kB ps f
 refine⟨_,(de (k_ (pv 0) (pk O.zZ Dq hr (a_ (pk O.vk rG hr (a_ (pv 1) (a_ (pv 2) e_))) e_)) rfl)
   (fV (k_ (pv 0) (pk O.HZ Jd hr (a_ (pk O.rf vA hr (a_ (pv 1) (a_ (pv 2) e_))) (a_ (g_ (pv 0) rfl) e_))) rfl))),?_⟩
 refine Kc ?_;intro _
 refine⟨_,rfl,_,rfl,a,ps,f,rfl,ha,sm,fun l1 H1 s1 Sy Rn=>?_⟩
 refine⟨l1,_,rfl,Rn,Rm,nd,cl,tp,fun ah H2 s2 SA Ro=>?_⟩
 have Vi:gc H H2:=s1.trans s2
 have zx:=Vi p _ hp
 refine⟨_,rfl,p,A.ig,dx,_,rfl,zx,O.j7,O.ju,(by show 0<1000;decide),?_⟩
 have s3:∀b o,H2 b=some o→b≠p→(upd H2 p (.ins A.ig dx (jA "ahead" (.ref ah) []))) b=some o:=fun b o e n=>by rw[d_ n];exact e
 have ha3:=(ha.same Vi).off zx (by decide) s3
 have Rp:=Ro.off zx s3
 refine⟨_,rfl,_,rfl,a,ps,f,rfl,ha3,sm,fun st H4 s4 SD Rq=>?_⟩
 have Lk:H4 p=some (.ins A.ig dx (jA "ahead" (.ref ah) [])):=s4 p _ b_
 refine⟨_,rfl,p,A.ig,dx,_,_,rfl,Lk,O.j7,O.ju,Gg ah,st,ah,kJ ps f,g9 ps f,rfl,Rq,Rp.same s4,aac zz.length_le Rm,(zz.map _).nodup nd,fun l hl=>T1 (zz.subset hl),tp,fun l H5 s5 SE Rr=>?_⟩
 have Of:=s5 p _ Lk
 refine⟨_,rfl,p,A.ig,dx,_,rfl,Of,O.j7,O.iw,(by show 1<1000;decide),?_⟩
 have s6:∀b o,H5 b=some o→b≠p→(upd H5 p (.ins A.ig dx (jA "lines" (.ref l) (jA "ahead" (.ref ah) [])))) b=some o:=fun b o e n=>by rw[d_ n];exact e
 refine q _ (fun b o hb nb=>?_) ⟨dx,ah,l,Eq.trans b_ (aaQ (fun l=>some (HO.ins A.ig dx l)) (Ni ah l)),?_,?_⟩
 ·rw[d_ nb]
  refine s5 b o (s4 b o ?_)
  rw[d_ nb]
  exact Vi b o hb
 ·exact((Rp.same s4).same s5).off Of s6
 ·exact Rr.off Of (by show 1<2;decide) s6
open Classical in
def T7(A:Ad):Sp:=fun vs H Q _=>∃(p:Addr)(al row:List Ln)(i j:Nat)(a b:Ln),vs=[.ref p,.int i,.int j]∧Eh A H p al row∧row[i]?=some a∧row[j]?=some b∧b.nm∈al.map (·.nm)∧Q (.bl (decide (Ah al a.nm b.nm))) H
open Classical in
theorem C1(T:Txt mg)(O:Ok K mg A):iz P w K mg base mB 1 A.o6 A.o7 ["self","first","second"] (T7 A):=by
 refine O.rj.f.qJ ub fun jw A0 outer s H vs Q E hr h=>?_
 obtain⟨p,al,row,i,j,x,y,rfl,⟨dx,ah,l,h1,⟨kh,h2,h3⟩,⟨as,h4,h5⟩⟩,hi,hj,hy,q⟩:=h
 obtain⟨b,hb,dxb,vn,vu,vl,g1,⟨t,rfl,g2⟩,g3,g4⟩:=kj h5 hi
 obtain⟨c,hc,dxc,vn',vu',vl',k1,⟨t',rfl,k2⟩,k3,k4⟩:=kj h5 hj
 obtain⟨e,dk,z1,z2,z3⟩:=h3 y.nm hy
 have SF:(as.map V.ref)[i]?=some (.ref b):=by rw[ZZ,hb];rfl
 have hcj:(as.map V.ref)[j]?=some (.ref c):=by rw[ZZ,hc];rfl
 refine⟨_,(fV (h_ (GY (qG (by exact ja hr) (g_ (rV (g_ (pv 0) rfl) (pv 1)) rfl) (B1 hr (g_ (pv 0) rfl) (g_ (rV (g_ (pv 0) rfl) (pv 2)) rfl)))))),?_⟩
 refine⟨_,rfl,p,A.ig,dx,_,_,rfl,h1,O.j7,O.iw,k7 ah l,_,rfl,l,_,_,_,rfl,rfl,ib.of h4,gr rfl SF,b,A.hU,dxb,_,_,rfl,g1,O.iH,O.hZ,i4,?_⟩
 refine⟨_,rfl,p,A.ig,dx,_,_,rfl,h1,O.j7,O.ju,Eg ah l,_,rfl,p,A.ig,dx,_,_,rfl,h1,O.j7,O.iw,k7 ah l,_,rfl,l,_,_,_,rfl,rfl,ib.of h4,gr rfl hcj,c,A.hU,dxc,_,_,rfl,k1,O.iH,O.hZ,i4,ah,.ref e,rfl,?_,e,_,rfl,js.t (k:=nk x.nm) z2 g2,?_⟩
 ·have:=js.t (k:=nk y.nm) h2 k2
  rw[z1] at this
  exact this
 ·have e2:(iU dk (nk x.nm)).isSome=decide (Ah al x.nm y.nm):=by
   rw[abj,aa2];exact z3 x.nm
  rw[e2]
  exact q
def T8(A:Ad):Sp:=fun vs H Q _=>∃(p:Addr)(al row:List Ln),vs=[.ref p]∧Eh A H p al row∧(∀l∈row,l.nm∈al.map (·.nm))∧yt row.length∧∀r H' vs,gc H H'→H r=none→H' r=some (.lst vs)→je H' (ke (Ah al) row) vs→Q (.ref r) H'
open Classical in
noncomputable def vt(lt:Nm→Nm→Prop)(row:List Ln)(i m:Nat):List (Nat×Nat):=((List.range' (i+1) m).filter fun j=>decide (¬ltAt lt row i j)).map fun j=>(i,j)
noncomputable def C2(lt:Nm→Nm→Prop)(row:List Ln)(i:Nat):List (Nat×Nat):=(List.range i).flatMap fun i=>vt lt row i (row.length-(i+1))
theorem Im(lt:Nm→Nm→Prop)(row:List Ln):C2 lt row row.length=ke lt row:=rfl
theorem Ae(lt:Nm→Nm→Prop)(row:List Ln)(i:Nat):C2 lt row (i+1)=C2 lt row i++vt lt row i (row.length-(i+1)):=by
 unfold C2
 rw[ab_,aaM,aap,abc,aaF]
theorem Gh(lt:Nm→Nm→Prop)(row:List Ln)(i m:Nat)(h:¬ltAt lt row i (i+1+m)):vt lt row i (m+1)=vt lt row i m++[(i,i+1+m)]:=by
 unfold vt
 rw[show m+1=m+1 from rfl,←List.range'_append_1 (s:=i+1) (m:=m) (n:=1),aaD,aam]
 congr 1
 show List.map _ (List.filter _ [i+1+m])=_
 rw[Z8 (by simpa using h)]
 rfl
theorem Ei(lt:Nm→Nm→Prop)(row:List Ln)(i m:Nat)(h:ltAt lt row i (i+1+m)):vt lt row i (m+1)=vt lt row i m:=by
 unfold vt
 rw[←List.range'_append_1 (s:=i+1) (m:=m) (n:=1),aaD,aam]
 show _++List.map _ (List.filter _ [i+1+m])=_
 rw[aae (by simpa using h)]
 simp
theorem C3(lt:Nm→Nm→Prop)(row:List Ln)(i m:Nat):(vt lt row i m).length≤m:=by
 unfold vt
 rw[QR]
 exact aac (aaU _ _) (by rw[List.length_range'];exact TU _)
theorem C4(lt:Nm→Nm→Prop)(row:List Ln):∀i,(C2 lt row i).length≤i*row.length
 | 0=>aaE _
 | i+1=>by
  rw[Ae,TZ,Nat.succ_mul]
  have:=C4 lt row i
  have:=C3 lt row i (row.length-(i+1))
  omega
open Classical in
theorem yv(T:Txt mg)(O:Ok K mg A):iz P w K mg base mB 2 A.mH A.mI ["self"] (T8 A):=by
 have vB:=@C1 P w K mg base A T O
 refine O.lC.f.qJ jE fun jw A0 outer s H vs Q E hr h=>?_
 obtain⟨p,al,row,rfl,S,Rt,kq,q⟩:=h
 obtain⟨dx,ah,l,h1,h2,⟨as,h4,h5⟩⟩:=id S
 have hlen:=aad h5
 have Dm:row.length≤4000:=kq
 have sz:sizeLine=16777216:=aaA
 refine⟨_,(de (l6 1 jE (iX e_))
   (de (iQ aav rfl (j3 rfl T.kT (a_ (hE gg (by rfl) T.jG aas (a_ (g_ (pv 0) rfl) e_)) e_)) (uN 2 jE) (fV (iQ aav rfl (zD rfl T.kT (a_ (hX i8 (pv 2) fY) (a_ (hE gg (by rfl) T.jG aas (a_ (g_ (pv 0) rfl) e_)) e_))) (uN 3 jE) (fV (iy (jr (jM (HK (pv 0) O.j7 O.rj vB hr (a_ (pv 2) (a_ (pv 3) e_))))) (fV (ip (mW aaB aaI aaJ jx (pv 1) (a_ (lL (a_ (pv 2) (a_ (pv 3) e_))) e_)))) hV)))))
   (fV (h_ (pv 1))))),?_⟩
 refine DD ?_;intro _ _
 refine⟨L2.kq,fun r qB=>?_⟩
 have s1:gc H (upd H r (.lst [])):=(gc.refl H).new qB
 have el:((as.map V.ref).length:Int)=(row.length:Int):=by rw[QR,hlen]
 refine⟨_,rfl,p,A.ig,dx,_,_,rfl,s1 _ _ h1,O.j7,O.iw,k7 ah l,l,_,rfl,.inl (ib.of (s1 _ _ h4)),_,rfl,by omega,by omega,?_⟩
 rw[el,aa7]
 let Jv:=fun(i:Nat) (σ:St) (H2:Hp)=>∃(v2 v3:Option V)(vs:List V),σ=[rr p,rr r,v2,v3]∧gc H H2∧H2 r=some (.lst vs)∧je H2 (C2 (Ah al) row i) vs
 refine ku Jv ⟨none,none,[],rfl,s1,b_,.nil⟩ ?_ ?_
 ·rintro i σ H2 hi ⟨v2,v3,vs,rfl,s2,k1,k2⟩
  rw[show(0:Int)+(i:Int)=(i:Int) by omega]
  refine⟨_,rfl,_,_,rfl,rfl,_,rfl,p,A.ig,dx,_,_,rfl,s2 _ _ h1,O.j7,O.iw,k7 ah l,l,_,rfl,.inl (ib.of (s2 _ _ h4)),_,_,rfl,⟨by omega,by omega,by omega,by omega⟩,?_⟩
  rw[el,show((row.length:Int)-((i:Int)+1)).toNat=row.length-(i+1) by omega]
  let Jv:=fun(m:Nat) (σ:St) (H3:Hp)=>∃(v3:Option V)(vs:List V),σ=[rr p,rr r,ri i,v3]∧gc H H3∧H3 r=some (.lst vs)∧je H3 (C2 (Ah al) row i++vt (Ah al) row i m) vs
  refine ku Jv ⟨v3,vs,rfl,s2,k1,by unfold vt;simpa using k2⟩ ?_ ?_
  ·rintro m σ H3 hm ⟨v3,vs,rfl,s3,k1,k2⟩
   rw[show(i:Int)+1+(m:Int)=((i+1+m:Nat):Int) by omega]
   have hj:i+1+m<row.length:=by omega
   have ei:row[i]?=some row[i]:=QV hi
   have ej:row[i+1+m]?=some row[i+1+m]:=QV hj
   have vy:vs.length=(C2 (Ah al) row i++vt (Ah al) row i m).length:=(aad k2).symm
   have GJ:=C4 (Ah al) row i
   have Oa:=C3 (Ah al) row i m
   have hb3:i*row.length≤4000*4000:=Nat.mul_le_mul (by omega) Dm
   rw[TZ] at vy
   refine⟨_,rfl,p,dx,_,rfl,s3 _ _ h1,Nj ah l,_,rfl,_,rfl,p,al,row,i,i+1+m,_,_,rfl,S.same s3,ei,ej,Rt _ (List.getElem_mem hj),_,rfl,?_⟩
   have kr:ltAt (Ah al) row i (i+1+m)↔Ah al row[i].nm row[i+1+m].nm:=by
    constructor
    ·rintro⟨a,b,ha,hb,z⟩
     rw[ei] at ha;rw[ej] at hb;cases ha;cases hb
     exact z
    ·exact fun z=>⟨_,_,ei,ej,z⟩
   by_cases hc:Ah al row[i].nm row[i+1+m].nm
   ·rw[UN hc]
    exact jC ⟨_,vs,rfl,s3,k1,by rw[Ei _ _ _ _ (kr.mpr hc)];exact k2⟩
   ·rw[aab hc]
    refine nM ?_
    refine⟨_,rfl,.inl ⟨rfl,_,ib.of k1⟩,_,rfl,_,rfl,L2.kq,fun t ht=>?_⟩
    have XE:r≠t:=f_ k1 ht
    refine⟨r,vs,_,rfl,rfl,by rw[d_ XE];exact k1,by omega,?_⟩
    refine⟨_,vs++[.ref t],rfl,(s3.new ht).upd qB,b_,?_⟩
    rw[Gh _ _ _ _ (fun z=>hc (kr.mp z)),←aaL]
    refine ij (Paired.jK k2 fun a v ⟨b,e,hb⟩=>⟨b,e,?_⟩) ⟨t,rfl,?_⟩
    ·rw[d_ (jc hb k1 (by intro z;cases z)),d_ (f_ hb ht)];exact hb
    ·rw[d_ XE.symm,b_]
  ·rintro σ H3 ⟨v3,vs,rfl,s3,k1,k2⟩
   exact⟨_,_,vs,rfl,s3,k1,by rw[Ae];exact k2⟩
 ·rintro σ H2 ⟨v2,v3,vs,rfl,s2,k1,k2⟩
  exact⟨_,rfl,q r H2 vs s2 qB k1 (by rw[Im] at k2;exact k2)⟩
theorem CS.upd{H:Hp}{v:V}{n:Option Nm}{x:Addr}{o o':HO}(h:CS H v n)(hx:H x=some o')(ht:∀xs,o'≠.tup xs):CS (L2.upd H x o) v n:=by
 cases n with
 | none=>exact h
 | some n=>exact j8.upd h hx ht
theorem my.upd{A:Ad}{H:Hp}{a:Addr}{l:Ln}{x:Addr}{o o':HO}(h:my A H a l)(hx:H x=some o')(ht:∀xs,o'≠.tup xs)(hi:∀C dx fs,o'≠.ins C dx fs):my A (L2.upd H x o) a l:=by
 obtain⟨dx,vn,vu,vl,h0,h1,h2,h3⟩:=h
 exact⟨dx,vn,vu,vl,by rw[d_ (jc h0 hx (fun z=>hi _ _ _ z.symm))];exact h0,h1.upd hx ht,h2.upd hx ht,h3.upd hx ht⟩
theorem yw{A:Ad}{H:Hp}{as:List Addr}{ls:List Ln}(p:Paired (my A H) as ls){i:Nat}{l:Ln}(h:ls[i]?=some l):∃b,(as.map V.ref)[i]?=some (.ref b)∧my A H b l:=by
 obtain⟨b,hb,z⟩:=kj p h
 exact⟨b,by rw[ZZ,hb];rfl,z⟩
noncomputable def zm(p:Pt)(k:Nat):List (Option Nm):=p.iV.map some++(p.ik.take k).flatMap fun l=>[l.up,l.lo]
theorem named_eq(p:Pt):named p=(zm p p.ik.length).filterMap id:=by
 unfold named zm
 rw[aan,abx,List.filterMap_map]
 congr 1
 ·induction p.iV with
  | nil=>rfl
  | cons x r ih=>rw[abd];show _=x::_;rw[←ih]
 ·induction p.ik with
  | nil=>rfl
  | cons x r ih=>
   rw[aap,aap,abx,ih]
   congr 1
   cases x.up<;>cases x.lo<;>rfl
theorem yx(p:Pt)(k:Nat):(zm p k).length≤p.iV.length+2*k:=by
 unfold zm
 rw[TZ,QR]
 have:∀(ls:List Ln),(ls.flatMap fun l=>[l.up,l.lo]).length=2*ls.length:=fun ls=>by
  induction ls with
  | nil=>rfl
  | cons x r ih=>rw[aap,TZ,ih];simp only [WJ,List.length_nil];omega
 rw[this,aaG]
 omega
def KP(A:Ad):Sp:=fun vs H Q _=>∃(a:Addr)(p:Pt),vs=[.ref a]∧nN A H a p∧yt p.ik.length∧yt p.iV.length∧∀r H',gc H H'→H r=none→yq H' r (named p)→Q (.ref r) H'
theorem uB(T:Txt mg)(O:Ok K mg A):iz P w K mg base mB 1 A.oW A.oX ["patch"] (KP A):=by
 refine O.rb.f.qJ j5 fun jw A0 outer s H vs Q E hr h=>?_
 obtain⟨a,p,rfl,⟨dx,vf,pu,cu,vo,g1,g2,⟨as,g3,QX⟩,⟨cs,g4,OR⟩,g5⟩,EC,Dr,q⟩:=h
 have hlen:=aad QX
 have Fh:=aad OR
 have L0:p.ik.length≤4000:=EC
 have Je:p.iV.length≤4000:=Dr
 have sz:sizeLine=16777216:=aaA
 refine⟨_,(de (l6 1 j5 (uT tR (by rfl) T.sR abp (a_ (g_ (pv 0) rfl) e_)))
   (de (iQ aav rfl (iD (g_ (pv 0) rfl)) (uN 2 j5) (de (ip (mW aaB aaI aaJ jx (pv 1) (a_ (g_ (pv 2) rfl) e_)))
   (fV (ip (mW aaB aaI aaJ jx (pv 1) (a_ (g_ (pv 2) rfl) e_))))))
   (fV (h_ (AJ oR (fW kC).names [3] rfl (iD (pv 1)) rfl (by decide+kernel) (fun _ _ _ _=>(iJ (i:=3) j5.nd rfl (Or.inl rfl))) (fun _ _ _ _=>⟨_,pB (jq (nS (pv 3))),by(try simp only [lg]);rfl⟩) (fun _ _ _ _=>zV (pv 3))))))),?_⟩
 refine DD ?_;intro _ _
 refine⟨_,rfl,a,A.hG,dx,_,_,rfl,g1,O.iZ,O.jn,yp,cu,cs,rfl,.inl (ib.of g4),fun l hl=>?_⟩
 have s1:gc H (upd H l (.lst cs)):=(gc.refl H).new hl
 dsimp only [oJ];refine MP ?_;intro _
 let Jv:=fun(i:Nat) (σ:St) (H2:Hp)=>∃(v:Option V)(xs:List V),σ=[rr a,rr l,v,none]∧gc H H2∧H2 l=some (.lst xs)∧Paired (CS H) xs (zm p i)
 refine⟨_,rfl,a,A.hG,dx,_,_,rfl,s1 _ _ g1,O.iZ,O.jm,yo,pu,rfl,⟨_,ib.of (s1 _ _ g3)⟩,jz (K:=K) (a:=pu) (xs:=as.map V.ref) Jv
  ⟨none,cs,rfl,s1,b_,?_⟩ (by rintro _ _ _ _ ⟨_,_,_,s2,_⟩;exact ib.of (s2 _ _ g3)) ?_ ?_⟩
 ·unfold zm
  rw[abO,abc,aaF]
  clear Fh Je Dr q g4 s1
  generalize p.iV=ms at OR
  induction OR with
  | nil=>exact .nil
  | cons f t ih=>exact .cons f ih
 ·rintro i v σ H2 hx ⟨v0,xs,rfl,s2,h1,h2⟩
  obtain⟨b,hb,rfl⟩:=jZ hx
  obtain⟨ln,vy,JH,vn,vu,vl,k1,k2,k3,k4⟩:=ie QX hb
  have hi:i<p.ik.length:=(List.getElem?_eq_some_iff.mp vy).1
  have hxl:xs.length≤p.iV.length+2*i:=by rw[aad h2];exact yx p i
  have e:zm p (i+1)=zm p i++[ln.up]++[ln.lo]:=by
   unfold zm
   rw[take_snoc vy,aaM,aap,abc,aaL,aaL]
   rfl
  refine⟨_,rfl,.inl ⟨rfl,_,ib.of h1⟩,_,rfl,b,A.hU,JH,_,_,rfl,s2 _ _ k1,O.iH,O.iA,Bc,l,_,_,rfl,rfl,h1,by omega,?_⟩
  have s3:gc H (upd H2 l (.lst (xs++[vu]))):=s2.upd hl
  refine⟨_,rfl,.inl ⟨rfl,_,ib.of b_⟩,_,rfl,b,A.hU,JH,_,_,rfl,s3 _ _ k1,O.iH,O.iB,Be,l,_,_,rfl,rfl,b_,by rw[TZ];show xs.length+1<_;omega,?_⟩
  refine⟨_,_,rfl,s3.upd hl,b_,?_⟩
  rw[e]
  exact ij (ij h2 k3) k4
 ·rintro σ H2 ⟨v0,xs,rfl,s2,h1,h2⟩
  have e0:(as.map V.ref).length=p.ik.length:=by rw[QR,hlen]
  rw[e0] at h2
  have hxl:xs.length≤p.iV.length+2*p.ik.length:=by rw[aad h2];exact yx p _
  refine⟨_,rfl,l,rfl,⟨_,ib.of h1⟩,jU (K:=K) (a:=l) (xs:=xs) (by omega) (fun i ys σ H4=>∃(v3:Option V),σ=[rr a,rr l,v0,v3]∧H4=H2∧ys.length≤i∧Paired (j8 H) ys (((zm p p.ik.length).take i).filterMap id))
   ⟨none,rfl,rfl,TU _,.nil⟩ (by rintro _ _ _ _ _ ⟨_,_,e,e3,_⟩;subst e;exact⟨ib.of h1,e3⟩) ?_ ?_⟩
  ·rintro i v ys σ H4 hx ⟨v3,rfl,rfl,e3,h6⟩
   obtain⟨o,ho,hv⟩:=ie h2 hx
   refine⟨_,rfl,_,rfl,?_⟩
   rw[take_snoc ho,abx]
   cases o with
   | none=>
    rw[show v=V.iP from hv]
    exact⟨_,rfl,rfl,by omega,by simpa using h6⟩
   | some m=>
    obtain⟨t,rfl,ht⟩:=(show j8 H v m from hv)
    exact⟨_,rfl,_,rfl,rfl,M_,ij h6 ⟨t,rfl,ht⟩⟩
  ·rintro ys σ H4 ⟨v3,rfl,rfl,e3,h6⟩ r qB
   rw[aad h2,aan,←named_eq] at h6
   have s5:=s2.new (o:=.lst ys) qB
   exact q r _ s5 (s2.free qB) ⟨ys,b_,Paired.jK h6 fun _ _ z=>z.same s5⟩
def Nl(A:Ad):Sp:=fun vs H Q _=>∃(a:Addr)(p:Pt),vs=[.ref a]∧nN A H a p∧yt p.ik.length∧yt p.iV.length∧∀r H',gc H H'→H r=none→H' r=some (.lst (ia (iu p)))→Q (.ref r) H'
theorem Af(p:Pt):(named p).length≤p.iV.length+2*p.ik.length:=by
 rw[named_eq]
 exact aac (List.length_filterMap_le _ _) (yx p _)
theorem rD(T:Txt mg)(O:Ok K mg A):iz P w K mg base mB 2 A.mF A.mG ["patch"] (Nl A):=by
 have vC:=@uB P w K mg base A T O
 refine O.oj.f.qJ ki fun jw A0 outer s H vs Q E hr h=>?_
 obtain⟨a,p,rfl,pa,EC,Dr,q⟩:=h
 obtain⟨dx,vf,pu,cu,vo,g1,g2,g3,g4,g5⟩:=id pa
 have L0:p.ik.length≤4000:=EC
 have Je:p.iV.length≤4000:=Dr
 have sz:sizeLine=16777216:=aaA
 have Od:=Af p
 refine⟨_,(de (xI (j:=1) mE (fW jL).names [2] ki.nd rfl rfl rfl (iD (pk O.rb vC hr (a_ (pv 0) e_))) rfl (by decide+kernel) (fun _ _ _ _=>(iJ (i:=2) ki.nd rfl (Or.inl rfl))) (fun _ _ _ _=>⟨_,pB (iq qD (iC iF (pv 2) fY (fun _ _=>rfl)) (g_ (pv 0) rfl) (iS _)),by(try simp only [lg]);rfl⟩) (fun _ _ _ _=>zV (iC iF (pv 2) fY (fun _ _=>rfl))))
   (de (iy (jq (nS (g_ (pv 0) rfl))) (fV (ip (mW aaB aaI aaJ jx (pv 1) (a_ (g_ (pv 0) rfl) e_)))) hV)
   (fV (h_ (pv 1))))),?_⟩
 refine DD ?_;intro _ _
 refine⟨_,rfl,a,p,rfl,pa,EC,Dr,fun n H1 s1 hn0 ⟨ns,XF,La⟩=>?_⟩
 have Vj:=aad La
 let Jv:=fun(i:Nat) (ys:List V) (σ:St) (H4:Hp)=>∃(v2:Option V)(zs:List Str),σ=[rr a,none,v2]∧H4=H1∧ys=ia zs∧zs.length≤i∧zs=(((named p).take i).filter fun n=>n.1≠p.nm).map (·.1)
 refine⟨n,rfl,⟨_,ib.of XF⟩,jU (K:=K) (a:=n) (xs:=ns) (by omega) Jv
  ⟨none,[],rfl,rfl,rfl,TU _,rfl⟩ (by rintro _ _ _ _ _ ⟨_,zs,_,e,e2,e3,_⟩;subst e e2;exact⟨ib.of XF,by rw[QR];exact e3⟩) ?_ ?_⟩
 ·rintro i v ys σ H4 hx ⟨v2,zs,rfl,rfl,rfl,e3,e4⟩
  obtain⟨m,hm,t,rfl,ht⟩:=ie La hx
  have Vk:FD ((nk m).map kV) 0=some (V.str m.1):=gr (j:=0) rfl rfl
  refine⟨_,rfl,t,_,0,_,rfl,rfl,lJ.of ht,Vk,_,rfl,a,A.hG,dx,_,_,rfl,s1 _ _ g1,O.iZ,O.iW,rn,rfl,_,rfl,?_⟩
  have ed:decide (V.str m.1=V.str p.nm)=decide (m.1=p.nm):=by
   by_cases e:m.1=p.nm
   ·rw[UN e,UN (aaQ V.str e)]
   ·rw[aab e,aab fun z=>e (V.str.inj z)]
  rw[ed]
  subst e4
  by_cases e:m.1=p.nm
  ·rw[UN e]
   refine jC ⟨_,_,rfl,rfl,rfl,by omega,?_⟩
   rw[take_snoc hm,aaD,aae (by simpa using e)]
   simp
  ·rw[aab e]
   refine nM ⟨_,rfl,t,_,0,_,rfl,rfl,lJ.of ht,Vk,_,_,rfl,rfl,ky _ _,by rw[TZ];show _+1≤_;omega,?_⟩
   rw[take_snoc hm,aaD,Z8 (by simpa using e)]
   simp
 ·rintro ys σ H4 ⟨v2,zs,rfl,rfl,rfl,e3,e4⟩ r qB
  rw[Vj,aan] at e4
  have s5:=s1.new (o:=.lst (ia zs)) qB
  refine⟨_,rfl,a,A.hG,dx,_,_,rfl,s5 _ _ g1,O.iZ,O.iN,pd,_,rfl,?_⟩
  unfold iu at q
  rw[←e4] at q
  cases ho:p.other with
  | none=>
   rw[ho] at g5 q
   rw[show vo=V.iP from g5]
   exact⟨_,rfl,q r _ s5 (s1.free qB) (by rw[b_];simp)⟩
  | some x=>
   rw[ho] at g5 q
   rw[show vo=V.str x from g5] at g1 ⊢
   refine⟨_,rfl,.inl ⟨rfl,_,ib.of b_⟩,_,rfl,a,A.hG,dx,_,_,rfl,s5 _ _ g1,O.iZ,O.iN,pd,r,_,_,rfl,rfl,b_,by rw[QR];omega,?_⟩
   exact⟨_,rfl,q r _ (s5.upd (s1.free qB)) (s1.free qB) (by rw[b_];show _=some (HO.lst (ia (zs++[x])));rw[←ky])⟩
def Qe(H:Hp)(a:Addr)(kn:Nat→Option Nm):Prop:=∃kvs:List (Key×V),H a=some (.dK kvs)∧∀s:Nat,match kn s with|some m=>∃v,iU kvs (Sum.inl (s:Int))=some v∧j8 H v m|none=>iU kvs (Sum.inl (s:Int))=none
def T9:Sp:=fun vs H Q _=>∃(a:Addr)(n:Nat)(kn:Nat→Option Nm),vs=[.ref a,.int n]∧Qe H a kn∧n≤4000∧∀p H' xs,gc H H'→H p=none→H' p=some (.lst xs)→xs.length=n→(∀i v,xs[i]?=some v→CS H v (DE kn (n-1-i) i))→Q (.ref p) H'
theorem yy(T:Txt mg)(O:Ok K mg A):iz P w K mg base mB 1 A.sr A.su ["kept_names","size"] T9:=by
 refine O.wF.f.qJ nB fun jw A0 outer s H vs Q E hr h=>?_
 obtain⟨a,n,kn,rfl,⟨kvs,h1,h2⟩,hn,q⟩:=h
 have sz:sizeLine=16777216:=aaA
 refine⟨_,(de (l6 2 nB (hX DY (iX (a_ k9 e_)) (pv 1)))
   (de (iQ aav rfl (uV rfl T.kT (a_ (hX uP (pv 1) fY) (a_ (xB sH fY) (a_ (xB sH fY) e_)))) (uN 3 nB) (fV (Ay (Hi (by exact ja hr) (pv 0) (hX i8 (pv 3) fY) (rV (pv 2) (hX i8 (pv 3) fY)) ⟨rfl,rfl,rfl,rfl⟩) (Ax (pv 2) (pv 3) set_list))))
   (fV (h_ (pv 2))))),?_⟩
 refine DD ?_;intro _ _
 refine⟨L2.kq,fun l hl=>?_⟩
 refine⟨_,rfl,l,_,_,rfl,rfl,b_,by omega,by omega,by simp;omega,fun p hp=>?_⟩
 have nQ:p≠l:=fun z=>by rw[z,b_] at hp;cases hp
 have GI:H p=none:=by rw[d_ nQ] at hp;exact hp
 have e0:(List.replicate (n:Int).toNat [V.iP]).flatten=List.replicate n V.iP:=by
  rw[aa7]
  clear q hn
  induction n with
  | zero=>rfl
  | succ n ih=>rw[aa4,abS,ih,aa4];rfl
 rw[e0]
 have s1:gc H (upd (upd H l (.lst [V.iP])) p (.lst (List.replicate n V.iP))):=((gc.refl H).upd hl).upd GI
 refine⟨_,rfl,_,_,rfl,rfl,_,rfl,_,rfl,_,_,rfl,⟨by omega,by omega,by omega,by omega⟩,?_⟩
 rw[show((n:Int)-2 - -1).toNat=n-1 by omega]
 let Jv:=fun(m:Nat) (σ:St) (H2:Hp)=>∃(v:Option V)(xs:List V),σ=[rr a,ri n,rr p,v]∧gc H H2∧H2 p=some (.lst xs)∧xs.length=n∧∀i v,xs[i]?=some v→n-1≤i+m→CS H v (DE kn (n-1-i) i)
 refine sL Jv ⟨none,_,rfl,s1,b_,by simp,fun i v hv hi=>?_⟩ ?_ ?_
 ·have kr:i<n:=by have:=(List.getElem?_eq_some_iff.mp hv).1;simpa using this
  have:v=V.iP:=by
   have:=UK hv
   exact List.eq_of_mem_replicate this
  rw[this,show n-1-i=0 by omega]
  exact rfl
 ·rintro m σ H2 hm ⟨v0,xs,rfl,s2,k1,k2,k3⟩
  obtain⟨j,hj⟩:∃j,j+m+2=n:=⟨n-2-m,by omega⟩
  rw[show(n:Int)-2+(m:Int) * -1=(j:Int) by omega]
  have hx:xs[j+1]?=some xs[j+1]:=QV (by omega)
  refine⟨_,rfl,a,rfl,.inl ⟨_,.inl (s2 _ _ h1)⟩,_,rfl,_,_,rfl,rfl,_,rfl,_,rfl,_,_,rfl,rfl,p,_,_,_,rfl,rfl,ib.of k1,gr (j:=j+1) (by omega) hx,_,js.k (k:=Sum.inl ((j:Int)+1)) (s2 _ _ h1),?_⟩
  refine⟨_,rfl,_,rfl,p,_,_,j,rfl,rfl,k1,AM rfl (by omega),?_⟩
  refine⟨_,_,rfl,s2.upd GI,b_,by rw[ach];exact k2,fun i v hv hi=>?_⟩
  by_cases e:i=j
  ·subst e
   rw[aa9 (by omega)] at hv
   have hv:=aao hv
   rw[←hv,show n-1-i=(n-1-(i+1))+1 by omega]
   unfold DE
   have h3:=h2 (i+1)
   rw[show((i+1:Nat):Int)=(i:Int)+1 by omega] at h3
   cases hk:kn (i+1) with
   | none=>
    rw[hk] at h3
    rw[h3]
    exact k3 (i+1) _ hx (by omega)
   | some mm=>
    rw[hk] at h3
    obtain⟨u,z1,z2⟩:=h3
    rw[z1]
    exact z2
  ·rw[abm (fun z=>e z.symm)] at hv
   exact k3 i v hv (by omega)
 ·rintro σ H2 ⟨v0,xs,rfl,s2,k1,k2,k3⟩
  exact⟨_,rfl,q p H2 xs s2 GI k1 k2 fun i v hv=>k3 i v hv (by omega)⟩
def T_(K:Qqy)(A:Ad):Sp:=fun vs H Q _=>∃(x:Str)(t a:Addr)(texts:List Str)(kn:Nat→Option Nm),vs=[.str x,.ref t,.ref a]∧ib K H t (ia texts)∧(∀H',gc H H'→ib K H' t (ia texts))∧Qe H a kn∧texts.length≤4000∧∀p H',gc H H'→H p=none→pY A H' p (j1 x texts kn)→Q (.ref p) H'
theorem Bn(T:Txt mg)(O:Ok K mg A):iz P w K mg base mB 3 A.wc A.wd ["patch","texts","kept_names"] (T_ K A):=by
 have zA:=@yy P w K mg base A T O
 have xc:=@Bm P w K mg base A T O
 refine O.z7.f.qJ jF fun jw A0 outer s H vs Q E hr h=>?_
 obtain⟨x,t,a,texts,kn,rfl,_,ht,XG,hn,q⟩:=h
 have sz:sizeLine=16777216:=aaA
 have et:((ia texts).length:Int)=(texts.length:Int):=by simp
 obtain⟨kvs,h1,h2⟩:=id XG
 refine⟨_,(de (l6 3 jF (pk O.wF zA hr (a_ (pv 2) (a_ (hE gg (by rfl) T.jG aas (a_ (pv 1) e_)) e_))))
   (de (l6 4 jF (iX e_))
   (de (l6 5 jF k9)
   (de (iQ aav rfl (Kq rfl T.CI (a_ (pv 1) e_)) (GZ rfl (tK (uN 6 jF) (tK (uN 7 jF) EK))) (fV (iy (jq (qG (by exact ja hr) (pv 6) (pv 2))) (fV (l6 5 jF (B1 hr (pv 2) (pv 6)))) (de (ip (mW aaB aaI aaJ jx (pv 4) (a_ (tO O.M6 xc (hr.mono (by decide)) (by rfl) O.M7 O.sy.b .nil qj (a_ (lL (a_ (pv 0) (a_ (hE gg (by rfl) T.jG aas (a_ (pv 4) e_)) e_))) (a_ (pv 7) (a_ (pv 5) (a_ (rV (pv 3) (pv 6)) e_))))) e_)))
   (fV (l6 5 jF (g_ (rV (pv 4) (xB sH fY)) rfl)))))))
   (fV (h_ (pv 4))))))),?_⟩
 refine MO ?_;intro _ _ _ _
 refine⟨_,rfl,_,rfl,t,_,rfl,.inl (ht H (gc.refl H)),?_⟩
 rw[et]
 refine⟨a,texts.length,kn,rfl,XG,hn,fun b H1 bs s1 L1 GJ LS Q8=>?_⟩
 refine⟨L2.kq,fun l hl=>?_⟩
 have UO:H l=none:=s1.free hl
 have s2:gc H1 (upd H1 l (.lst [])):=(gc.refl H1).new hl
 refine⟨_,rfl,t,rfl,⟨_,ht _ (s1.trans s2)⟩,HJ (K:=K) (a:=t) (xs:=ia texts) (fun i σ H2=>∃(v6 v7:Option V)(vu:V)(u:Option Nm)(as:List Addr)(acc:List Ln),σ=[rs x,rr t,rr a,rr b,rr l,some vu,v6,v7]∧gc H1 H2∧H2 l=some (.lst (as.map V.ref))∧Paired (my A H2) as acc∧acc.length≤i∧CS H2 vu u∧acc++pI x kn i acc.length u (texts.drop i)=j1 x texts kn)
  ⟨none,none,.iP,none,[],[],rfl,s2,b_,.nil,TU _,rfl,rfl⟩ (by rintro _ _ _ _ ⟨_,_,_,_,_,_,_,s3,_⟩;exact ht _ (s1.trans s3)) ?_ ?_⟩
 ·rintro i tv e σ H2 hx ⟨v6,v7,vu,u,as,acc,rfl,s3,k1,k2,k3,k4,k5⟩ he
  obtain⟨tx,XH,rfl⟩:=xk hx
  have hi:i<texts.length:=(List.getElem?_eq_some_iff.mp XH).1
  have hd:texts.drop i=tx::texts.drop (i+1):=by rw[aaS hi];congr 1;exact(List.getElem?_eq_some_iff.mp XH).2
  have s4:gc H2 (upd H2 e (.tup [.int i,.str tx])):=(gc.refl H2).new he
  have L3:=s3.trans s4
  rw[hd] at k5
  unfold pI at k5
  refine⟨e,_,rfl,lJ.of b_,rfl,_,_,rfl,_,_,rfl,rfl,?_⟩
  refine⟨_,rfl,_,rfl,a,_,rfl,js.k (k:=Sum.inl (i:Int)) (L3 _ _ (s1 _ _ h1)),_,rfl,?_⟩
  have h3:=h2 i
  cases hk:kn i with
  | some m=>
   rw[hk] at h3 k5
   obtain⟨u',z1,z2⟩:=h3
   rw[z1]
   refine nM ⟨_,rfl,_,rfl,a,u',rfl,?_,?_⟩
   ·have:=js.k (k:=Sum.inl (i:Int)) (L3 _ _ (s1 _ _ h1))
    rw[z1] at this
    exact this
   ·exact⟨_,_,_,some m,as,acc,rfl,L3,s4 _ _ k1,Paired.jK k2 fun _ _ z=>z.same s4,by omega,(z2.same s1).same L3,k5⟩
  | none=>
   rw[hk] at h3 k5
   rw[h3]
   have Rt:=aad k2
   have el:((as.map V.ref).length:Int)=(acc.length:Int):=by rw[QR,Rt]
   refine jC ⟨_,rfl,.inl ⟨rfl,_,ib.of (s4 _ _ k1)⟩,_,rfl,_,rfl,l,_,rfl,.inl (ib.of (s4 _ _ k1)),?_⟩
   rw[el]
   refine⟨L2.kq,fun nt XI=>?_⟩
   have s5:=L3.new (o:=.tup [.str x,.int acc.length]) XI
   obtain⟨bv,XJ⟩:∃bv,bs[i]?=some bv:=⟨_,QV (by omega)⟩
   refine⟨_,rfl,_,rfl,_,rfl,_,rfl,b,_,_,_,rfl,rfl,ib.of (s5 _ _ GJ),gr rfl XJ,?_⟩
   intro o dx no Og Vl
   have Lm:gc (upd (upd H2 e (.tup [.int i,.str tx])) nt (.tup [.str x,.int acc.length])) (upd (upd (upd (upd H2 e (.tup [.int i,.str tx])) nt (.tup [.str x,.int acc.length])) dx (.own o)) o (.ins A.hU dx [])):=fun c u e=>by
    rw[d_ (f_ e no),d_ (f_ e Og)]
    exact e
   refine⟨o,dx,_,_,_,_,rfl,b_,fun H6 r6 r7=>⟨rfl,?_⟩⟩
   have s6:gc (upd (upd H2 e (.tup [.int i,.str tx])) nt (.tup [.str x,.int acc.length])) H6:=fun c u ec=>by
    rw[r6 c (f_ ec no)]
    exact Lm c u ec
   have Lo:gc H2 H6:=(s4.new XI).trans s6
   have Ru:=Lo _ _ k1
   have JY:my A H6 o ⟨(x,acc.length),tx,u,DE kn (texts.drop (i+1)).length i⟩:=⟨dx,.ref nt,vu,bv,r7,⟨nt,rfl,s6 _ _ b_⟩,k4.same Lo,by
    have:=Q8 i bv XJ
    rw[abY,show texts.length-(i+1)=texts.length-1-i by omega]
    exact(this.same s1).same (s3.trans Lo)⟩
   refine⟨l,_,_,rfl,rfl,Ru,by rw[QR];omega,?_⟩
   have lo:l≠o:=fun z=>by rw[z,r7] at Ru;cases Ru
   have e7:upd H6 l (.lst (as.map V.ref++[V.ref o])) l=some (.lst ((as++[o]).map V.ref)):=by rw[b_,aam];rfl
   have up:∀c ln,my A H6 c ln→my A (upd H6 l (.lst (as.map V.ref++[V.ref o]))) c ln:=fun c ln z=>z.upd Ru (fun _ z=>by cases z) (fun _ _ _ z=>by cases z)
   have r77:upd H6 l (.lst (as.map V.ref++[V.ref o])) o=some (.ins A.hU dx (KD (.ref nt) (.str tx) vu bv)):=by rw[d_ lo.symm];exact r7
   refine⟨_,rfl,_,rfl,l,_,_,_,rfl,rfl,ib.of b_,G_ _ _,o,A.hU,dx,_,_,rfl,r77,O.iH,O.hZ,i4,?_⟩
   refine⟨_,_,_,some (x,acc.length),as++[o],acc++[⟨(x,acc.length),tx,u,DE kn (texts.drop (i+1)).length i⟩],rfl,(s3.trans Lo).upd hl,e7,?_,M_,?_,?_⟩
   ·exact ij (Paired.jK k2 fun c ln z=>up c ln (z.same Lo)) (up _ _ JY)
   ·exact j8.upd ⟨nt,rfl,s6 _ _ b_⟩ Ru (fun _ z=>by cases z)
   ·rw[aaL,TZ]
    exact k5
 ·rintro σ H2 ⟨v6,v7,vu,u,as,acc,rfl,s3,k1,k2,k3,k4,k5⟩
  rw[show(ia texts).length=texts.length by simp,acg] at k5
  rw[show pI x kn texts.length acc.length u []=[] from rfl,aaF] at k5
  rw[k5] at k2
  exact⟨_,rfl,q l H2 (s1.trans s3) UO ⟨as,k1,k2⟩⟩
theorem E8{row:List Ln}{q:Nat×Nat}:∀{xs:List (Nat×Nat)},q.2∉xs.map (·.2)→∀s,lH row (xs++[q]) s=if q.2=s then(row[q.1]?).map (·.nm) else lH row xs s
 | [],_,s=>rfl
 | x::r,h,s=>by
  rw[aaq] at h
  have h1:q.2≠x.2:=fun z=>h (by rw[z];exact aal)
  have h2:q.2∉r.map (·.2):=fun z=>h (Z4 _ z)
  show(if x.2=s then _ else lH row (r++[q]) s)=if q.2=s then _ else(if x.2=s then _ else lH row r s)
  by_cases e:x.2=s
  ·rw[aak e,aai (fun z=>h1 (by rw[z,e])),aak e]
  ·rw[aai e,aai e,E8 h2 s]
theorem Gi{row:List Ln}{q:Nat×Nat}{l:Ln}(xs:List (Nat×Nat))(h:row[q.1]?=some l):mj row (xs++[q])=mj row xs++[l.nm]:=by
 unfold mj
 rw[abx,abd,h]
 rfl
theorem Io(T:Txt mg)(O:Ok K mg A):iz P w K mg base mB 3 A.HX A.HY ["old","new"] Kp.WQ:=
 Kp.KN O.kept.f ⟨T.jG,T.kT,T.PX⟩ O.ra.f O.ra.b O.ra.m O.sV.f O.sV.b O.sV.m O.sW.f O.sW.b O.sW.m
def Qf(A:Ad):Sp:=fun vs H Q _=>∃(x f:Str)(r t:Addr)(row:List Ln)(texts:List Str),vs=[.str x,.str f,.ref r,.ref t]∧pY A H r row∧H t=some (.lst (ia texts))∧row.length≤1000∧texts.length≤1000∧
 ∀p H',gc H H'→H p=none→nN A H' p (iG x f row texts)→Q (.ref p) H'
theorem uC(T:Txt mg)(O:Ok K mg A):iz P w K mg base mB 4 A.o8 A.o9 ["patch","file","row","texts"] (Qf A):=by
 have Oh:=@Io P w K mg base A T O
 have Ds:=@Bn P w K mg base A T O
 have jQ:=@oC P w K mg base A T O
 refine O.rl.f.qJ iL fun jw A0 outer s H vs Q E hr h=>?_
 obtain⟨x,f,r,t,row,texts,rfl,uJ,ht,hn,hm,q⟩:=h
 obtain⟨as,y4,BG⟩:=id uJ
 have hlen:=aad BG
 have sz:sizeLine=16777216:=aaA
 refine⟨_,(de (l6 4 iL mZ)
   (de (kU (i:=5) iL.nd rfl (Or.inr rfl) l9)
   (de (iQ aav rfl (iD (pk O.kept Oh hr (a_ (sd lT (fW jO).names [9] rfl (iD (pv 2)) rfl (by decide+kernel) (fun _ _ _ _=>(iJ (i:=9) iL.nd rfl (Or.inl rfl))) (fun _ _ _ _=>mf) (fun _ _ _ _=>zV (g_ (pv 9) rfl))) (a_ (pv 3) e_)))) (GZ rfl (tK (uN 6 iL) (tK (uN 7 iL) EK))) (de (jB (by exact ja hr) (pv 4) (pv 7) (g_ (rV (pv 2) (pv 6)) rfl) rfl)
   (fV (jB (by exact ja hr) (pv 5) (g_ (rV (pv 2) (pv 6)) rfl) jS rfl))))
   (de (xI (j:=8) lT (fW jO).names [9] iL.nd rfl rfl rfl (iD (pv 2)) rfl (by decide+kernel) (fun _ _ _ _=>(iJ (i:=9) iL.nd rfl (Or.inl rfl))) (fun _ _ _ _=>⟨_,pB (jq (lM (by exact ja hr) (g_ (pv 9) rfl) (pv 5))),by(try simp only [lg]);rfl⟩) (fun _ _ _ _=>zV (g_ (pv 9) rfl)))
   (fV (h_ (tO O.A_ jQ (hr.mono (by decide)) (by rfl) O.Ba O.lB.b .nil qj (a_ (pv 0) (a_ (pv 1) (a_ (pk O.z7 Ds hr (a_ (pv 0) (a_ (pv 3) (a_ (pv 4) e_)))) (a_ (pv 8) (a_ k9 e_)))))))))))),?_⟩
 refine MO ?_;intro _ _ _ _
 intro k Rv g SG
 have Vm:k≠g:=fun z=>by rw[←z,b_] at SG;cases SG
 have XM:H g=none:=(gc.refl H |>.new (o:=.dK []) Rv).free SG
 have s1:gc H (upd (upd H k (.dK [])) g (.dT [])):=((gc.refl H).new Rv).new SG
 have SH:(upd (upd H k (.dK [])) g (.dT [])) k=some (.dK []):=by rw[d_ Vm];exact b_
 have JD:(upd (upd H k (.dK [])) g (.dT [])) g=some (.dT []):=b_
 generalize upd (upd H k (.dK [])) g (.dT [])=H1 at s1 SH JD
 have Ob:(as.map V.ref).length≤sizeLine:=by rw[QR,hlen];omega
 let Jv:=fun(i:Nat) (ys:List V) (σ:St) (H4:Hp)=>∃(v9:Option V),σ=[rs x,rs f,rr r,rr t,rr k,rr g,none,none,none,v9]∧H4=H1∧ys=ia ((row.take i).map (·.tx))
 refine⟨_,rfl,r,rfl,⟨_,ib.of (s1 _ _ y4)⟩,jU (K:=K) (a:=r) (xs:=as.map V.ref) Ob Jv
  ⟨none,rfl,rfl,rfl⟩ (by rintro _ _ _ _ _ ⟨_,_,e,e2⟩;subst e e2;exact⟨ib.of (s1 _ _ y4),by rw[QR,QR,aaG];omega⟩) ?_ ?_⟩
 ·rintro i v ys σ H4 hx ⟨v9,rfl,rfl,rfl⟩
  obtain⟨b,hb,rfl⟩:=jZ hx
  obtain⟨ln,vy,dx,vn,vu,vl,k1,k2,k3,k4⟩:=ie BG hb
  refine⟨_,rfl,b,A.hU,dx,_,_,rfl,s1 _ _ k1,O.iH,O.ji,uv,_,rfl,rfl,?_⟩
  rw[take_snoc vy,aam,ky]
  rfl
 ·rintro ys σ H4 ⟨v9,rfl,rfl,rfl⟩ o Oi
  rw[QR,hlen,aan]
  have s2:gc H4 (upd H4 o (.lst (ia (row.map (·.tx))))):=(gc.refl H4).new Oi
  refine⟨_,rfl,row.map (·.tx),texts,o,t,rfl,b_,s2 _ _ (s1 _ _ ht),by rw[QR];exact hn,hm,fun pr H5 ps s5 GK Rw Oj=>?_⟩
  have JI:gc H4 H5:=s2.trans s5
  have XN:gc H H5:=s1.trans JI
  have rise:=oP (row.map (·.tx)) texts
  rw[QR] at rise
  have Vn:(K01.kept (row.map (·.tx)) texts).length≤1000:=by
   rw[K01.vQ]
   have:=K01.Cv (row.map (·.tx)) texts
   rw[QR] at this
   omega
  generalize hqs:K01.kept (row.map (·.tx)) texts=qs at Oj rise Vn
  have Rj:=aad Oj
  let Jv:=fun(i:Nat) (σ:St) (H6:Hp)=>∃(v6 v7:Option V)(kk:List (Key×V))(kg:List (List Key×V)),σ=[rs x,rs f,rr r,rr t,rr k,rr g,v6,v7,none,none]∧(∀b o,H5 b=some o→b≠k→b≠g→H6 b=some o)∧H6 k=some (.dK kk)∧kk.length≤i∧(∀s:Nat,match lH row (qs.take i) s with|some m=>∃v,iU kk (Sum.inl (s:Int))=some v∧j8 H v m|none=>iU kk (Sum.inl (s:Int))=none)∧H6 g=some (.dT kg)∧kg.length≤i∧OJ kg (mj row (qs.take i))
  refine⟨pr,rfl,⟨_,ib.of Rw⟩,jz (K:=K) (a:=pr) (xs:=ps) Jv
   ⟨none,none,[],[],rfl,fun b o e _ _=>e,JI _ _ SH,TU _,(fun s=>by rw[abO];exact rfl),JI _ _ JD,TU _,(fun n=>rfl)⟩ (by rintro _ _ _ _ ⟨_,_,_,_,_,e,_⟩;exact ib.of (e _ _ Rw (fun z=>by rw[z] at GK;rw[s2 _ _ SH] at GK;cases GK) (fun z=>by rw[z] at GK;rw[s2 _ _ JD] at GK;cases GK))) ?_ ?_⟩
  ·rintro i v σ H6 hx ⟨v6,v7,kk,kg,rfl,e1,e2,e3,e4,e5,e6,e7⟩
   obtain⟨qq,hq,pt,rfl,Ar⟩:=kj Oj hx
   have Vo:H5 k=some (.dK []):=JI _ _ SH
   have Vp:H5 g=some (.dT []):=JI _ _ JD
   have hi:i<qs.length:=(List.getElem?_eq_some_iff.mp hq).1
   obtain⟨GJ,Oa⟩:=rise.2 qq (UK hq)
   obtain⟨b,SF,XO⟩:=yw BG (QV GJ)
   have EA:row[qq.1]?=some row[qq.1]:=QV GJ
   generalize row[qq.1]=ln at XO EA
   obtain⟨dx,vn,vu,vl,z1,⟨nt,rfl,z2⟩,z3,z4⟩:=XO
   have up:∀{b o},H b=some o→H6 b=some o:=fun{b o} e=>e1 b o (XN _ _ e) (fun z=>by rw[z,Rv] at e;cases e) (fun z=>by rw[z,XM] at e;cases e)
   refine⟨pt,_,rfl,lJ.of (e1 _ _ Ar (jc Ar Vo (fun z=>by cases z)) (jc Ar Vp (fun z=>by cases z))),rfl,_,_,rfl,_,_,rfl,rfl,?_⟩
   refine⟨_,rfl,_,rfl,r,_,_,_,rfl,rfl,ib.of (up y4),gr rfl SF,b,A.hU,dx,_,_,rfl,up z1,O.iH,O.hZ,i4,_,rfl,_,rfl,k,_,rfl,mY.k (k:=Sum.inl (qq.2:Int)) e2 (by omega),?_⟩
   have Vq:∀{b o},H b=some o→upd H6 k (.dK (putK kk (Sum.inl (qq.2:Int)) (V.ref nt))) b=some o:=fun{b o} e=>by rw[d_ (fun z=>by rw[z,Rv] at e;cases e)];exact up e
   have UI:=jk kk (Sum.inl (qq.2:Int):Key) (V.ref nt)
   have IP:=jk kg (nk ln.nm) (V.bl true)
   refine⟨_,rfl,_,rfl,_,rfl,r,_,_,_,rfl,rfl,ib.of (Vq y4),gr rfl SF,b,A.hU,dx,_,_,rfl,Vq z1,O.iH,O.hZ,i4,g,_,rfl,mY.t (k:=nk ln.nm) (by rw[d_ Vm.symm];exact e5) (Vq z2) (by omega),?_⟩
   have Vr:qq.2∉(qs.take i).map (·.2):=fun z=>by
    obtain⟨w1,hw1,ew⟩:=aaw.mp z
    obtain⟨j,hj⟩:=aaH.mp hw1
    have Li:j<i:=by have:=(List.getElem?_eq_some_iff.mp hj).1;rw[aaG] at this;omega
    rw[List.getElem?_take,aak Li] at hj
    obtain⟨hj1,hj2⟩:=List.getElem?_eq_some_iff.mp hj
    have:=aaY.mp rise.1 j i hj1 hi Li
    rw[hj2,(List.getElem?_eq_some_iff.mp hq).2] at this
    omega
   refine⟨_,_,_,_,rfl,fun b o e nk ng=>?_,by rw[d_ Vm];exact b_,by omega,fun s=>?_,b_,by omega,?_⟩
   ·rw[d_ ng,d_ nk];exact e1 b o e nk ng
   ·rw[take_snoc hq,E8 Vr,j0]
    by_cases es:qq.2=s
    ·subst es
     rw[aak rfl,aak rfl,EA]
     exact⟨_,rfl,nt,rfl,z2⟩
    ·rw[aai es,aai (fun z=>es (by have:=Sum.inl.inj z;omega))]
     exact e4 s
   ·rw[take_snoc hq,Gi _ EA]
    exact e7.put ln.nm _
  ·rintro σ H6 ⟨v6,v7,kk,kg,rfl,e1,e2,e3,e4,e5,e6,e7⟩
   rw[←Rj,aan] at e4 e7
   have up:∀{b o},H b=some o→H6 b=some o:=fun{b o} e=>e1 b o (XN _ _ e) (fun z=>by rw[z,Rv] at e;cases e) (fun z=>by rw[z,XM] at e;cases e)
   have sH6:gc H H6:=fun b o e=>up e
   refine⟨_,rfl,r,rfl,⟨_,ib.of (up y4)⟩,jU (K:=K) (a:=r) (xs:=as.map V.ref) Ob (fun i ys σ H4=>∃(v9:Option V),σ=[rs x,rs f,rr r,rr t,rr k,rr g,v6,v7,none,v9]∧H4=H6∧ys.length≤i∧Paired (j8 H) ys (((row.take i).filter fun l=>l.nm∉mj row qs).map (·.nm)))
    ⟨none,rfl,rfl,TU _,.nil⟩ (by rintro _ _ _ _ _ ⟨_,_,e,e20,_⟩;rw[e];exact⟨ib.of (up y4),e20⟩) ?_ ?_⟩
   ·rintro i v ys σ H7 hx ⟨v9,rfl,rfl,e8,e9⟩
    obtain⟨b,hb,rfl⟩:=jZ hx
    obtain⟨ln,vy,dx,vn,vu,vl,k1,⟨nt,rfl,k2⟩,k3,k4⟩:=ie BG hb
    refine⟨_,rfl,b,A.hU,dx,_,_,rfl,up k1,O.iH,O.hZ,i4,_,rfl,g,_,rfl,js.t (k:=nk ln.nm) e5 (up k2),_,rfl,?_⟩
    rw[e7 ln.nm,take_snoc vy,aaD,aam]
    by_cases xb:ln.nm∈mj row qs
    ·rw[UN xb]
     refine jC ⟨_,rfl,rfl,by omega,?_⟩
     rw[aae (by simpa using xb),aa6,List.map_nil,aaF]
     exact e9
    ·rw[aab xb]
     refine nM ⟨_,rfl,b,A.hU,dx,_,_,rfl,up k1,O.iH,O.hZ,i4,_,rfl,rfl,M_,?_⟩
     rw[Z8 (by simpa using xb),aa6]
     exact ij e9 ⟨nt,rfl,k2⟩
   ·rintro ys σ H7 ⟨v9,rfl,rfl,e8,e9⟩ c Vs
    rw[QR,hlen,aan] at e9
    have s8:=sH6.new (o:=.lst ys) Vs
    have U9:c≠k:=fun z=>by rw[z,e2] at Vs;cases Vs
    refine⟨_,rfl,_,rfl,_,rfl,_,rfl,_,rfl,x,t,k,texts,lH row qs,rfl,ib.of (s8 _ _ ht),fun H' s'=>ib.of (s' _ _ (s8 _ _ ht)),⟨kk,by rw[d_ U9.symm];exact e2,fun s=>?_⟩,by omega,fun pu H9 s9 hpu0 Vt=>?_⟩
    ·have:=e4 s
     cases ek:lH row qs s with
     | none=>rw[ek] at this;exact this
     | some m=>rw[ek] at this;obtain⟨v,w1,w2⟩:=this;exact⟨v,w1,w2.same s8⟩
    ·refine⟨_,rfl,?_⟩
     intro o dx no Og Vl
     refine⟨o,dx,_,_,_,_,_,rfl,b_,fun Jf r6 r7=>⟨rfl,?_⟩⟩
     have Lp:gc H9 Jf:=fun c u ec=>by
      rw[r6 c (f_ ec no),d_ (f_ ec no),d_ (f_ ec Og)]
      exact ec
     have Rx:=(s8.trans s9).trans Lp
     refine q o Jf Rx ((s8.trans s9).free no) ?_
     unfold iG
     rw[hqs]
     exact⟨dx,_,pu,c,.iP,r7,rfl,Vt.same Lp,⟨ys,Lp _ _ (s9 _ _ b_),Paired.jK e9 fun _ _ z=>z.same Rx⟩,rfl⟩
noncomputable def lK:Str:=Str.ofString "abcdefghijklmnopqrstuvwxyz0123456789"
def Good(x:Str):Prop:=1≤x.length∧x.length≤12∧∀c∈x.cps.toList,c∈lK.cps.toList
def mQ(x:Str):Prop:=(reprText x).length≤1048576∧x.length≤1000
noncomputable abbrev sk(x:Str):Key:=Sum.inr x
theorem yz{x:Str}{l:List Str}:sk x∈l.map sk↔x∈l:=by
 constructor
 ·intro h
  obtain⟨m,hm,e⟩:=aaw.mp h
  rw[←aci e];exact hm
 ·exact fun h=>T1 h
theorem lX{dk:List (Key×V)}{l:List Str}(h:dk.map (·.1)=l.map sk):dk.length=l.length:=by
 have:=aaQ List.length h
 rwa [QR,QR] at this
theorem Gj{dk:List (Key×V)}{l:List Str}(h:dk.map (·.1)=l.map sk){i:Nat}{k:Key}{v:V}(hi:dk[i]?=some (k,v)):∃x,l[i]?=some x∧k=sk x:=by
 have h1:(dk.map (·.1))[i]?=some k:=by rw[ZZ,hi];rfl
 rw[h,ZZ] at h1
 obtain⟨n,e,e2⟩:=Option.map_eq_some_iff.mp h1
 exact⟨n,e,e2.symm⟩
theorem mR{dk:List (Key×V)}{l:List Str}(h:dk.map (·.1)=l.map sk)(x:Str):(iU dk (sk x)).isSome=decide (x∈l):=by
 by_cases m:x∈l
 ·rw[UN m];exact rP.mpr (by rw[h];exact yz.mpr m)
 ·rw[aab m,abF];exact fun z=>m (yz.mp (by rw[←h];exact rP.mp z))
theorem rQ{dk:List (Key×V)}{l:List Str}(h:dk.map (·.1)=l.map sk){x:Str}(hx:x∉l)(v:V):(putK dk (sk x) v).map (·.1)=(l++[x]).map sk:=by
 rw[pe,h,aai (fun z=>hx (yz.mp z)),aam];rfl
noncomputable def Bo(m n h:Addr):List (Str×V):=[("made",.ref m),("needs",.ref n),("held",.ref h)]
theorem Nn(m n h:Addr):jA "held" (.ref h) (jA "needs" (.ref n) (jA "made" (.ref m) []))=Bo m n h:=by kernel_rfl
theorem pf(m n h:Addr):(Bo m n h).lookup ("held":Str)=some (V.ref h):=by kernel_rfl
theorem ph(m n h:Addr):(Bo m n h).lookup ("made":Str)=some (V.ref m):=by kernel_rfl
theorem Ag(m n h:Addr):(Bo m n h).lookup ("needs":Str)=some (V.ref n):=by kernel_rfl
structure Dp where
 dx:Addr
 m:Addr
 n:Addr
 h:Addr
 ha:Str→Addr
 kM:List (Key×V)
 kN:List (Key×V)
 kH:List (Key×V)
structure R1(A:Ad)(H:Hp)(d:Addr)(D:Dk)(W:Addr→Prop)(π:Dp):Prop where
 hd:H d=some (.ins A.gp π.dx (Bo π.m π.n π.h))
 hm:H π.m=some (.dK π.kM)
 hn:H π.n=some (.dK π.kN)
 hh:H π.h=some (.dK π.kH)
 mn:π.m≠π.n
 mh:π.m≠π.h
 nh:π.n≠π.h
 wm:W π.m
 wn:W π.n
 wh:W π.h
 km:π.kM.map (·.1)=D.names.map sk
 vm:∀p∈D.made,∃a,iU π.kM (sk p.nm)=some (.ref a)∧nN A H a p
 kn:π.kN.map (·.1)=D.names.map sk
 vn:∀x∈D.names,∃(a:Addr)(kv:List (Key×V))(l:List Str),iU π.kN (sk x)=some (.ref a)∧¬W a∧H a=some (.dK kv)∧kv.map (·.1)=l.map sk∧l.Nodup∧∀y,y∈l↔y∈D.iY x
 kh:π.kH.map (·.1)=D.stores.map sk
 vh:∀s∈D.stores,iU π.kH (sk s)=some (.ref (π.ha s))∧W (π.ha s)∧π.ha s≠π.m∧π.ha s≠π.n∧π.ha s≠π.h∧∃kv:List (Key×V),H (π.ha s)=some (.dK kv)∧kv.map (·.1)=(D.held s).map sk
 inj:∀s∈D.stores,∀t∈D.stores,π.ha s=π.ha t→s=t
 dk:∀b,W b→∃kv,H b=some (.dK kv)
def iK(A:Ad)(H:Hp)(d:Addr)(D:Dk)(W:Addr→Prop):Prop:=∃π,R1 A H d D W π
theorem R1.same{A:Ad}{H H':Hp}{d:Addr}{D:Dk}{W:Addr→Prop}{π:Dp}(x:R1 A H d D W π)(s:gc H H'):R1 A H' d D W π where
 hd:=s _ _ x.hd
 hm:=s _ _ x.hm
 hn:=s _ _ x.hn
 hh:=s _ _ x.hh
 mn:=x.mn
 mh:=x.mh
 nh:=x.nh
 wm:=x.wm
 wn:=x.wn
 wh:=x.wh
 km:=x.km
 vm:=fun p hp=>by obtain⟨a,h1,h2⟩:=x.vm p hp;exact⟨a,h1,h2.same s⟩
 kn:=x.kn
 vn:=fun y hy=>by obtain⟨a,kv,l,h1,h2,h3,h4⟩:=x.vn y hy;exact⟨a,kv,l,h1,h2,s _ _ h3,h4⟩
 kh:=x.kh
 vh:=fun t ht=>by obtain⟨h1,h2,h3,h4,h5,kv,h6,h7⟩:=x.vh t ht;exact⟨h1,h2,h3,h4,h5,kv,s _ _ h6,h7⟩
 inj:=x.inj
 dk:=fun b hb=>by obtain⟨kv,h⟩:=x.dk b hb;exact⟨kv,s _ _ h⟩
theorem iK.same{A:Ad}{H H':Hp}{d:Addr}{D:Dk}{W:Addr→Prop}(x:iK A H d D W)(s:gc H H'):iK A H' d D W:=by
 obtain⟨π,x⟩:=x
 exact⟨π,x.same s⟩
def yA(W:Addr→Prop)(H H':Hp):Prop:=∀b o,H b=some o→¬W b→H' b=some o
theorem iK.lst{A:Ad}{H:Hp}{d a:Addr}{D:Dk}{W:Addr→Prop}{xs:List V}(x:iK A H d D W)(h:H a=some (.lst xs)):¬W a:=fun z=>by
 obtain⟨π,x⟩:=x
 obtain⟨kv,e⟩:=x.dk a z
 rw[h] at e;cases e
theorem iK.tup{A:Ad}{H:Hp}{d a:Addr}{D:Dk}{W:Addr→Prop}{xs:List V}(x:iK A H d D W)(h:H a=some (.tup xs)):¬W a:=fun z=>by
 obtain⟨π,x⟩:=x
 obtain⟨kv,e⟩:=x.dk a z
 rw[h] at e;cases e
theorem iK.iP{A:Ad}{H:Hp}{d a:Addr}{D:Dk}{W:Addr→Prop}(x:iK A H d D W)(h:H a=none):¬W a:=fun z=>by
 obtain⟨π,x⟩:=x
 obtain⟨kv,e⟩:=x.dk a z
 rw[h] at e;cases e
theorem lE{m n h:Addr}:(Bo m n h).lookup ("check_store":Str)=none:=by kernel_rfl
theorem p3{m n h:Addr}:(Bo m n h).lookup ("check_new":Str)=none:=by kernel_rfl
theorem zo{m n h:Addr}:(Bo m n h).lookup ("check_held":Str)=none:=by kernel_rfl
theorem zp{m n h:Addr}:(Bo m n h).lookup ("check_made":Str)=none:=by kernel_rfl
theorem Bp{m n h:Addr}:(Bo m n h).lookup ("keep":Str)=none:=by kernel_rfl
theorem Np{m n h:Addr}:(Bo m n h).lookup ("has":Str)=none:=by kernel_rfl
theorem zq{m n h:Addr}:(Bo m n h).lookup ("patches_of":Str)=none:=by kernel_rfl
theorem rE{m n h:Addr}:(Bo m n h).lookup ("sight_of":Str)=none:=by kernel_rfl
theorem Nq{m n h:Addr}:(Bo m n h).lookup ("row":Str)=none:=by kernel_rfl
theorem Ip{m n h:Addr}:(Bo m n h).lookup ("begin":Str)=none:=by kernel_rfl
theorem Gk{m n h:Addr}:(Bo m n h).lookup ("record":Str)=none:=by kernel_rfl
theorem Nr{m n h:Addr}:(Bo m n h).lookup ("cut":Str)=none:=by kernel_rfl
theorem KQ{m n h:Addr}:(Bo m n h).lookup ("back":Str)=none:=by kernel_rfl
noncomputable def OL:Dk:=⟨[],fun _=>[],[],fun _=>[]⟩
theorem Ua:Inv OL:=⟨abi,(fun p hp=>by cases hp),(fun p hp=>by cases hp),⟨fun _=>0,fun p hp=>by cases hp⟩,(fun i p hp=>by simp[OL] at hp),(fun x hx=>by cases hx),abi,(fun s hs=>by cases hs),(fun s hs=>by cases hs),(fun p hp=>by cases hp),(fun p hp=>by cases hp)⟩
def Nt(A:Ad):Sp:=fun vs H Q _=>∃(p dx:Addr),vs=[.ref p]∧H p=some (.ins A.gp dx [])∧∀(H':Hp)(W:Addr→Prop),iK A H' p OL W→(∀b,W b→H b=none)→(∀b o,H b=some o→b≠p→H' b=some o)→Q .iP H'
theorem Bq(T:Txt mg)(O:Ok K mg A):iz P w K mg base mB 1 A.mx A.qo ["self"] (Nt A):=by
 refine O.sA.f.qJ ve fun jw A0 outer s H vs Q E hr h=>?_
 obtain⟨p,dx,rfl,hp,k⟩:=h
 refine⟨_,(de (k_ (pv 0) mZ rfl)
   (de (k_ (pv 0) mZ rfl)
   (fV (k_ (pv 0) mZ rfl)))),?_⟩
 refine DD ?_;intro _ _
 intro m hm
 have Jg:p≠m:=f_ hp hm
 refine⟨_,rfl,p,A.gp,dx,_,rfl,(by rw[d_ Jg];exact hp),O.ix,O.i0,(by show 0<1000;decide),?_⟩
 intro n hn
 have Ry:p≠n:=f_ b_ hn
 have SI:m≠n:=by
  intro z;subst z;rw[d_ Jg.symm,b_] at hn;cases hn
 have hH:H n=none:=by rw[d_ Ry.symm,d_ SI.symm] at hn;exact hn
 refine⟨_,rfl,p,A.gp,dx,_,rfl,(by rw[d_ Ry];exact b_),O.ix,O.jJ,(by show 1<1000;decide),?_⟩
 intro h hh
 have SJ:p≠h:=f_ b_ hh
 have Vu:n≠h:=by
  intro z;subst z;rw[d_ Ry.symm,b_] at hh;cases hh
 have Vv:m≠h:=by
  intro z;subst z;rw[d_ Jg.symm,d_ SI,d_ Jg.symm,b_] at hh;cases hh
 have XQ:H h=none:=by rw[d_ SJ.symm,d_ Vu.symm,d_ SJ.symm,d_ Vv.symm] at hh;exact hh
 refine⟨_,rfl,p,A.gp,dx,_,rfl,(by rw[d_ SJ];exact b_),O.ix,O.i3,(by show 2<1000;decide),?_⟩
 have e1:∀{o},upd (upd (upd (upd (upd (upd H m (.dK [])) p (.ins A.gp dx (jA "made" (.ref m) []))) n (.dK [])) p (.ins A.gp dx (jA "needs" (.ref n) (jA "made" (.ref m) [])))) h (.dK [])) p o m=some (.dK []):=by
  intro o;rw[d_ Jg.symm,d_ Vv,d_ Jg.symm,d_ SI,d_ Jg.symm,b_]
 have e2:∀{o},upd (upd (upd (upd (upd (upd H m (.dK [])) p (.ins A.gp dx (jA "made" (.ref m) []))) n (.dK [])) p (.ins A.gp dx (jA "needs" (.ref n) (jA "made" (.ref m) [])))) h (.dK [])) p o n=some (.dK []):=by
  intro o;rw[d_ Ry.symm,d_ Vu,d_ Ry.symm,b_]
 have e3:∀{o},upd (upd (upd (upd (upd (upd H m (.dK [])) p (.ins A.gp dx (jA "made" (.ref m) []))) n (.dK [])) p (.ins A.gp dx (jA "needs" (.ref n) (jA "made" (.ref m) [])))) h (.dK [])) p o h=some (.dK []):=by
  intro o;rw[d_ SJ.symm,b_]
 refine k _ (fun b=>b=m∨b=n∨b=h) ⟨⟨dx,m,n,h,fun _=>0,[],[],[]⟩,Eq.trans b_ (aaQ (fun l=>some (HO.ins A.gp dx l)) (Nn m n h)),e1,e2,e3,SI,Vv,Vu,.inl rfl,.inr (.inl rfl),.inr (.inr rfl),rfl,(fun p hp=>by cases hp),rfl,(fun p hp=>by cases hp),rfl,(fun p hp=>by cases hp),(fun p hp=>by cases hp),fun b hb=>?_⟩ (fun b hb=>?_) fun b o e hb=>?_
 ·rcases hb with rfl|rfl|rfl
  ·exact⟨_,e1⟩
  ·exact⟨_,e2⟩
  ·exact⟨_,e3⟩
 ·rcases hb with rfl|rfl|rfl
  ·exact hm
  ·exact hH
  ·exact XQ
 ·rw[d_ hb,d_ (f_ e XQ),d_ hb,d_ (f_ e hH),d_ hb,d_ (f_ e hm)]
  exact e
def KR(XB:Addr):Sp:=fun vs H Q E=>∃x:Str,vs=[.str x]∧mQ x∧(Good x→Q .iP H)∧(¬Good x→E (.ref XB) none H)
theorem LJ:(12:Int).natAbs.log2<1920:=by decide
theorem sD(T:Txt mg)(O:Ok K mg A):iz P w K mg base (tT P w) 1 A.ug A.uh ["name"] (KR A.jy):=by
 refine O.sX.f.sM si fun jw A0 outer s H vs Q E hr h=>?_
 obtain⟨x,rfl,⟨hf,hl⟩,q,qe⟩:=h
 refine⟨_,(de (iy (jr (Cc G2 G2 fY (hE tQ (by rfl) T.jG aas (a_ (pv 0) e_)) (Aw (v:=.int 12) (by rfl) O.rm ⟨_,rfl⟩))) (fV (j_ bx O.Aa (by rfl) (l5 (iE i7 (iE (Hw (Aw (v:=.int 12) (by rfl) O.rm ⟨_,rfl⟩)) (iE i7 (iE (ox (pv 0)) ow))))))) hV)
   (fV (iQ MK rfl (MQ (pv 0)) (uN 1 si) (fV (iy (iq AA (pv 1) (Aw (v:=.str (Str.ofString "abcdefghijklmnopqrstuvwxyz0123456789")) (by rfl) O.Bb ⟨_,rfl⟩) rfl) (fV (j_ bx O.Aa (by rfl) (l5 (iE i7 (iE (ox (pv 0)) ow))))) hV))))),?_⟩
 refine Kc ?_;intro _
 have hz:x.length≤sizeLine:=aac hl (by decide)
 have bad:¬Good x→∀H',H'=H→E (.ref A.jy) none H':=fun g H' e=>by subst e;exact qe g
 refine⟨_,rfl,_,rfl,hz,_,_,rfl,rfl,_,rfl,?_⟩
 refine l_ (fun h1=>?_) (fun h1=>?_)
 ·refine⟨_,_,rfl,rfl,_,rfl,?_⟩
  refine l_ (fun h2=>?_) (fun h2=>?_)
  ·
   have h2:¬((x.length:Int)≤12):=by simpa using h2
   refine⟨_,rfl,by decide+kernel,⟨_,rfl,LJ,_,rfl,by decide+kernel,⟨_,rfl,by decide+kernel,⟨_,rfl,_,rfl,hf,_,rfl,hf,fun _=>qe fun g=>?_⟩⟩⟩⟩
   have:=g.2.1;omega
  ·have h1:(1:Int)≤(x.length:Int):=by simpa using h1
   have h2:(x.length:Int)≤12:=by simpa using h2
   refine⟨_,rfl,x,rfl,Hv (fun i σ H2=>∃v,σ=[rs x,v]∧H2=H∧∀j<i,∀c,x.cps[j]?=some c→c∈lK.cps.toList) ⟨none,rfl,rfl,fun j hj=>absurd hj (by omega)⟩ ?_ ?_⟩
   ·rintro i c σ H2 hc ⟨v,rfl,rfl,hp⟩
    refine⟨_,rfl,_,_,rfl,rfl,_,rfl,?_⟩
    rw[Kk]
    refine l_ (fun h3=>?_) (fun h3=>?_)
    ·have h3:c∉lK.cps.toList:=by simpa[lK] using h3
     refine⟨_,rfl,by decide+kernel,⟨_,rfl,_,rfl,hf,_,rfl,hf,fun _=>qe fun g=>?_⟩⟩
     exact h3 (g.2.2 c (UK (i:=i) (by rw[aa5];exact hc)))
    ·have h3:c∈lK.cps.toList:=by simpa[lK] using h3
     refine⟨_,rfl,rfl,fun j hj c' Am=>?_⟩
     by_cases e:j=i
     ·subst e;rw[hc] at Am;cases Am;exact h3
     ·exact hp j (by omega) c' Am
   ·rintro σ H2 ⟨v,rfl,rfl,hp⟩
    refine q ⟨by omega,by omega,fun c hc=>?_⟩
    obtain⟨j,hj,e⟩:=List.mem_iff_getElem.mp hc
    have XR:j<x.cps.size:=by simpa using hj
    exact hp j XR c (by rw[aaR XR];simpa using e)
 ·have h1:¬((1:Int)≤(x.length:Int)):=by simpa using h1
  refine⟨_,rfl,?_⟩
  refine⟨_,rfl,by decide+kernel,⟨_,rfl,LJ,_,rfl,by decide+kernel,⟨_,rfl,by decide+kernel,⟨_,rfl,_,rfl,hf,_,rfl,hf,fun _=>qe fun g=>?_⟩⟩⟩⟩
  have:=g.1;omega
def KS(A:Ad):Sp:=fun vs H Q E=>∃(d:Addr)(D:Dk)(W:Addr→Prop)(s:Str),vs=[.ref d,.str s]∧iK A H d D W∧mQ s∧(s∈D.stores→Q .iP H)∧(s∉D.stores→E (.ref A.jo) none H)
theorem lF(T:Txt mg)(O:Ok K mg A):iz P w K mg base (tT P w) 1 A.nG A.nH ["self","store"] (KS A):=by
 refine O.jP.f.sM rX fun jw A0 outer s H vs Q E hr h=>?_
 obtain⟨d,D,W,st,rfl,⟨π,x⟩,hf,q,qe⟩:=h
 refine⟨_,(fV (iy (jq (lM (by exact ja hr) (pv 1) (g_ (pv 0) rfl))) (fV (j_ bx O.Ga (by rfl) (l5 (iE i7 (iE (ox (pv 1)) ow))))) hV)),?_⟩
 refine⟨_,rfl,_,rfl,d,A.gp,π.dx,_,_,rfl,x.hd,O.ix,O.i3,pf _ _ _,π.h,_,rfl,js.k (k:=sk st) x.hh,_,rfl,?_⟩
 rw[mR x.kh]
 by_cases hs:st∈D.stores
 ·rw[UN hs]
  exact q hs
 ·rw[aab hs]
  exact nM ⟨_,rfl,by decide+kernel,⟨_,rfl,_,rfl,hf.1,_,rfl,hf.1,fun _=>qe hs⟩⟩
def Nu(A:Ad):Sp:=fun vs H Q E=>∃(d:Addr)(D:Dk)(W:Addr→Prop)(s:Str),vs=[.ref d,.str s]∧iK A H d D W∧mQ s∧(s∈D.names→Q .iP H)∧(s∉D.names→E (.ref A.kE) none H)
theorem zr(T:Txt mg)(O:Ok K mg A):iz P w K mg base (tT P w) 1 A.oa A.oe ["self","patch"] (Nu A):=by
 refine O.qx.f.sM sP fun jw A0 outer s H vs Q E hr h=>?_
 obtain⟨d,D,W,st,rfl,⟨π,x⟩,hf,q,qe⟩:=h
 refine⟨_,(fV (iy (jq (lM (by exact ja hr) (pv 1) (g_ (pv 0) rfl))) (fV (j_ bx O.Ab (by rfl) (l5 (iE i7 (iE (ox (pv 1)) ow))))) hV)),?_⟩
 refine⟨_,rfl,_,rfl,d,A.gp,π.dx,_,_,rfl,x.hd,O.ix,O.i0,ph _ _ _,π.m,_,rfl,js.k (k:=sk st) x.hm,_,rfl,?_⟩
 rw[mR x.km]
 by_cases hs:st∈D.names
 ·rw[UN hs]
  exact q hs
 ·rw[aab hs]
  exact nM ⟨_,rfl,by decide+kernel,⟨_,rfl,_,rfl,hf.1,_,rfl,hf.1,fun _=>qe hs⟩⟩
def Nv(A:Ad):Sp:=fun vs H Q E=>∃(d:Addr)(D:Dk)(W:Addr→Prop)(s x:Str),vs=[.ref d,.str s,.str x]∧iK A H d D W∧mQ s∧mQ x∧s∈D.stores∧(x∈D.held s→Q .iP H)∧(x∉D.held s→E (.ref A.kE) none H)
theorem zt(T:Txt mg)(O:Ok K mg A):iz P w K mg base (tT P w) 1 A.og A.oh ["self","store","patch"] (Nv A):=by
 refine O.qy.f.sM sQ fun jw A0 outer s H vs Q E hr h=>?_
 obtain⟨d,D,W,st,y,rfl,⟨π,x⟩,hf,L4,hs,q,qe⟩:=h
 obtain⟨v1,_,_,_,_,kv,v2,v3⟩:=x.vh st hs
 refine⟨_,(fV (iy (jq (lM (by exact ja hr) (pv 2) (B1 hr (g_ (pv 0) rfl) (pv 1)))) (fV (j_ bx O.Ab (by rfl) (l5 (iE i7 (iE (ox (pv 1)) (iE i7 (iE (ox (pv 2)) ow))))))) hV)),?_⟩
 refine⟨_,rfl,_,rfl,d,A.gp,π.dx,_,_,rfl,x.hd,O.ix,O.i3,pf _ _ _,_,rfl,π.h,.ref (π.ha st),rfl,?_,π.ha st,_,rfl,js.k (k:=sk y) v2,_,rfl,?_⟩
 ·have:=js.k (k:=sk st) x.hh
  rw[v1] at this
  exact this
 ·rw[mR v3]
  by_cases hy:y∈D.held st
  ·rw[UN hy]
   exact q hy
  ·rw[aab hy]
   refine nM ?_
   exact⟨_,rfl,by decide+kernel,⟨_,rfl,_,rfl,hf.1,_,rfl,hf.1,⟨_,rfl,by decide+kernel,⟨_,rfl,_,rfl,L4.1,_,rfl,L4.1,fun _=>qe hy⟩⟩⟩⟩
def s_(H:Hp)(v:V)(l:Ln):Prop:=∃t,v=.ref t∧H t=some (.tup [.str l.nm.1,.int l.nm.2,.str l.tx])
def om(H:Hp)(a:Addr)(row:List Ln):Prop:=∃vs,H a=some (.lst vs)∧Paired (s_ H) vs row
theorem s_.same{H H':Hp}{v:V}{l:Ln}(x:s_ H v l)(s:gc H H'):s_ H' v l:=by obtain⟨t,e,h⟩:=x;exact⟨t,e,s _ _ h⟩
theorem om.same{H H':Hp}{a:Addr}{row:List Ln}(x:om H a row)(s:gc H H'):om H' a row:=by
 obtain⟨vs,h,p⟩:=x
 exact⟨vs,s _ _ h,Paired.jK p fun _ _ z=>z.same s⟩
def Qg(A:Ad):Sp:=fun vs H Q E=>∃(d:Addr)(D:Dk)(W:Addr→Prop)(s:Str),vs=[.ref d,.str s]∧iK A H d D W∧mQ s∧yt D.made.length∧(s∉D.stores→E (.ref A.jo) none H)∧(s∈D.stores→∀p,H p=none→Q (.ref p) (upd H p (.lst (ia (D.has s)))))
theorem Nw(T:Txt mg)(O:Ok K mg A):iz P w K mg base (tT P w) 2 A.yg A.yh ["self","store"] (Qg A):=by
 have iT:=@lF P w K mg base A T O
 refine O.CN.f.sM vU fun jw A0 outer s H vs Q E hr h=>?_
 obtain⟨d,D,W,st,rfl,X,hf,kq,qe,q⟩:=h
 obtain⟨π,x⟩:=id X
 have Dm:D.made.length≤4000:=kq
 have sz:sizeLine=16777216:=aaA
 refine⟨_,(de (ip (E1 bx (pv 0) O.ix O.jP iT hr (a_ (pv 1) e_)))
   (fV (h_ (Ke (AJ x8 (fW pP).names [2] rfl (Kg (g_ (pv 0) rfl)) rfl (by decide+kernel) (fun _ _ _ _=>(iJ (i:=2) vU.nd rfl (Or.inl rfl))) (fun _ _ _ _=>⟨_,pB (jq (qG (by exact ja hr) (pv 2) (B1 hr (g_ (pv 0) rfl) (pv 1)))),by(try simp only [lg]);rfl⟩) (fun _ _ _ _=>zV (pv 2))))))),?_⟩
 refine Kc ?_;intro _
 refine⟨_,rfl,d,π.dx,_,rfl,x.hd,lE,_,rfl,d,D,W,st,rfl,X,hf,fun hs=>?_,fun hs=>qe hs⟩
 obtain⟨v1,_,qz,_,_,kv,v2,v3⟩:=x.vh st hs
 refine⟨_,rfl,d,A.gp,π.dx,_,_,rfl,x.hd,O.ix,O.i0,ph _ _ _,π.m,π.kM,rfl,x.hm,fun o uz=>?_⟩
 have OS:=lX x.km
 have Od:D.names.length=D.made.length:=by unfold Dk.names;rw[QR]
 have SK:d≠π.m:=jc x.hd x.hm (fun z=>by cases z)
 have f:∀{b u},H b=some u→b≠π.m→upd H π.m (.nR o (.dK π.kM)) b=some u:=fun{b u} e n=>by rw[d_ n];exact e
 refine Kh (by omega) (fun i ys σ H3=>∃(v2:Option V)(zs:List Str),σ=[rr d,rs st,v2]∧H3=upd H π.m (.nR o (.dK π.kM))∧ys=ia zs∧zs=(D.names.take i).filter fun x=>x∈D.held st) ⟨none,[],rfl,rfl,rfl,rfl⟩ (fun i ys σ H3 ⟨_,zs,_,e,e2,e3⟩=>?_) ?_ ?_
 ·rw[e,e2,e3]
  refine⟨b_,?_⟩
  rw[QR]
  exact aac (aaU _ _) (by rw[aaG];omega)
 ·rintro i k v ys σ H3 hi ⟨v0,zs,rfl,rfl,rfl,e3⟩
  obtain⟨y,hy,rfl⟩:=Gj x.km hi
  refine⟨_,rfl,_,rfl,d,A.gp,π.dx,_,_,rfl,f x.hd SK,O.ix,O.i3,pf _ _ _,_,rfl,π.h,.ref (π.ha st),rfl,?_,π.ha st,_,rfl,js.k (k:=sk y) (f v2 qz),_,rfl,?_⟩
  ·have:=js.k (k:=sk st) (f x.hh x.mh.symm)
   rw[v1] at this
   exact this
  ·rw[mR v3,take_snoc hy,aaD]
   by_cases hm:y∈D.held st
   ·rw[UN hm]
    refine nM ⟨_,rfl,_,_,rfl,rfl,ky _ _,?_⟩
    rw[e3,Z8 (by simpa using hm),aa6]
   ·rw[aab hm]
    refine jC ⟨_,_,rfl,rfl,rfl,?_⟩
    rw[e3,aae (by simpa using hm),aa6,aaF]
 ·rintro ys σ H3 ⟨v0,zs,rfl,rfl,rfl,e3⟩ p Dl
  rw[OS,aan] at e3
  have Jg:p≠π.m:=fun z=>by rw[z,b_] at Dl;cases Dl
  have GI:H p=none:=by rw[d_ Jg] at Dl;exact Dl
  refine⟨π.m,o,_,by rw[d_ Jg.symm];exact b_,uz,?_⟩
  rw[EY x.hm Jg]
  have:=q hs p GI
  unfold Dk.has at this
  rw[←e3] at this
  exact this
def Qh(A:Ad):Sp:=fun vs H Q E=>∃(d:Addr)(D:Dk)(W:Addr→Prop)(s:Str),vs=[.ref d,.str s]∧iK A H d D W∧mQ s∧yt D.made.length∧(s∉D.stores→E (.ref A.jo) none H)∧(s∈D.stores→∀p H',gc H H'→H p=none→wZ A H' p (D.ll s)→Q (.ref p) H')
theorem zu(T:Txt mg)(O:Ok K mg A):iz P w K mg base (tT P w) 3 A.n9 A.n_ ["self","store"] (Qh A):=by
 have ED:=@Nw P w K mg base A T O
 refine O.qw.f.sM nF fun jw A0 outer s H vs Q E hr h=>?_
 obtain⟨d,D,W,st,rfl,X,hf,kq,qe,q⟩:=h
 obtain⟨π,x⟩:=id X
 have Dm:D.made.length≤4000:=kq
 have sz:sizeLine=16777216:=aaA
 have nQ:(D.ll st).length≤D.made.length:=aaU _ _
 refine⟨_,(fV (h_ (sd n5 (fW j4).names [2] rfl (iD (E1 bx (pv 0) O.ix O.CN ED hr (a_ (pv 1) e_))) rfl (by decide+kernel) (fun _ _ _ _=>(iJ (i:=2) nF.nd rfl (Or.inl rfl))) (fun _ _ _ _=>mf) (fun _ _ _ _=>zV (B1 hr (g_ (pv 0) rfl) (pv 2)))))),?_⟩
 refine⟨_,rfl,d,π.dx,_,rfl,x.hd,Np,_,rfl,d,D,W,st,rfl,X,hf,kq,fun hs=>qe hs,fun hs p Dl=>?_⟩
 rw[Dk.Kw]
 have s1:gc H (upd H p (.lst (ia ((D.ll st).map (·.nm))))):=(gc.refl H).new Dl
 have OQ:(upd H p (.lst (ia ((D.ll st).map (·.nm))))) p=some (.lst (ia ((D.ll st).map (·.nm)))):=b_
 generalize upd H p (.lst (ia ((D.ll st).map (·.nm))))=H1 at s1 OQ
 let Jv:=fun(i:Nat) (ys:List V) (σ:St) (H3:Hp)=>∃(v2:Option V)(as:List Addr),σ=[rr d,rs st,v2]∧H3=H1∧ys=as.map V.ref∧Paired (nN A H) as ((D.ll st).take i)
 refine⟨p,rfl,⟨_,ib.of OQ⟩,jU (K:=K) (a:=p) (xs:=ia ((D.ll st).map (·.nm))) (by rw[QR,QR];omega) Jv
  ⟨none,[],rfl,rfl,rfl,.nil⟩ (fun i ys σ H3 _ ⟨_,as,_,e,e2,e3⟩=>?_) ?_ ?_⟩
 ·rw[e,e2]
  have:=aad e3
  rw[aaG] at this
  exact⟨ib.of OQ,by rw[QR];omega⟩
 ·rintro i v ys σ H3 hx ⟨v2,as,rfl,rfl,rfl,e3⟩
  obtain⟨y,hy,rfl⟩:=xk hx
  rw[ZZ] at hy
  obtain⟨pt,Ar,rfl⟩:=Option.map_eq_some_iff.mp hy
  have xb:pt∈D.made:=(Inv.kP.mp (UK Ar)).1
  obtain⟨a,z1,z2⟩:=x.vm pt xb
  refine⟨_,rfl,d,A.gp,π.dx,_,_,rfl,s1 _ _ x.hd,O.ix,O.i0,ph _ _ _,_,rfl,π.m,.ref a,rfl,?_,?_⟩
  ·have:=js.k (k:=sk pt.nm) (s1 _ _ x.hm)
   rw[z1] at this
   exact this
  ·refine⟨_,as++[a],rfl,rfl,by rw[aam];rfl,?_⟩
   rw[take_snoc Ar]
   exact ij e3 z2
 ·rintro ys σ H3 ⟨v2,as,rfl,rfl,rfl,e3⟩ r qB
  have e0:(ia ((D.ll st).map (·.nm))).length=(D.ll st).length:=by rw[QR,QR]
  rw[e0,aan] at e3
  have s2:=s1.new (o:=.lst (as.map V.ref)) qB
  exact q hs r _ s2 (s1.free qB) ⟨as,b_,Paired.jK e3 fun _ _ z=>z.same s2⟩
def KU(A:Ad):Sp:=fun vs H Q E=>∃(d:Addr)(D:Dk)(W:Addr→Prop)(s f:Str),vs=[.ref d,.str s,.str f]∧iK A H d D W∧mQ s∧Small D.made∧Inv D∧(s∉D.stores→E (.ref A.jo) none H)∧(s∈D.stores→∀p H',gc H H'→H p=none→Eh A H' p (g9 (D.ll s) f) (D.row s f)→Q (.ref p) H')
theorem rF(T:Txt mg)(O:Ok K mg A):iz P w K mg base (tT P w) 5 A.qp A.qr ["self","store","file"] (KU A):=by
 have vD:=@zl P w K mg base A T O
 have uK:=@zu P w K mg base A T O
 refine O.l8.f.sM vg fun jw A0 outer s H vs Q E hr h=>?_
 obtain⟨d,D,W,st,f,rfl,X,hf,sm,I,qe,q⟩:=h
 obtain⟨π,x⟩:=id X
 refine⟨_,(fV (h_ (tO O.Kz vD (hr.mono (by decide)) (by rfl) O.KA O.rh.b .nil qj (a_ (E1 bx (pv 0) O.ix O.qw uK hr (a_ (pv 1) e_)) (a_ (pv 2) e_))))),?_⟩
 refine⟨_,rfl,d,π.dx,_,rfl,x.hd,zq,_,rfl,d,D,W,st,rfl,X,hf,sm.many,fun hs=>qe hs,fun hs a H1 s1 ha0 L5=>?_⟩
 refine⟨_,rfl,?_⟩
 intro p px np Vw nxp
 have s2:gc H1 (upd (upd H1 px (.own p)) p (.ins A.ig px [])):=fun b o e=>by
  rw[d_ (f_ e np),d_ (f_ e Vw)]
  exact e
 refine⟨p,px,a,D.ll st,f,rfl,b_,L5.same s2,sm.sub (Inv.xn st),I.nodup st f,I.closed hs f,I.M3 st f,fun H' k sg=>⟨rfl,?_⟩⟩
 exact q hs p H' (fun b o e=>k b o (s2 b o (s1 b o e)) (f_ (s1 b o e) np)) (s1.free np) sg
theorem Nx{D:Dk}(I:Inv D)(s f:Str):∀l∈D.row s f,l.nm∈(g9 (D.ll s) f).map (·.nm):=fun l hl=>T1 ((kB _ f).subset ((I.oQ s f).subset hl))
def Ny(A:Ad):Sp:=fun vs H Q E=>∃(d:Addr)(D:Dk)(W:Addr→Prop)(s f:Str),vs=[.ref d,.str s,.str f]∧iK A H d D W∧mQ s∧Small D.made∧Inv D∧(s∉D.stores→E (.ref A.jo) none H)∧(s∈D.stores→∀p H',gc H H'→H p=none→om H' p (D.row s f)→Q (.ref p) H')
theorem Nz(T:Txt mg)(O:Ok K mg A):iz P w K mg base (tT P w) 6 A.yk A.yl ["self","store","file"] (Ny A):=by
 have j2:=@rF P w K mg base A T O
 refine O.CP.f.sM vW fun jw A0 outer s H vs Q E hr h=>?_
 obtain⟨d,D,W,st,f,rfl,X,hf,sm,I,qe,q⟩:=h
 obtain⟨π,x⟩:=id X
 have sz:sizeLine=16777216:=aaA
 have EA:(D.row st f).length≤4000:=aac (I.xo st f) sm.ik
 refine⟨_,(fV (h_ (sd x_ (fW pR).names [3] rfl (iD (g_ (E1 bx (pv 0) O.ix O.l8 j2 hr (a_ (pv 1) (a_ (pv 2) e_))) rfl)) rfl (by decide+kernel) (fun _ _ _ _=>(iJ (i:=3) vW.nd rfl (Or.inl rfl))) (fun _ _ _ _=>mf) (fun _ _ _ _=>zV (lL (a_ (iC iF (g_ (pv 3) rfl) fY (fun _ _=>rfl)) (a_ (iC iF (g_ (pv 3) rfl) fY (fun _ _=>rfl)) (a_ (g_ (pv 3) rfl) e_)))))))),?_⟩
 refine⟨_,rfl,d,π.dx,_,rfl,x.hd,rE,_,rfl,_,rfl,d,D,W,st,f,rfl,X,hf,sm,I,fun hs=>qe hs,fun hs p H1 s1 Dl ⟨px,ah,l,g1,g2,⟨as,g3,g4⟩⟩=>?_⟩
 have hlen:=aad g4
 let Jv:=fun(i:Nat) (ys:List V) (σ:St) (H4:Hp)=>∃(v3:Option V),σ=[rr d,rs st,rs f,v3]∧gc H1 H4∧Paired (s_ H4) ys ((D.row st f).take i)
 refine⟨p,A.ig,px,_,_,rfl,g1,O.j7,O.iw,k7 ah l,l,rfl,⟨_,ib.of g3⟩,jU (K:=K) (a:=l) (xs:=as.map V.ref) (by rw[QR];omega) Jv
  ⟨none,rfl,gc.refl _,.nil⟩ (by rintro _ _ _ _ _ ⟨_,_,e,e2⟩;exact⟨ib.of (e _ _ g3),by rw[aad e2,aaG];omega⟩) ?_ ?_⟩
 ·rintro i v ys σ H4 hx ⟨v3,rfl,s4,e2⟩
  obtain⟨b,hb,rfl⟩:=jZ hx
  obtain⟨ln,vy,JH,vn,vu,vl,k1,⟨nt,rfl,k2⟩,k3,k4⟩:=ie g4 hb
  refine⟨_,rfl,b,A.hU,JH,_,_,rfl,s4 _ _ k1,O.iH,O.hZ,i4,nt,_,_,_,rfl,rfl,lJ.of (s4 _ _ k2),gr (j:=0) rfl rfl,?_⟩
  refine⟨_,rfl,b,A.hU,JH,_,_,rfl,s4 _ _ k1,O.iH,O.hZ,i4,nt,_,_,_,rfl,rfl,lJ.of (s4 _ _ k2),gr (j:=1) rfl rfl,?_⟩
  refine⟨_,rfl,b,A.hU,JH,_,_,rfl,s4 _ _ k1,O.iH,O.ji,uv,L2.kq,fun t ht=>?_⟩
  have s5:=(gc.refl H4).new (o:=.tup [.str ln.nm.1,.int ln.nm.2,.str ln.tx]) ht
  refine⟨_,rfl,s4.trans s5,?_⟩
  rw[take_snoc vy]
  exact ij (Paired.jK e2 fun _ _ z=>z.same s5) ⟨t,rfl,b_⟩
 ·rintro ys σ H4 ⟨v3,rfl,s4,e2⟩ r qB
  rw[QR,hlen,aan] at e2
  have s5:=(s1.trans s4).new (o:=.lst ys) qB
  exact q hs r _ s5 ((s1.trans s4).free qB) ⟨ys,b_,Paired.jK e2 fun _ _ z=>z.same ((gc.refl H4).new qB)⟩
end
theorem yB{xs ys:List Str}(nd:xs.Nodup)(h:∀x∈xs,x∈ys):xs.length≤ys.length:=by
 have:=len_sub (xs:=xs.map fun k=>((k,0):Nm)) (ys:=ys.map fun k=>(k,0)) (List.pairwise_map.mpr (nd.imp fun h z=>h (aaQ Prod.fst z))) fun x hx=>by
  obtain⟨k,hk,rfl⟩:=aaw.mp hx
  exact T1 (h k hk)
 rwa [QR,QR] at this
section
variable{A:Ad}{H:Hp}{x:Addr}{o:HO}{kv:List (Key×V)}
theorem my.dk{a:Addr}{l:Ln}(h:my A H a l)(hx:H x=some (.dK kv)):my A (L2.upd H x o) a l:=my.upd h hx (fun _ z=>by cases z) (fun _ _ _ z=>by cases z)
theorem pY.dk{a:Addr}{ls:List Ln}(h:pY A H a ls)(hx:H x=some (.dK kv)):pY A (L2.upd H x o) a ls:=by
 obtain⟨as,h1,h2⟩:=h
 exact⟨as,by rw[d_ (jc h1 hx (fun z=>by cases z))];exact h1,Paired.jK h2 fun _ _ z=>z.dk hx⟩
theorem yq.dk{a:Addr}{ns:List Nm}(h:yq H a ns)(hx:H x=some (.dK kv)):yq (L2.upd H x o) a ns:=by
 obtain⟨vs,h1,h2⟩:=h
 exact⟨vs,by rw[d_ (jc h1 hx (fun z=>by cases z))];exact h1,Paired.jK h2 fun _ _ z=>z.upd hx (fun _ z=>by cases z)⟩
theorem nN.dk{a:Addr}{p:Pt}(h:nN A H a p)(hx:H x=some (.dK kv)):nN A (L2.upd H x o) a p:=by
 obtain⟨dx,vf,pu,cu,vo,h0,h1,h2,h3,h4⟩:=h
 exact⟨dx,vf,pu,cu,vo,by rw[d_ (jc h0 hx (fun z=>by cases z))];exact h0,h1,h2.dk hx,h3.dk hx,h4⟩
end
noncomputable def C5(l:List Str)(m:Str):List Str:=if m∈l then l else l++[m]
theorem C6{l:List Str}{m x:Str}:x∈C5 l m↔x∈l∨x=m:=by
 unfold C5
 split
 ·rename_i h
  exact⟨.inl,fun z=>z.elim id fun z=>z▸h⟩
 ·simp
theorem E9{l:List Str}{m:Str}(h:l.Nodup):(C5 l m).Nodup:=by
 unfold C5
 split
 ·exact h
 ·rename_i hm
  rw[aa1]
  exact⟨h,by simp,fun a ha b hb z=>hm (by rw[TN.mp hb] at z;exact z▸ha)⟩
theorem Ai{dk:List (Key×V)}{l:List Str}(h:dk.map (·.1)=l.map sk)(m:Str)(v:V):(putK dk (sk m) v).map (·.1)=(C5 l m).map sk:=by
 rw[pe,h]
 unfold C5
 by_cases e:m∈l
 ·rw[aak (yz.mpr e),aak e]
 ·rw[aai (fun z=>e (yz.mp z)),aai e,aam];rfl
theorem Aj:∀(more:List (Key×V))(dk:List (Key×V))(l r:List Str),dk.map (·.1)=l.map sk→more.map (·.1)=r.map sk→l.Nodup→∃l':List Str,(putAll dk more).map (·.1)=l'.map sk∧l'.Nodup∧∀m,m∈l'↔m∈l∨m∈r
 | [],dk,l,r,h1,h2,nd=>by
  have:r=[]:=by cases r with|nil=>rfl|cons _ _=>cases h2
  subst this
  exact⟨l,h1,nd,fun m=>by simp⟩
 | p::t,dk,l,r,h1,h2,nd=>by
  cases r with
  | nil=>cases h2
  | cons x r=>
   rw[aaq,aaq] at h2
   injection h2 with e1 e2
   rw[qI,e1]
   obtain⟨l',z1,z2,z3⟩:=Aj t (putK dk (sk x) p.2) (C5 l x) r (Ai h1 x _) e2 (E9 nd)
   refine⟨l',z1,z2,fun m=>?_⟩
   rw[z3 m,C6,WK,or_assoc]
section
variable{P:Program}{w:World}{K:Qqy}{mg:Qqx}{base:Heap}{A:Ad}
def KW(A:Ad):Sp:=fun vs H Q E=>∃(d:Addr)(D:Dk)(W:Addr→Prop)(s:Str),vs=[.ref d,.str s]∧iK A H d D W∧mQ s∧D.stores.length<1000∧(¬Good s→E (.ref A.jy) none H)∧(Good s→s∈D.stores→E (.ref A.jl) none H)∧
 (Good s→s∉D.stores→∀H' W',iK A H' d (D.begin s) W'→yA W H H'→(∀b,W' b→W b∨H b=none)→Q .iP H')
theorem Iq(T:Txt mg)(O:Ok K mg A):iz P w K mg base (tT P w) 2 A.ui A.uj ["self","store"] (KW A):=by
 have p9:=@sD P w K mg base A T O
 refine O.yn.f.sM zd fun jw A0 outer s H vs Q E hr h=>?_
 obtain⟨d,D,W,st,rfl,X,hf,hlen,q1,q2,q3⟩:=h
 obtain⟨π,x⟩:=id X
 have sz:sizeLine=16777216:=aaA
 refine⟨_,(de (ip (TY bx O.sX p9 hr (a_ (pv 1) e_)))
   (de (iy (jq (qG (by exact ja hr) (pv 1) (g_ (pv 0) rfl))) (fV (j_ bx O.wH (by rfl) (l5 (iE i7 (iE (ox (pv 1)) (iE i7 ow)))))) hV)
   (fV (jB (by exact ja hr) (g_ (pv 0) rfl) (pv 1) mZ rfl)))),?_⟩
 refine DD ?_;intro _ _
 refine⟨_,rfl,st,rfl,hf,fun g=>?_,fun ng=>q1 ng⟩
 refine⟨_,rfl,_,rfl,d,A.gp,π.dx,_,_,rfl,x.hd,O.ix,O.i3,pf _ _ _,π.h,_,rfl,js.k (k:=sk st) x.hh,_,rfl,?_⟩
 rw[mR x.kh]
 by_cases hs:st∈D.stores
 ·rw[UN hs]
  refine nM ⟨_,rfl,by decide+kernel,⟨_,rfl,_,rfl,hf.1,_,rfl,hf.1,⟨_,rfl,by decide+kernel,fun _=>q2 g hs⟩⟩⟩
 ·rw[aab hs]
  refine jC ?_
  intro p Dl
  have fr:∀{b o},H b=some o→b≠p:=fun e=>f_ e Dl
  have Q7:(upd H p (.dK [])) π.h=some (.dK π.kH):=by rw[d_ (fr x.hh)];exact x.hh
  have OS:=lX x.kh
  refine⟨_,rfl,d,A.gp,π.dx,_,_,rfl,by rw[d_ (fr x.hd)];exact x.hd,O.ix,O.i3,pf _ _ _,_,rfl,π.h,_,rfl,mY.k (k:=sk st) Q7 (by omega),?_⟩
  have s1:gc H (upd H p (.dK [])):=(gc.refl H).new Dl
  have up:∀{b o},H b=some o→b≠π.h→upd (upd H p (.dK [])) π.h (.dK (putK π.kH (sk st) (.ref p))) b=some o:=fun{b o} e n=>by rw[d_ n];exact s1 _ _ e
  have Vx:p≠π.h:=(fr x.hh).symm
  refine q3 g hs _ (fun b=>W b∨b=p) ⟨⟨π.dx,π.m,π.n,π.h,fun t=>if t=st then p else π.ha t,π.kM,π.kN,putK π.kH (sk st) (.ref p)⟩,?_⟩ (fun b o e nw=>?_) (fun b hb=>?_)
  ·exact{
    hd:=up x.hd (jc x.hd x.hh (fun z=>by cases z))
    hm:=up x.hm x.mh
    hn:=up x.hn x.nh
    hh:=b_
    mn:=x.mn
    mh:=x.mh
    nh:=x.nh
    wm:=.inl x.wm
    wn:=.inl x.wn
    wh:=.inl x.wh
    km:=x.km
    vm:=fun q hq=>by obtain⟨a,h1,h2⟩:=x.vm q hq;exact⟨a,h1,(h2.same s1).dk Q7⟩
    kn:=x.kn
    vn:=fun y hy=>by
     obtain⟨a,kv,l,h1,h2,h3,h4⟩:=x.vn y hy
     exact⟨a,kv,l,h1,fun z=>z.elim h2 (fr h3),up h3 (fun(z:a=π.h)=>h2 (by rw[z];exact x.wh)),h4⟩
    kh:=rQ x.kh hs _
    vh:=fun t ht=>by
     show iU (putK π.kH (sk st) (.ref p)) (sk t)=some (.ref (if t=st then p else π.ha t))∧(W (if t=st then p else π.ha t)∨(if t=st then p else π.ha t)=p)∧(if t=st then p else π.ha t)≠π.m∧(if t=st then p else π.ha t)≠π.n∧(if t=st then p else π.ha t)≠π.h∧∃kv:List (Key×V),(upd (upd H p (.dK [])) π.h (.dK (putK π.kH (sk st) (.ref p)))) (if t=st then p else π.ha t)=some (.dK kv)∧kv.map (·.1)=(if t=st then[] else D.held t).map sk
     rw[j0]
     by_cases e:t=st
     ·subst e
      rw[aak rfl,aak rfl,aak rfl]
      exact⟨rfl,.inr rfl,(fr x.hm).symm,(fr x.hn).symm,Vx,[],by rw[d_ Vx];exact b_,rfl⟩
     ·have L6:t∈D.stores:=(WL.mp ht).elim id fun z=>absurd (TN.mp z) e
      rw[aai (fun z=>e (aci z)),aai e,aai e]
      obtain⟨h1,h2,h3,h4,h5,kv,h6,h7⟩:=x.vh t L6
      exact⟨h1,.inl h2,h3,h4,h5,kv,up h6 h5,h7⟩
    inj:=fun t ht u hu e=>by
     have e:(if t=st then p else π.ha t)=(if u=st then p else π.ha u):=e
     by_cases e1:t=st
     ·by_cases e2:u=st
      ·rw[e1,e2]
      ·have OY:u∈D.stores:=(WL.mp hu).elim id fun z=>absurd (TN.mp z) e2
       rw[aak e1,aai e2] at e
       obtain⟨_,_,_,_,_,kv,h6,_⟩:=x.vh u OY
       exact absurd e.symm (fr h6)
     ·have L6:t∈D.stores:=(WL.mp ht).elim id fun z=>absurd (TN.mp z) e1
      by_cases e2:u=st
      ·rw[aai e1,aak e2] at e
       obtain⟨_,_,_,_,_,kv,h6,_⟩:=x.vh t L6
       exact absurd e (fr h6)
      ·have OY:u∈D.stores:=(WL.mp hu).elim id fun z=>absurd (TN.mp z) e2
       rw[aai e1,aai e2] at e
       exact x.inj t L6 u OY e
    dk:=fun b hb=>by
     by_cases e:b=π.h
     ·rw[e];exact⟨_,b_⟩
     ·rcases hb with hb|hb
      ·obtain⟨kv,h⟩:=x.dk b hb;exact⟨kv,up h e⟩
      ·rw[hb];exact⟨[],by rw[d_ Vx];exact b_⟩}
  ·exact up e (fun(z:b=π.h)=>nw (by rw[z];exact x.wh))
  ·rcases hb with hb|hb
   ·exact .inl hb
   ·rw[hb];exact .inr Dl
def Qi(A:Ad):Sp:=fun vs H Q E=>∃(d l:Addr)(D:Dk)(W:Addr→Prop)(x:Str)(fs:List Str),vs=[.ref d,.str x,.ref l]∧iK A H d D W∧H l=some (.lst (ia fs))∧fs.length≤1000∧(∀y∈x::fs,mQ y)∧
 ((¬∀y∈x::fs,Good y)→∀H',gc H H'→E (.ref A.jy) none H')∧((∀y∈x::fs,Good y)→x∈D.names→∀H',gc H H'→E (.ref A.jl) none H')∧((∀y∈x::fs,Good y)→x∉D.names→∀H',gc H H'→Q .iP H')
theorem p5(T:Txt mg)(O:Ok K mg A):iz P w K mg base (tT P w) 2 A.o_ A.pb ["self","patch","files"] (Qi A):=by
 have p9:=@sD P w K mg base A T O
 refine O.lD.f.sM n6 fun jw A0 outer s H vs Q E hr h=>?_
 obtain⟨d,l,D,W,y,fs,rfl,X,hl,Rz,L7,q1,q2,q3⟩:=h
 obtain⟨π,x⟩:=id X
 have sz:sizeLine=16777216:=aaA
 refine⟨_,(de (iQ MK rfl (iD (hX mX (iX (a_ (pv 1) e_)) (pv 2))) (uN 3 n6) (fV (ip (TY bx O.sX p9 hr (a_ (pv 3) e_)))))
   (fV (iy (jq (qG (by exact ja hr) (pv 1) (g_ (pv 0) rfl))) (fV (j_ bx O.wH (by rfl) (l5 (iE i7 (iE (ox (pv 1)) (iE i7 ow)))))) hV))),?_⟩
 refine Kc ?_;intro _
 refine⟨_,rfl,L2.kq,fun a ha=>?_⟩
 have s1:gc H (upd H a (.lst [V.str y])):=(gc.refl H).new ha
 refine⟨_,rfl,a,l,_,_,rfl,rfl,b_,s1 _ _ hl,by rw[QR];show 1+_≤_;omega,fun b hb=>?_⟩
 have s2:=s1.new (o:=.lst ([V.str y]++ia fs)) hb
 have Oa:(upd (upd H a (.lst [V.str y])) b (.lst ([V.str y]++ia fs))) b=some (.lst (ia (y::fs))):=b_
 generalize upd (upd H a (.lst [V.str y])) b (.lst ([V.str y]++ia fs))=H2 at s2 Oa
 let Jv:=fun(i:Nat) (σ:St) (H3:Hp)=>∃v,σ=[rr d,rs y,rr l,v]∧H3=H2∧∀z∈(y::fs).take i,Good z
 refine⟨b,rfl,⟨_,ib.of Oa⟩,jz (K:=K) (a:=b) (xs:=ia (y::fs)) Jv ⟨none,rfl,rfl,fun z hz=>by rw[abO] at hz;cases hz⟩ (by rintro _ _ _ _ ⟨_,_,e,_⟩;rw[e];exact ib.of Oa) ?_ ?_⟩
 ·rintro i v σ H3 hx ⟨v0,rfl,rfl,hg⟩
  obtain⟨z,hz,rfl⟩:=xk hx
  refine⟨_,rfl,z,rfl,L7 z (UK hz),fun g=>?_,fun ng=>q1 (fun h=>ng (h z (UK hz))) _ s2⟩
  refine⟨_,rfl,rfl,fun t ht=>?_⟩
  rw[take_snoc hz] at ht
  rcases WL.mp ht with ht|ht
  ·exact hg t ht
  ·rw[TN.mp ht];exact g
 ·rintro σ H3 ⟨v0,rfl,rfl,hg⟩
  rw[QR,aan] at hg
  refine⟨_,rfl,_,rfl,d,A.gp,π.dx,_,_,rfl,s2 _ _ x.hd,O.ix,O.i0,ph _ _ _,π.m,_,rfl,js.k (k:=sk y) (s2 _ _ x.hm),_,rfl,?_⟩
  rw[mR x.km]
  have hf:=L7 y aal
  by_cases hm:y∈D.names
  ·rw[UN hm]
   exact nM ⟨_,rfl,by decide+kernel,⟨_,rfl,_,rfl,hf.1,_,rfl,hf.1,⟨_,rfl,by decide+kernel,fun _=>q2 hg hm _ s2⟩⟩⟩
  ·rw[aab hm]
   exact q3 hg hm _ s2
def NA(A:Ad):Sp:=fun vs H Q _=>∃(d a:Addr)(D:Dk)(W:Addr→Prop)(s:Str)(p:Pt),vs=[.ref d,.str s,.ref a]∧iK A H d D W∧Inv D∧yt D.made.length∧s∈D.stores∧nN A H a p∧p.nm∉D.names∧yt p.ik.length∧yt p.iV.length∧(∀y∈iu p,y∈D.names)∧
 ∀H',iK A H' d (D.keep s p) W→yA W H H'→Q .iP H'
theorem Br(p:Pt):(iu p).length≤p.iV.length+2*p.ik.length+1:=by
 unfold iu
 rw[TZ,QR]
 have h1:=aaU (fun n:Nm=>decide (n.1≠p.nm)) (named p)
 have h2:=Af p
 have h3:p.other.toList.length≤1:=by cases p.other<;>simp
 omega
theorem Bs(T:Txt mg)(O:Ok K mg A):iz P w K mg base mB 3 A.wo A.wq ["self","store","patch"] (NA A):=by
 have rZ:=@rD P w K mg base A T O
 refine O.rN.f.qJ pV fun jw A0 outer s H vs Q E hr h=>?_
 obtain⟨d,a,D,W,st,p,rfl,X,I,kq,hs,Ar,fresh,EC,Dr,Ex,q⟩:=h
 obtain⟨π,x⟩:=id X
 have Dm:D.made.length≤4000:=kq
 have L0:p.ik.length≤4000:=EC
 have Je:p.iV.length≤4000:=Dr
 have sz:sizeLine=16777216:=aaA
 have Od:D.names.length=D.made.length:=by unfold Dk.names;rw[QR]
 have OO:=Br p
 refine⟨_,(de (l6 3 pV mZ)
   (de (iQ aav rfl (iD (pk O.oj rZ hr (a_ (pv 2) e_))) (uN 4 pV) (de (jB (by exact ja hr) (pv 3) (pv 4) jS rfl)
   (fV (ip (HH (pv 3) (B1 hr (g_ (pv 0) rfl) (pv 4)) ⟨rfl,rfl,rfl,rfl⟩)))))
   (de (jB (by exact ja hr) (g_ (pv 0) rfl) (g_ (pv 2) rfl) (pv 3) rfl)
   (de (jB (by exact ja hr) (g_ (pv 0) rfl) (g_ (pv 2) rfl) (pv 2) rfl)
   (fV (jB (by exact ja hr) (B1 hr (g_ (pv 0) rfl) (pv 1)) (g_ (pv 2) rfl) jS rfl)))))),?_⟩
 refine MO ?_;intro _ _ _ _
 intro nd N3
 have s1:gc H (upd H nd (.dK [])):=(gc.refl H).new N3
 have Ol:(upd H nd (.dK [])) nd=some (.dK []):=b_
 generalize upd H nd (.dK [])=H1 at s1 Ol
 refine⟨_,rfl,a,p,rfl,Ar.same s1,EC,Dr,fun r H2 s2 qB y4=>?_⟩
 have DJ:=s1.trans s2
 have hrn:r≠nd:=fun z=>by rw[z,Ol] at qB;cases qB
 have SM:¬W nd:=X.iP N3
 let Jv:=fun(i:Nat) (σ:St) (H3:Hp)=>∃(v:Option V)(kv:List (Key×V))(l:List Str),σ=[rr d,rs st,rr a,rr nd,v]∧(∀b o,H2 b=some o→b≠nd→H3 b=some o)∧H3 nd=some (.dK kv)∧kv.map (·.1)=l.map sk∧l.Nodup∧∀y,y∈l↔∃z∈(iu p).take i,y=z∨y∈D.iY z
 refine⟨r,rfl,⟨_,ib.of y4⟩,jz (K:=K) (a:=r) (xs:=ia (iu p)) Jv
  ⟨none,[],[],rfl,fun b o e _=>e,s2 _ _ Ol,rfl,abi,fun y=>by simp⟩ (by rintro _ _ _ _ ⟨_,_,_,_,e,_⟩;exact ib.of (e _ _ y4 hrn)) ?_ ?_⟩
 ·rintro i v σ H3 hx ⟨v0,kv,l,rfl,e1,e2,e3,e4,e5⟩
  obtain⟨z,hz,rfl⟩:=xk hx
  have hzm:z∈iu p:=UK hz
  have XS:z∈D.names:=Ex z hzm
  obtain⟨az,kz,lz,z1,z2,z3,z4,z5,z6⟩:=x.vn z XS
  have zz:∀y∈l,y∈D.names:=fun y hy=>by
   obtain⟨t,ht,h⟩:=(e5 y).mp hy
   have XT:=Ex t (List.mem_of_mem_take ht)
   rcases h with h|h
   ·rw[h];exact XT
   ·exact I.xp XT h
  have Xx:=yB e4 zz
  have hlz:=yB z5 fun y hy=>I.xp XS ((z6 y).mp hy)
  have OS:=lX e3
  have hkz:=lX z4
  have Xo:=jk kv (sk z) (V.bl true)
  have Vy:az≠nd:=fun e=>by rw[e,N3] at z3;cases z3
  refine⟨_,rfl,_,rfl,nd,_,rfl,mY.k (k:=sk z) e2 (by omega),?_⟩
  have up:∀{b o},H b=some o→upd H3 nd (.dK (putK kv (sk z) (V.bl true))) b=some o:=fun{b o} e=>by
   have n:b≠nd:=fun z=>by rw[z,N3] at e;cases e
   rw[d_ n];exact e1 _ _ (DJ _ _ e) n
  refine⟨_,rfl,nd,rfl,.inl ⟨_,.inl b_⟩,_,rfl,d,A.gp,π.dx,_,_,rfl,up x.hd,O.ix,O.jJ,Ag _ _ _,_,rfl,π.n,.ref az,rfl,?_,az,_,kz,rfl,b_,.inl (up z3),Vy.symm,by omega,?_⟩
  ·have:=js.k (k:=sk z) (up x.hn)
   rw[z1] at this
   exact this
  ·obtain⟨l',w1,w2,w3⟩:=Aj kz _ (C5 l z) lz (Ai e3 z (V.bl true)) z4 (E9 e4)
   refine⟨_,_,l',rfl,fun b o e n=>by rw[d_ n,d_ n];exact e1 b o e n,b_,w1,w2,fun y=>?_⟩
   rw[w3 y,C6,e5 y,z6 y,take_snoc hz]
   constructor
   ·rintro((⟨t,ht,h⟩|h)|h)
    ·exact⟨t,aaf _ ht,h⟩
    ·exact⟨z,by simp,.inl h⟩
    ·exact⟨z,by simp,.inr h⟩
   ·rintro⟨t,ht,h⟩
    rcases WL.mp ht with ht|ht
    ·exact .inl (.inl ⟨t,ht,h⟩)
    ·rw[TN.mp ht] at h
     exact h.elim (fun h=>.inl (.inr h)) .inr
 ·rintro σ H3 ⟨v0,kv,l,rfl,e1,e2,e3,e4,e5⟩
  rw[QR,aan] at e5
  have s3:gc H H3:=fun b o e=>e1 b o (DJ _ _ e) (fun z=>by rw[z,N3] at e;cases e)
  obtain⟨dx,vf,pu,cu,vo,g1,g2⟩:=Ar.same s3
  have y:=x.same s3
  have hnM:=lX x.km
  have hnN:=lX x.kn
  obtain⟨v1,v2,v3,v4,v5,XU,v6,v7⟩:=y.vh st hs
  have hkv0:=lX v7
  have hhl:=yB (I.vR st hs) fun t ht=>(I.ni st hs t ht).1
  refine⟨_,rfl,_,rfl,d,A.gp,π.dx,_,_,rfl,y.hd,O.ix,O.jJ,Ag _ _ _,_,rfl,a,A.hG,dx,_,_,rfl,g1,O.iZ,O.iW,rn,π.n,_,rfl,mY.k (k:=sk p.nm) y.hn (by omega),?_⟩
  have f1:∀{b o},H3 b=some o→b≠π.n→upd H3 π.n (.dK (putK π.kN (sk p.nm) (.ref nd))) b=some o:=fun{b o} e n=>by rw[d_ n];exact e
  have JF:d≠π.n:=jc y.hd y.hn (fun z=>by cases z)
  have XW:a≠π.n:=jc g1 y.hn (fun z=>by cases z)
  have SK:d≠π.m:=jc y.hd y.hm (fun z=>by cases z)
  have ham:a≠π.m:=jc g1 y.hm (fun z=>by cases z)
  refine⟨_,rfl,_,rfl,d,A.gp,π.dx,_,_,rfl,f1 y.hd JF,O.ix,O.i0,ph _ _ _,_,rfl,a,A.hG,dx,_,_,rfl,f1 g1 XW,O.iZ,O.iW,rn,π.m,_,rfl,mY.k (k:=sk p.nm) (f1 y.hm x.mn) (by omega),?_⟩
  have f2:∀{b o},H3 b=some o→b≠π.n→b≠π.m→upd (upd H3 π.n (.dK (putK π.kN (sk p.nm) (.ref nd)))) π.m (.dK (putK π.kM (sk p.nm) (.ref a))) b=some o:=fun{b o} e n m=>by rw[d_ m];exact f1 e n
  refine⟨_,rfl,d,A.gp,π.dx,_,_,rfl,f2 y.hd JF SK,O.ix,O.i3,pf _ _ _,_,rfl,π.h,.ref (π.ha st),rfl,?_,_,rfl,a,A.hG,dx,_,_,rfl,f2 g1 XW ham,O.iZ,O.iW,rn,π.ha st,_,rfl,mY.k (k:=sk p.nm) (f2 v6 v4 v3) (by omega),?_⟩
  ·have:=js.k (k:=sk st) (f2 y.hh x.nh.symm x.mh.symm)
   rw[v1] at this
   exact this
  ·have SN:p.nm∉D.held st:=fun z=>fresh (I.ni st hs _ z).1
   have f3:∀{b o},H3 b=some o→b≠π.n→b≠π.m→b≠π.ha st→upd (upd (upd H3 π.n (.dK (putK π.kN (sk p.nm) (.ref nd)))) π.m (.dK (putK π.kM (sk p.nm) (.ref a)))) (π.ha st) (.dK (putK XU (sk p.nm) (V.bl true))) b=some o:=fun{b o} e n m h=>by rw[d_ h];exact f2 e n m
   have f4:∀{b q},nN A H3 b q→nN A (upd (upd (upd H3 π.n (.dK (putK π.kN (sk p.nm) (.ref nd)))) π.m (.dK (putK π.kM (sk p.nm) (.ref a)))) (π.ha st) (.dK (putK XU (sk p.nm) (V.bl true)))) b q:=fun z=>((z.dk y.hn).dk (f1 y.hm x.mn)).dk (f2 v6 v4 v3)
   have nW:∀{b},¬W b→b≠π.n∧b≠π.m∧b≠π.ha st:=fun{b} h=>⟨fun z=>h (by rw[z];exact x.wn),fun z=>h (by rw[z];exact x.wm),fun z=>h (by rw[z];exact v2)⟩
   refine q _ ⟨{π with kM:=putK π.kM (sk p.nm) (.ref a),kN:=putK π.kN (sk p.nm) (.ref nd)},?_⟩ fun b o e n=>f3 (s3 _ _ e) (nW n).1 (nW n).2.1 (nW n).2.2
   have EE:(D.keep st p).names=D.names++[p.nm]:=by
    show(D.made++[p]).map (·.nm)=_
    rw[aam];rfl
   exact{
    hd:=f3 y.hd JF SK (jc y.hd v6 (fun z=>by cases z))
    hm:=by
     show upd _ (π.ha st) _ π.m=_
     rw[d_ v3.symm];exact b_
    hn:=by
     show upd _ (π.ha st) _ π.n=_
     rw[d_ v4.symm,d_ x.mn.symm];exact b_
    hh:=f3 y.hh x.nh.symm x.mh.symm v5.symm
    mn:=x.mn
    mh:=x.mh
    nh:=x.nh
    wm:=x.wm
    wn:=x.wn
    wh:=x.wh
    km:=by rw[EE];exact rQ x.km fresh _
    vm:=fun q hq=>by
     show ∃b,iU (putK π.kM (sk p.nm) (.ref a)) (sk q.nm)=some (.ref b)∧_
     rw[j0]
     rcases WL.mp hq with hq|hq
     ·obtain⟨b,w1,w2⟩:=y.vm q hq
      have qz:q.nm≠p.nm:=fun z=>fresh (by rw[←z];exact T1 hq)
      rw[aai (fun z=>qz (aci z))]
      exact⟨b,w1,f4 w2⟩
     ·rw[TN.mp hq,aak rfl]
      exact⟨a,rfl,f4 (Ar.same s3)⟩
    kn:=by rw[EE];exact rQ x.kn fresh _
    vn:=fun t ht=>by
     rw[EE] at ht
     show ∃(b:Addr)(kv:List (Key×V))(l:List Str),iU (putK π.kN (sk p.nm) (.ref nd)) (sk t)=some (.ref b)∧¬W b∧_∧kv.map (·.1)=l.map sk∧l.Nodup∧∀u,u∈l↔u∈(if t=p.nm then pJ D.iY p else D.iY t)
     rw[j0]
     by_cases e:t=p.nm
     ·rw[aak (by rw[e]),aak e]
      refine⟨nd,kv,l,rfl,SM,f3 e2 (nW SM).1 (nW SM).2.1 (nW SM).2.2,e3,e4,fun u=>?_⟩
      rw[e5 u]
      unfold pJ
      rw[aaZ]
      exact⟨fun⟨z,h1,h2⟩=>⟨z,h1,WK.mpr h2⟩,fun⟨z,h1,h2⟩=>⟨z,h1,WK.mp h2⟩⟩
     ·rw[aai (fun z=>e (aci z)),aai e]
      have L6:t∈D.names:=(WL.mp ht).elim id fun z=>absurd (TN.mp z) e
      obtain⟨b,Vz,l',w1,w2,w3,w4⟩:=y.vn t L6
      exact⟨b,Vz,l',w1,w2,f3 w3 (nW w2).1 (nW w2).2.1 (nW w2).2.2,w4⟩
    kh:=x.kh
    vh:=fun t ht=>by
     obtain⟨h1,h2,h3,h4,h5,Vz,h6,h7⟩:=y.vh t ht
     refine⟨h1,h2,h3,h4,h5,?_⟩
     show ∃kv:List (Key×V),_∧kv.map (·.1)=(if t=st then D.held st++[p.nm] else D.held t).map sk
     by_cases e:t=st
     ·subst e
      rw[aak rfl]
      exact⟨_,b_,rQ v7 SN _⟩
     ·rw[aai e]
      exact⟨Vz,f3 h6 h4 h3 (fun z=>e (x.inj t ht st hs z)),h7⟩
    inj:=x.inj
    dk:=fun b hb=>by
     by_cases h1:b=π.ha st
     ·rw[h1];exact⟨_,b_⟩
     ·by_cases h2:b=π.m
      ·rw[h2,d_ v3.symm];exact⟨_,b_⟩
      ·by_cases h3:b=π.n
       ·rw[h3,d_ v4.symm,d_ x.mn.symm];exact⟨_,b_⟩
       ·obtain⟨kv,h⟩:=y.dk b hb
        exact⟨kv,f3 h h3 h2 h1⟩}
theorem yC(l:List Str):Paired (fun(x:Str) (v:V)=>v=.str x) l (ia l):=by
 induction l with
 | nil=>exact .nil
 | cons x r ih=>exact .cons rfl ih
theorem KY{n:Nat}{K:Qqy}{H:Hp}{a c:Addr}{x y:List Str}(h1:ib K H a (ia x))(h2:ib K H c (ia y)):mJ K H (n+1) (.ref a) (.ref c) (decide (x=y)):=
 mJ.Kb (F:=fun(x:Str) (v:V)=>v=.str x) (fun p q u v hu hv=>by subst hu hv;exact mJ.AK p q) h1 h2 (yC x) (yC y)
def Jy(n:Int):Int→List Int→Prop
 | _,[]=>True
 | l,p::r=>(l≤p∧p<n)∧Jy n (p+1) r
def Ir(A:Ad):Sp:=fun vs H Q E=>∃(a:Addr)(ps:List Int)(n:Int),vs=[.ref a,.int n]∧H a=some (.lst (ps.map V.int))∧(∀p∈ps,p.natAbs.log2<1920)∧(Jy n 0 ps→Q .iP H)∧(¬Jy n 0 ps→E (.ref A.nI) none H)
theorem w_(T:Txt mg)(O:Ok K mg A):iz P w K mg base (tT P w) 1 A.qV A.qW ["places","size"] (Ir A):=by
 refine O.uu.f.sM kR fun jw A0 outer s H vs Q E hr h=>?_
 obtain⟨a,ps,n,rfl,ha,Om,q,qe⟩:=h
 refine⟨_,(de (l6 2 kR fY)
   (fV (iQ MK rfl (iD (pv 0)) (uN 3 kR) (de (iy (jr (Cc G2 EO (pv 2) (pv 3) (pv 1))) (fV (j_ bx O.H_ (by rfl) (l5 (iE i7 (iE (Hw (pv 3)) (iE i7 ow)))))) hV)
   (fV (l6 2 kR (hX i8 (pv 3) fY))))))),?_⟩
 refine Kc ?_;intro _
 let Jv:=fun(i:Nat) (σ:St) (H2:Hp)=>∃(l:Int)(v:Option V),σ=[rr a,ri n,ri l,v]∧H2=H∧(Jy n 0 ps↔Jy n l (ps.drop i))
 refine⟨_,rfl,a,rfl,⟨_,ib.of ha⟩,jz (K:=K) (a:=a) (xs:=ps.map V.int) Jv ⟨0,none,rfl,rfl,Iff.rfl⟩ (by rintro _ _ _ _ ⟨_,_,_,e,_⟩;rw[e];exact ib.of ha) ?_ ?_⟩
 ·rintro i v σ H2 hx ⟨l,v0,rfl,rfl,e⟩
  rw[ZZ] at hx
  obtain⟨p,hp,rfl⟩:=Option.map_eq_some_iff.mp hx
  have hi:i<ps.length:=(List.getElem?_eq_some_iff.mp hp).1
  have hd:ps.drop i=p::ps.drop (i+1):=by rw[aaS hi];congr 1;exact(List.getElem?_eq_some_iff.mp hp).2
  rw[hd] at e
  have hl:=Om p (UK hp)
  refine⟨_,rfl,_,rfl,_,_,rfl,rfl,_,rfl,?_⟩
  refine l_ (fun h1=>?_) (fun h1=>?_)
  ·have h1:l≤p:=by simpa using h1
   refine⟨_,rfl,_,_,rfl,rfl,_,rfl,?_⟩
   refine l_ (fun h2=>?_) (fun h2=>?_)
   ·have h2:¬p<n:=by simpa using h2
    refine⟨_,rfl,by decide+kernel,⟨_,rfl,_,rfl,hl,_,rfl,?_⟩⟩
    exact⟨aac (PyProof.Rows.int_text_len_1921 hl) (by decide),⟨_,rfl,by decide+kernel,fun _=>qe fun z=>h2 (e.mp z).1.2⟩⟩
   ·have h2:p<n:=by simpa using h2
    refine⟨_,rfl,_,_,rfl,rfl,_,_,rfl,rfl,e.trans ⟨fun z=>z.2,fun z=>⟨⟨h1,h2⟩,z⟩⟩⟩
  ·have h1:¬l≤p:=by simpa using h1
   refine⟨_,rfl,?_⟩
   refine⟨_,rfl,by decide+kernel,⟨_,rfl,_,rfl,hl,_,rfl,?_⟩⟩
   exact⟨aac (PyProof.Rows.int_text_len_1921 hl) (by decide),⟨_,rfl,by decide+kernel,fun _=>qe fun z=>h1 (e.mp z).1.1⟩⟩
 ·rintro σ H2 ⟨l,v0,rfl,rfl,e⟩
  rw[QR,acg] at e
  exact q (e.mpr trivial)
def Qj(A:Ad):Sp:=fun vs H Q E=>∃(d t:Addr)(D:Dk)(W:Addr→Prop)(s x f:Str)(texts:List Str),vs=[.ref d,.str s,.str x,.str f,.ref t]∧iK A H d D W∧Inv D∧Small D.made∧(D.made.flatMap (·.ik)).length≤1000∧mQ s∧mQ x∧mQ f∧H t=some (.lst (ia texts))∧texts.length≤1000∧
 (s∉D.stores→E (.ref A.jo) none H)∧
 (s∈D.stores→¬(Good x∧Good f)→∀H',gc H H'→E (.ref A.jy) none H')∧
 (s∈D.stores→Good x→Good f→x∈D.names→∀H',gc H H'→E (.ref A.jl) none H')∧
 (s∈D.stores→Good x→Good f→x∉D.names→D.zb s f≠[]→∀H',gc H H'→E (.ref A.kZ) none H')∧
 (s∈D.stores→Good x→Good f→x∉D.names→D.zb s f=[]→(D.row s f).map (·.tx)=texts→∀H',gc H H'→E (.ref A.sU) none H')∧
 (s∈D.stores→Good x→Good f→x∉D.names→D.zb s f=[]→(D.row s f).map (·.tx)≠texts→∀H',iK A H' d (D.keep s (iG x f (D.row s f) texts)) W→yA W H H'→Q .iP H')
theorem k8{x f:Str}:(∀y∈[x,f],Good y)↔Good x∧Good f:=by
 constructor
 ·exact fun h=>⟨h x (by simp),h f (by simp)⟩
 ·rintro⟨h1,h2⟩ y hy
  rcases WK.mp hy with z|z
  ·rw[z];exact h1
  ·rw[TN.mp z];exact h2
theorem uD{D:Dk}(I:Inv D){s f x:Str}(hs:s∈D.stores)(texts:List Str):∀y∈iu (iG x f (D.row s f) texts),y∈D.names:=by
 intro y hy
 unfold iu at hy
 rcases WL.mp hy with hy|hy
 ·obtain⟨m,hm,rfl⟩:=aaw.mp hy
  obtain⟨hm,hn⟩:=aaj.mp hm
  have hn:m.1≠x:=aau hn
  have fin:m∈(D.row s f).map (·.nm)→m.1∈D.names:=fun h=>by
   obtain⟨l,hl,rfl⟩:=aaw.mp h
   obtain⟨p,h1,_,h3⟩:=I.rM hl
   have hp:=(Inv.kP.mp h1).1
   rw[nj (I.DG p hp) (T1 h3)]
   exact T1 hp
  rcases WL.mp hm with hm|hm
  ·obtain⟨l,hl,rfl⟩:=aaw.mp hm
   exact fin (T1 (aaj.mp hl).1)
  ·obtain⟨l,hl,hm⟩:=aaZ.mp hm
   have N4:l.up=some m∨l.lo=some m:=by
    rcases WL.mp hm with hm|hm
    ·exact .inl (by simpa using hm)
    ·exact .inr (by simpa using hm)
   rcases xm texts 0 0 none l hl m N4 with(z|⟨t,z⟩)|z
   ·cases z
   ·obtain⟨q,_,_,l',uI,rfl⟩:=AS z
    exact fin (T1 (UK uI))
   ·rw[tW] at z
    obtain⟨j,_,rfl⟩:=aaw.mp z
    exact absurd rfl hn
 ·cases hy
theorem p6{x f:Str}{row:List Ln}{texts:List Str}:(iG x f row texts).ik.length≤texts.length∧(iG x f row texts).iV.length≤row.length:=by
 have rise:=oP (row.map (·.tx)) texts
 rw[QR] at rise
 have h:=E3 rise x
 refine⟨by show(j1 x texts _).length≤_;omega,?_⟩
 show((row.filter _).map _).length≤_
 rw[QR]
 exact aaU _ _
theorem Gm(T:Txt mg)(O:Ok K mg A):iz P w K mg base (tT P w) 6 A.sv A.sx ["self","store","patch","file","texts"] (Qj A):=by
 have iT:=@lF P w K mg base A T O
 have jR:=@p5 P w K mg base A T O
 have j2:=@rF P w K mg base A T O
 have r9:=@yv P w K mg base A T O
 have vE:=@uC P w K mg base A T O
 have me:=@Bs P w K mg base A T O
 refine O.wG.f.sM nE fun jw A0 outer s H vs Q E hr h=>?_
 obtain⟨d,t,D,W,st,y,f,texts,rfl,X,I,sm,VA,DI,L4,Oo,ht,GQ,q1,q2,q3,q4,q5,q6⟩:=h
 obtain⟨π,x⟩:=id X
 have sz:sizeLine=16777216:=aaA
 have EA:(D.row st f).length≤1000:=aac (I.xo st f) VA
 refine⟨_,(de (ip (E1 bx (pv 0) O.ix O.jP iT hr (a_ (pv 1) e_)))
   (de (ip (E1 bx (pv 0) O.ix O.lD jR hr (a_ (pv 2) (a_ (iX (a_ (pv 3) e_)) e_))))
   (de (l6 5 nE (E1 bx (pv 0) O.ix O.l8 j2 hr (a_ (pv 1) (a_ (pv 3) e_))))
   (de (iy (tM (G7 (pv 5) O.j7 O.lC.t r9 (hr.mono (by decide)) O.lC.b .nil qj) (fun _=>rfl)) (fV (j_ bx O.CQ (by rfl) (l5 (iE i7 (iE (ox (pv 3)) (iE i7 ow)))))) hV)
   (de (iy (iq (Hn 3 (by exact PH hr)) (sd sj (fW l7).names [6] rfl (iD (g_ (pv 5) rfl)) rfl (by decide+kernel) (fun _ _ _ _=>(iJ (i:=6) nE.nd rfl (Or.inl rfl))) (fun _ _ _ _=>mf) (fun _ _ _ _=>zV (g_ (pv 6) rfl))) (pv 4) (iS _)) (fV (j_ bx O.Ia (by rfl) (l5 (iE i7 (iE (ox (pv 3)) (iE i7 ow)))))) hV)
   (fV (ip (HK (pv 0) O.ix O.rN me hr (a_ (pv 1) (a_ (pk O.rl vE hr (a_ (pv 2) (a_ (pv 3) (a_ (g_ (pv 5) rfl) (a_ (pv 4) e_))))) e_)))))))))),?_⟩
 refine RY ?_;intro _ _ _ _ _
 refine⟨_,rfl,d,π.dx,_,rfl,x.hd,lE,_,rfl,d,D,W,st,rfl,X,DI,fun hs=>?_,fun hs=>q1 hs⟩
 refine⟨_,rfl,d,π.dx,_,rfl,x.hd,p3,_,rfl,_,rfl,L2.kq,fun l hl=>?_⟩
 have s1:gc H (upd H l (.lst [V.str f])):=(gc.refl H).new hl
 refine⟨d,l,D,W,y,[f],rfl,X.same s1,b_,by show 1≤1000;decide,fun z hz=>?_,fun h H' s'=>q2 hs (fun g=>h (k8.mpr g)) H' (s1.trans s'),fun h hn H' s'=>q3 hs (k8.mp h).1 (k8.mp h).2 hn H' (s1.trans s'),fun h hn H2 s2=>?_⟩
 ·rcases WK.mp hz with z|z
  ·rw[z];exact L4
  ·rw[TN.mp z];exact Oo
 obtain⟨gy,gf⟩:=k8.mp h
 have DJ:=s1.trans s2
 have X2:=X.same DJ
 refine⟨_,rfl,d,π.dx,_,rfl,DJ _ _ x.hd,rE,_,rfl,_,rfl,d,D,W,st,f,rfl,X2,DI,sm,I,fun h=>absurd hs h,fun _ p H3 s3 Dl sg=>?_⟩
 obtain⟨px,ah,ln,g1,g2,⟨as,g3,g4⟩⟩:=id sg
 have Lq:=DJ.trans s3
 have hlen:=aad g4
 refine⟨_,rfl,p,px,_,rfl,g1,Nk ah ln,p,_,_,rfl,sg,Nx I st f,aac EA (by decide),fun r H4 vs s4 qB y4 BG=>?_⟩
 have L3:=Lq.trans s4
 have Rj:=aad BG
 by_cases hq:D.zb st f=[]
 case neg=>
  have VB:vs≠[]:=fun z=>hq (by
   have e:(ke (Ah (g9 (D.ll st) f)) (D.row st f)).length=0:=by rw[Rj,z];rfl
   exact aaK.mp e)
  refine⟨true,.inl ⟨_,ib.of y4,by simpa using VB⟩,nM ?_⟩
  exact⟨_,rfl,by decide+kernel,⟨_,rfl,_,rfl,Oo.1,_,rfl,Oo.1,⟨_,rfl,by decide+kernel,fun _=>q4 hs gy gf hn hq _ L3⟩⟩⟩
 have VB:vs=[]:=by
  have e:(ke (Ah (g9 (D.ll st) f)) (D.row st f)).length=0:=by rw[show ke (Ah (g9 (D.ll st) f)) (D.row st f)=[] from hq];rfl
  rw[Rj] at e
  exact aaK.mp e
 refine⟨false,.inl ⟨_,ib.of y4,by rw[VB];rfl⟩,jC ?_⟩
 have XX:=s4 _ _ g1
 have VC:=s4 _ _ g3
 let Jv:=fun(i:Nat) (ys:List V) (σ:St) (H5:Hp)=>∃(v6:Option V),σ=[rr d,rs st,rs y,rs f,rr t,rr p,v6]∧H5=H4∧ys=ia (((D.row st f).take i).map (·.tx))
 refine⟨_,rfl,p,A.ig,px,_,_,rfl,XX,O.j7,O.iw,k7 ah ln,ln,rfl,⟨_,ib.of VC⟩,jU (K:=K) (a:=ln) (xs:=as.map V.ref) (by rw[QR];omega) Jv
  ⟨none,rfl,rfl,rfl⟩ (by rintro _ _ _ _ _ ⟨_,_,e,e2⟩;rw[e,e2];exact⟨ib.of VC,by rw[QR,QR,aaG];omega⟩) ?_ ?_⟩
 ·rintro i v ys σ H5 hx ⟨v6,rfl,rfl,rfl⟩
  obtain⟨b,hb,rfl⟩:=jZ hx
  obtain⟨l2,IP,dx,vn,vu,vl,k1,k2,k3,k4⟩:=ie g4 hb
  refine⟨_,rfl,b,A.hU,dx,_,_,rfl,s4 _ _ k1,O.iH,O.ji,uv,_,rfl,rfl,?_⟩
  rw[take_snoc IP,aam,ky]
  rfl
 ·rintro ys σ H5 ⟨v6,rfl,rfl,rfl⟩ o Oi
  rw[QR,hlen,aan]
  have s5:=L3.new (o:=.lst (ia ((D.row st f).map (·.tx)))) Oi
  have GS:gc H5 (upd H5 o (.lst (ia ((D.row st f).map (·.tx))))):=(gc.refl H5).new Oi
  refine⟨_,rfl,_,⟨o,t,rfl,rfl⟩,KY (ib.of b_) (ib.of (s5 _ _ ht)),_,rfl,?_⟩
  by_cases he:(D.row st f).map (·.tx)=texts
  ·rw[UN he]
   refine nM ?_
   exact⟨_,rfl,by decide+kernel,⟨_,rfl,_,rfl,Oo.1,_,rfl,Oo.1,⟨_,rfl,by decide+kernel,fun _=>q5 hs gy gf hn hq he _ s5⟩⟩⟩
  ·rw[aab he]
   refine jC ?_
   have X5:=X.same s5
   refine⟨_,rfl,d,π.dx,_,rfl,s5 _ _ x.hd,Bp,_,rfl,_,rfl,_,rfl,_,rfl,p,A.ig,px,_,_,rfl,GS _ _ XX,O.j7,O.iw,k7 ah ln,_,rfl,y,f,ln,t,D.row st f,texts,rfl,⟨as,GS _ _ VC,Paired.jK g4 fun _ _ z=>(z.same s4).same GS⟩,s5 _ _ ht,EA,GQ,fun pa H6 s6 hpa0 VD=>?_⟩
   have RA:=s5.trans s6
   obtain⟨cl1,cl2⟩:=p6 (x:=y) (f:=f) (row:=D.row st f) (texts:=texts)
   refine⟨d,pa,D,W,st,_,rfl,X.same RA,I,sm.many,hs,VD,hn,aac cl1 (aac GQ (by decide)),aac cl2 (aac EA (by decide)),uD I hs texts,fun H7 X7 s7=>?_⟩
   exact q6 hs gy gf hn hq he H7 X7 fun b o e n=>s7 b o (RA _ _ e) n
def NB(A:Ad):Sp:=fun vs H Q E=>∃(d:Addr)(D:Dk)(W:Addr→Prop)(s x o:Str),vs=[.ref d,.str s,.str x,.str o]∧iK A H d D W∧Inv D∧yt D.made.length∧mQ s∧mQ x∧mQ o∧
 (s∉D.stores→E (.ref A.jo) none H)∧(s∈D.stores→¬Good x→∀H',gc H H'→E (.ref A.jy) none H')∧(s∈D.stores→Good x→x∈D.names→∀H',gc H H'→E (.ref A.jl) none H')∧
 (s∈D.stores→Good x→x∉D.names→o∉D.held s→∀H',gc H H'→E (.ref A.kE) none H')∧
 (s∈D.stores→Good x→x∉D.names→o∈D.held s→∀H',iK A H' d (D.keep s ⟨x,none,[],[],some o⟩) W→yA W H H'→Q .iP H')
theorem yD{x:Str}:(∀y∈[x],Good y)↔Good x:=⟨fun h=>h x (by simp),fun h y hy=>by rw[TN.mp hy];exact h⟩
theorem KZ(T:Txt mg)(O:Ok K mg A):iz P w K mg base (tT P w) 4 A.we A.wg ["self","store","patch","other"] (NB A):=by
 have iT:=@lF P w K mg base A T O
 have jR:=@p5 P w K mg base A T O
 have uL:=@zt P w K mg base A T O
 have jQ:=@oC P w K mg base A T O
 have me:=@Bs P w K mg base A T O
 refine O.z8.f.sM A1 fun jw A0 outer s H vs Q E hr h=>?_
 obtain⟨d,D,W,st,y,ot,rfl,X,I,kq,DI,L4,hfo,q1,q2,q3,q4,q5⟩:=h
 obtain⟨π,x⟩:=id X
 refine⟨_,(de (ip (E1 bx (pv 0) O.ix O.jP iT hr (a_ (pv 1) e_)))
   (de (ip (E1 bx (pv 0) O.ix O.lD jR hr (a_ (pv 2) (a_ (iX e_) e_))))
   (de (ip (E1 bx (pv 0) O.ix O.qy uL hr (a_ (pv 1) (a_ (pv 3) e_))))
   (fV (ip (HK (pv 0) O.ix O.rN me hr (a_ (pv 1) (a_ (tO O.A_ jQ (hr.mono (by decide)) (by rfl) O.Ba O.lB.b .nil qj (a_ (pv 2) (a_ k9 (a_ (iX e_) (a_ (iX e_) (a_ (pv 3) e_)))))) e_)))))))),?_⟩
 refine MN ?_;intro _ _ _
 refine⟨_,rfl,d,π.dx,_,rfl,x.hd,lE,_,rfl,d,D,W,st,rfl,X,DI,fun hs=>?_,fun hs=>q1 hs⟩
 refine⟨_,rfl,d,π.dx,_,rfl,x.hd,p3,_,rfl,L2.kq,fun l hl=>?_⟩
 have s1:gc H (upd H l (.lst [])):=(gc.refl H).new hl
 refine⟨d,l,D,W,y,[],rfl,X.same s1,b_,by show 0≤1000;decide,fun z hz=>by rw[TN.mp hz];exact L4,fun h H' s'=>q2 hs (fun g=>h (yD.mpr g)) H' (s1.trans s'),fun h hn H' s'=>q3 hs (yD.mp h) hn H' (s1.trans s'),fun h hn H2 s2=>?_⟩
 have gy:=yD.mp h
 have DJ:=s1.trans s2
 refine⟨_,rfl,d,π.dx,_,rfl,DJ _ _ x.hd,zo,_,rfl,_,rfl,d,D,W,st,ot,rfl,X.same DJ,DI,hfo,hs,fun ho=>?_,fun ho=>q4 hs gy hn ho _ DJ⟩
 refine⟨_,rfl,d,π.dx,_,rfl,DJ _ _ x.hd,Bp,_,rfl,_,rfl,L2.kq,fun a ha=>⟨L2.kq,fun b hb=>⟨_,rfl,?_⟩⟩⟩
 have s3:=DJ.new (o:=.lst []) ha
 have s4:=s3.new (o:=.lst []) hb
 intro o dx no Og Vl
 refine⟨o,dx,_,_,_,_,_,rfl,b_,fun H5 r6 r7=>⟨rfl,?_⟩⟩
 have s5:gc (upd (upd H2 a (.lst [])) b (.lst [])) H5:=fun c u ec=>by
  rw[r6 c (f_ ec no),d_ (f_ ec no),d_ (f_ ec Og)]
  exact ec
 have XY:=s4.trans s5
 have pt:nN A H5 o ⟨y,none,[],[],some ot⟩:=⟨dx,_,a,b,.str ot,r7,rfl,⟨[],s5 _ _ (il hb b_),.nil⟩,⟨[],s5 _ _ b_,.nil⟩,rfl⟩
 refine⟨d,o,D,W,st,_,rfl,X.same XY,I,kq,hs,pt,hn,aaE _,aaE _,fun z hz=>?_,fun H7 X7 s7=>?_⟩
 ·have:z=ot:=by simpa[iu,named] using hz
  rw[this];exact(I.ni st hs ot ho).1
 ·exact q5 hs gy hn ho H7 X7 fun b o e n=>s7 b o (XY _ _ e) n
def Qk(A:Ad):Sp:=fun vs H Q E=>∃(d t:Addr)(D:Dk)(W:Addr→Prop)(s x f:Str)(ps:List Int),vs=[.ref d,.str s,.str x,.str f,.ref t]∧iK A H d D W∧Inv D∧Small D.made∧mQ s∧mQ x∧mQ f∧H t=some (.lst (ps.map V.int))∧ps.length≤1000∧(∀p∈ps,p.natAbs.log2<1920)∧
 (s∉D.stores→E (.ref A.jo) none H)∧
 (s∈D.stores→¬(Good x∧Good f)→∀H',gc H H'→E (.ref A.jy) none H')∧
 (s∈D.stores→Good x→Good f→x∈D.names→∀H',gc H H'→E (.ref A.jl) none H')∧
 (s∈D.stores→Good x→Good f→x∉D.names→¬Jy (D.row s f).length 0 ps→∀H',gc H H'→E (.ref A.nI) none H')∧
 (s∈D.stores→Good x→Good f→x∉D.names→ps=[]→∀H',gc H H'→E (.ref A.sU) none H')∧
 (s∈D.stores→Good x→Good f→x∉D.names→Jy (D.row s f).length 0 ps→ps≠[]→∀H',iK A H' d (D.keep s ⟨x,some f,[],ps.filterMap fun p=>((D.row s f)[p.toNat]?).map (·.nm),none⟩) W→yA W H H'→Q .iP H')
theorem Bt{n:Int}:∀{l:Int} {ps:List Int},0≤l→Jy n l ps→∀p∈ps,0≤p∧p<n
 | _,[],_,_,p,hp=>by cases hp
 | l,q::r,h0,h,p,hp=>by
  obtain⟨⟨h1,h2⟩,h3⟩:=h
  rcases WK.mp hp with rfl|hp
  ·exact⟨by omega,h2⟩
  ·exact Bt (by omega) h3 p hp
theorem NC(T:Txt mg)(O:Ok K mg A):iz P w K mg base (tT P w) 6 A.yi A.yj ["self","store","patch","file","places"] (Qk A):=by
 have iT:=@lF P w K mg base A T O
 have jR:=@p5 P w K mg base A T O
 have j2:=@rF P w K mg base A T O
 have yL:=@w_ P w K mg base A T O
 have jQ:=@oC P w K mg base A T O
 have me:=@Bs P w K mg base A T O
 refine O.CO.f.sM qS fun jw A0 outer s H vs Q E hr h=>?_
 obtain⟨d,t,D,W,st,y,f,ps,rfl,X,I,sm,DI,L4,Oo,ht,GQ,Om,q1,q2,q3,q4,q5,q6⟩:=h
 obtain⟨π,x⟩:=id X
 have sz:sizeLine=16777216:=aaA
 have EA:(D.row st f).length≤4000:=aac (I.xo st f) sm.ik
 refine⟨_,(de (ip (E1 bx (pv 0) O.ix O.jP iT hr (a_ (pv 1) e_)))
   (de (ip (E1 bx (pv 0) O.ix O.lD jR hr (a_ (pv 2) (a_ (iX (a_ (pv 3) e_)) e_))))
   (de (kU (i:=5) qS.nd rfl (Or.inr rfl) (g_ (E1 bx (pv 0) O.ix O.l8 j2 hr (a_ (pv 1) (a_ (pv 3) e_))) rfl))
   (de (ip (TY bx O.uu yL hr (a_ (pv 4) (a_ (hE gg (by rfl) T.jG aas (a_ (pv 5) e_)) e_))))
   (de (iy (jr (tM (pv 4) (fun _=>rfl))) (fV (j_ bx O.Ia (by rfl) i7)) hV)
   (fV (ip (HK (pv 0) O.ix O.rN me hr (a_ (pv 1) (a_ (tO O.A_ jQ (hr.mono (by decide)) (by rfl) O.Ba O.lB.b .nil qj (a_ (pv 2) (a_ (pv 3) (a_ (iX e_) (a_ (sd x9 (fW pQ).names [6] rfl (iD (pv 4)) rfl (by decide+kernel) (fun _ _ _ _=>(iJ (i:=6) qS.nd rfl (Or.inl rfl))) (fun _ _ _ _=>mf) (fun _ _ _ _=>zV (g_ (rV (pv 5) (pv 6)) rfl))) (a_ k9 e_)))))) e_)))))))))),?_⟩
 refine RY ?_;intro _ _ _ _ _
 refine⟨_,rfl,d,π.dx,_,rfl,x.hd,lE,_,rfl,d,D,W,st,rfl,X,DI,fun hs=>?_,fun hs=>q1 hs⟩
 refine⟨_,rfl,d,π.dx,_,rfl,x.hd,p3,_,rfl,_,rfl,L2.kq,fun l hl=>?_⟩
 have s1:gc H (upd H l (.lst [V.str f])):=(gc.refl H).new hl
 refine⟨d,l,D,W,y,[f],rfl,X.same s1,b_,by show 1≤1000;decide,fun z hz=>?_,fun h H' s'=>q2 hs (fun g=>h (k8.mpr g)) H' (s1.trans s'),fun h hn H' s'=>q3 hs (k8.mp h).1 (k8.mp h).2 hn H' (s1.trans s'),fun h hn H2 s2=>?_⟩
 ·rcases WK.mp hz with z|z
  ·rw[z];exact L4
  ·rw[TN.mp z];exact Oo
 obtain⟨gy,gf⟩:=k8.mp h
 have DJ:=s1.trans s2
 have X2:=X.same DJ
 refine⟨_,rfl,d,π.dx,_,rfl,DJ _ _ x.hd,rE,_,rfl,_,rfl,d,D,W,st,f,rfl,X2,DI,sm,I,fun h=>absurd hs h,fun _ p H3 s3 Dl ⟨px,ah,ln,g1,g2,⟨as,g3,g4⟩⟩=>?_⟩
 have Lq:=DJ.trans s3
 have hlen:=aad g4
 have el:((as.map V.ref).length:Int)=((D.row st f).length:Int):=by rw[QR,hlen]
 refine⟨p,A.ig,px,_,_,rfl,g1,O.j7,O.iw,k7 ah ln,?_⟩
 refine⟨_,rfl,_,rfl,ln,_,rfl,.inl (ib.of g3),?_⟩
 rw[el]
 refine⟨t,ps,_,rfl,Lq _ _ ht,Om,fun ok=>?_,fun nok=>q4 hs gy gf hn nok _ Lq⟩
 by_cases SO:ps=[]
 ·refine⟨_,rfl,false,.inl ⟨_,ib.of (Lq _ _ ht),by rw[SO];rfl⟩,?_⟩
  exact q5 hs gy gf hn SO _ Lq
 ·refine⟨_,rfl,true,.inl ⟨_,ib.of (Lq _ _ ht),by simpa using SO⟩,?_⟩
  refine jC ?_
  refine⟨_,rfl,d,π.dx,_,rfl,Lq _ _ x.hd,Bp,_,rfl,_,rfl,_,rfl,L2.kq,fun a ha=>?_⟩
  have s4:=Lq.new (o:=.lst []) ha
  have SQ:gc H3 (upd H3 a (.lst [])):=(gc.refl H3).new ha
  have L5:(upd H3 a (.lst [])) a=some (.lst []):=b_
  generalize upd H3 a (.lst [])=H4 at s4 SQ L5
  let Jv:=fun(i:Nat) (ys:List V) (σ:St) (H5:Hp)=>∃(v6:Option V),σ=[rr d,rs st,rs y,rs f,rr t,rr ln,v6]∧H5=H4∧ys.length≤i∧Paired (j8 H3) ys ((ps.take i).filterMap fun p=>((D.row st f)[p.toNat]?).map (·.nm))
  refine⟨_,rfl,t,rfl,⟨_,ib.of (s4 _ _ ht)⟩,jU (K:=K) (a:=t) (xs:=ps.map V.int) (by rw[QR];omega) Jv
   ⟨none,rfl,rfl,TU _,.nil⟩ (by rintro _ _ _ _ _ ⟨_,_,e,e2,_⟩;rw[e];exact⟨ib.of (s4 _ _ ht),e2⟩) ?_ ?_⟩
  ·rintro i v ys σ H5 hx ⟨v6,rfl,rfl,e2,e3⟩
   rw[ZZ] at hx
   obtain⟨pl,nQ,rfl⟩:=Option.map_eq_some_iff.mp hx
   obtain⟨b1,b2⟩:=Bt (by decide) ok pl (UK nQ)
   have kr:pl.toNat<(D.row st f).length:=by omega
   have uJ:(D.row st f)[pl.toNat]?=some (D.row st f)[pl.toNat]:=QV kr
   obtain⟨b,hb,dx,vn,vu,vl,k1,⟨nt,rfl,k2⟩,k3,k4⟩:=yw g4 uJ
   refine⟨_,rfl,_,rfl,ln,_,_,_,rfl,rfl,ib.of (SQ _ _ g3),gr (j:=pl.toNat) (by omega) hb,b,A.hU,dx,_,_,rfl,SQ _ _ k1,O.iH,O.hZ,i4,?_⟩
   refine⟨_,rfl,rfl,M_,?_⟩
   rw[take_snoc nQ,abx,abd,uJ]
   exact ij e3 ⟨nt,rfl,k2⟩
  ·rintro ys σ H5 ⟨v6,rfl,rfl,e2,e3⟩ c hc
   rw[QR,aan] at e3
   have s5:=s4.new (o:=.lst ys) hc
   intro o dx no Og Vl
   refine⟨o,dx,_,_,_,_,_,rfl,b_,fun H6 r6 r7=>⟨rfl,?_⟩⟩
   have s6:gc (upd H5 c (.lst ys)) H6:=fun b u ec=>by
    rw[r6 b (f_ ec no),d_ (f_ ec no),d_ (f_ ec Og)]
    exact ec
   have RA:=s5.trans s6
   have s36:gc H3 H6:=(SQ.new hc).trans s6
   have pt:nN A H6 o ⟨y,some f,[],ps.filterMap fun p=>((D.row st f)[p.toNat]?).map (·.nm),none⟩:=⟨dx,_,a,c,.iP,r7,rfl,⟨[],s6 _ _ (il hc L5),.nil⟩,⟨ys,s6 _ _ b_,Paired.jK e3 fun _ _ z=>z.same s36⟩,rfl⟩
   have Fh:(ps.filterMap fun p=>((D.row st f)[p.toNat]?).map (·.nm)).length≤4000:=aac (List.length_filterMap_le _ _) (by omega)
   refine⟨d,o,D,W,st,_,rfl,X.same RA,I,sm.many,hs,pt,hn,aaE _,Fh,fun z hz=>?_,fun H7 X7 s7=>q6 hs gy gf hn ok SO H7 X7 fun b o e n=>s7 b o (RA _ _ e) n⟩
   unfold iu at hz
   rcases WL.mp hz with hz|hz
   ·obtain⟨m,hm,rfl⟩:=aaw.mp hz
    have hm:=(aaj.mp hm).1
    have hm:m∈(ps.filterMap fun p=>((D.row st f)[p.toNat]?).map (·.nm)):=by simpa[named] using hm
    obtain⟨pl,_,nQ⟩:=aby.mp hm
    obtain⟨l',uI,rfl⟩:=Option.map_eq_some_iff.mp nQ
    obtain⟨q,h1,_,h3⟩:=I.rM (UK uI)
    have hq:=(Inv.kP.mp h1).1
    rw[nj (I.DG q hq) (T1 h3)]
    exact T1 hq
   ·cases hz
noncomputable def cellAt(ns:List Int)(k:Int):Int:=(ns[k.toNat]?).getD 0
noncomputable def Bu(i:Int):Str:=⟨#[(lK.cps[(i%36).toNat]?).getD 0]⟩
noncomputable def kl(cell k:Int):Nat→Str
 | 0=>Str.ofString ""
 | j+1=>kl cell k j++(if(j:Int)=cell/12%(1+cell%12) then Bu (k+cell/144) else Bu (cell/144+5*(j:Int)+cell/5184%2*k*7))
noncomputable def nameOf(cell k:Int):Str:=kl cell k (1+cell%12).toNat
theorem Bv:lK.length=36:=by decide+kernel
theorem Iu:lK.cps.size=36:=Bv
theorem Bw(a b:Str):(a++b).cps.toList=a.cps.toList++b.cps.toList:=Array.toList_append
theorem E_(a b:Str):(a++b).length=a.length+b.length:=Array.size_append
theorem xt(i:Int):∃c,FD lK.cps.toList (i%36)=some c∧Bu i=⟨#[c]⟩∧c∈lK.cps.toList:=by
 have b:=mod_lt i 36 (by decide)
 obtain⟨c,e,ev⟩:=tU (xs:=lK.cps.toList) b.1 (by rw[abe,Iu];exact b.2)
 rw[aa5] at ev
 exact⟨c,e,by unfold Bu;rw[ev];rfl,UK (i:=(i%36).toNat) (by rw[aa5];exact ev)⟩
theorem xu(cell k:Int):∀j,(kl cell k j).length=j∧∀c∈(kl cell k j).cps.toList,c∈lK.cps.toList
 | 0=>⟨by unfold kl;decide+kernel,fun c hc=>by
   have:(kl cell k 0).cps.toList=[]:=by unfold kl;decide+kernel
   rw[this] at hc;cases hc⟩
 | j+1=>by
  have ⟨h1,h2⟩:=xu cell k j
  unfold kl
  obtain⟨c1,_,e1,m1⟩:=xt (k+cell/144)
  obtain⟨c2,_,e2,m2⟩:=xt (cell/144+5*(j:Int)+cell/5184%2*k*7)
  split
  ·rw[e1,E_,Bw]
   refine⟨by rw[h1];rfl,fun c hc=>?_⟩
   rcases WL.mp hc with hc|hc
   ·exact h2 c hc
   ·rw[TN.mp hc];exact m1
  ·rw[e2,E_,Bw]
   refine⟨by rw[h1];rfl,fun c hc=>?_⟩
   rcases WL.mp hc with hc|hc
   ·exact h2 c hc
   ·rw[TN.mp hc];exact m2
theorem mS(cell k:Int):Good (nameOf cell k):=by
 obtain⟨h1,h2⟩:=xu cell k (1+cell%12).toNat
 have b:=mod_lt cell 12 (by decide)
 exact⟨by unfold nameOf;rw[h1];omega,by unfold nameOf;rw[h1];omega,h2⟩
theorem K0{x:Str}(h:x.length≤1000)(hc:∀c∈x.cps.toList,c<1114112):mQ x:=by
 refine⟨?_,h⟩
 have z:=PySem.StrLaws.reprText_len x fun c Am=>Nat.lt_trans (hc c Am) (by decide)
 omega
theorem Iv:∀c∈lK.cps.toList,c<1114112:=by decide+kernel
theorem Good.uE{x:Str}(g:Good x):mQ x:=K0 (by have:=g.2.1;omega) fun c hc=>Iv c (g.2.2 c hc)
noncomputable def Fb(i:Int):Nat:=(lK.cps[(i%36).toNat]?).getD 0
theorem Gn{i j:Int}(h:Fb i=Fb j):i%36=j%36:=by
 have key:∀a<36,∀b<36,(lK.cps[a]?).getD 0=(lK.cps[b]?).getD 0→a=b:=by decide+kernel
 have b1:=mod_lt i 36 (by decide)
 have b2:=mod_lt j 36 (by decide)
 have:=key (i%36).toNat (by omega) (j%36).toNat (by omega) h
 omega
theorem By(cell k:Int):∀n j,j<n→(kl cell k n).cps.toList[j]?=some (if(j:Int)=cell/12%(1+cell%12) then Fb (k+cell/144) else Fb (cell/144+5*(j:Int)+cell/5184%2*k*7))
 | 0,j,h=>by omega
 | n+1,j,h=>by
  have hl:(kl cell k n).cps.toList.length=n:=by rw[abe];exact(xu cell k n).1
  rw[kl,Bw]
  by_cases e:j=n
  ·subst e
   rw[aa0 (by omega),hl,Nat.sub_self]
   split<;>rfl
  ·rw[abv (by omega)]
   exact By cell k n j (by omega)
theorem Iw{c i j:Int}(h0:0≤i)(h1:i<36)(h2:0≤j)(h3:j<36)(h:nameOf c i=nameOf c j):i=j:=by
 have b:=mod_lt c 12 (by decide)
 have b2:=mod_lt (c/12) (1+c%12) (by omega)
 have e1:=By c i (1+c%12).toNat (c/12%(1+c%12)).toNat (by omega)
 have e2:=By c j (1+c%12).toNat (c/12%(1+c%12)).toNat (by omega)
 have h:kl c i (1+c%12).toNat=kl c j (1+c%12).toNat:=h
 rw[h] at e1
 rw[e1] at e2
 rw[aak (by omega),aak (by omega)] at e2
 have:=Gn (aao e2)
 omega
def ND(K:Qqy):Sp:=fun vs H Q _=>∃(a:Addr)(ns:List Int)(k:Int),vs=[.ref a,.int k]∧ib K H a (ns.map V.int)∧0≤k∧Q (.int (cellAt ns k)) H
theorem K1(T:Txt mg)(O:Ok K mg A):iz P w K mg base mB 1 A.qX A.qY ["script","k"] (ND K):=by
 refine O.jH.f.qJ wW fun jw A outer s H vs Q E hr h=>?_
 obtain⟨a,ns,k,rfl,ha,h0,q⟩:=h
 refine⟨_,(de (iy (iq EO (pv 1) (hE gg (by rfl) T.jG aas (a_ (pv 0) e_)) (iS _)) (fV (h_ (rV (pv 0) (pv 1)))) hV)
   (fV (h_ fY))),?_⟩
 refine Kc ?_;intro _
 refine⟨_,rfl,_,rfl,a,_,rfl,.inl ha,_,_,rfl,rfl,_,rfl,?_⟩
 refine l_ (fun hc=>?_) (fun hc=>?_)
 ·have hc:k<((ns.map V.int).length:Int):=aau hc
  obtain⟨v,e,ev⟩:=tU h0 hc
  rw[ZZ] at ev
  cases en:ns[k.toNat]? with
  | none=>rw[en] at ev;cases ev
  | some z=>
   rw[en] at ev
   cases ev
   unfold cellAt at q
   rw[en] at q
   exact⟨_,rfl,_,rfl,a,_,_,_,rfl,rfl,ha,e,q⟩
 ·have hc:¬k<((ns.map V.int).length:Int):=by simpa using hc
  unfold cellAt at q
  rw[QR] at hc
  rw[List.getElem?_eq_none (by omega)] at q
  exact q
def NF:Sp:=fun vs H Q _=>∃(c k:Int),vs=[.int c,.int k]∧Q (.str (nameOf c k)) H
theorem K2(T:Txt mg)(O:Ok K mg A):iz P w K mg base mB 1 A.wu A.wx ["cell","k"] NF:=by
 refine O.rO.f.qJ jh fun jw A outer s H vs Q E hr h=>?_
 obtain⟨c,k,rfl,q⟩:=h
 refine⟨_,(de (l6 2 jh i7)
   (de (l6 3 jh (hX i8 fY (hX jT (pv 0) fY)))
   (de (l6 4 jh (hX lY (pv 0) fY))
   (de (l6 5 jh (hX Az (hX Az (hX jT (hX lY (pv 0) fY) fY) (pv 1)) fY))
   (de (l6 6 jh i7)
   (de (iQ aav rfl (j3 rfl T.kT (a_ (pv 3) e_)) (uN 7 jh) (fV (iy (iq qi (pv 7) (hX jT (hX lY (pv 0) fY) (pv 3)) (iS _)) (fV (l6 6 jh (hX xD (pv 6) (iC DU (pv 2) (hX jT (hX i8 (pv 1) (pv 4)) fY) (fun _ _=>rfl))))) (fV (l6 6 jh (hX xD (pv 6) (iC DU (pv 2) (hX jT (hX i8 (hX i8 (pv 4) (hX Az fY (pv 7))) (pv 5)) fY) (fun _ _=>rfl))))))))
   (fV (h_ (pv 6))))))))),?_⟩
 refine Z5 ?_;intro _ _ _ _ _ _
 have b:=mod_lt c 12 (by decide)
 have b2:=mod_lt (c/5184) 2 (by decide)
 refine⟨_,rfl,_,_,rfl,rfl,(by show(0:Int)<12;decide),_,_,rfl,rfl,?_⟩
 refine⟨_,rfl,_,_,rfl,rfl,⟨by decide,by decide⟩,?_⟩
 refine⟨_,rfl,_,_,rfl,rfl,⟨by decide,by decide⟩,_,_,rfl,rfl,(by show(0:Int)<2;decide),_,rfl,_,_,rfl,rfl,.inl ⟨by omega,by omega⟩,_,_,rfl,rfl,.inr ⟨by decide,by decide⟩,?_⟩
 refine⟨_,rfl,_,rfl,by omega,by omega,?_⟩
 let Jv:=fun(j:Nat) (σ:St) (H2:Hp)=>∃v,σ=[ri c,ri k,rs lK,ri (1+c%12),ri (c/144),ri (c/5184%2*k*7),rs (kl c k j),v]∧H2=H
 refine ku Jv ⟨none,rfl,rfl⟩ ?_ ?_
 ·rintro j σ H2 hj ⟨v,rfl,rfl⟩
  have hlen:=(xu c k j).1
  have hz:(kl c k j).length+1≤sizeLine:=aac (m:=13) (by omega) (by decide)
  refine⟨_,rfl,_,rfl,_,_,rfl,rfl,⟨by decide,by decide⟩,_,rfl,_,_,rfl,rfl,(by show(0:Int)<1+c%12;omega),rfl,_,rfl,?_⟩
  refine l_ (fun hc=>?_) (fun hc=>?_)
  ·have hc:(0:Int)+(j:Int)=c/12%(1+c%12):=V.int.inj (aau hc)
   obtain⟨cp,e,es,_⟩:=xt (k+c/144)
   refine⟨_,rfl,_,rfl,_,rfl,_,rfl,_,_,rfl,rfl,_,_,rfl,rfl,(by show(0:Int)<36;decide),_,_,cp,rfl,rfl,by rw[Bv];decide,e,_,_,rfl,rfl,hz,some (.int (0+(j:Int))),?_,rfl⟩
   rw[kl,aak (by omega),es]
   rfl
  ·have hc:¬(0:Int)+(j:Int)=c/12%(1+c%12):=fun z=>hc (UN (aaQ V.int z))
   obtain⟨cp,e,es,_⟩:=xt (c/144+5*(j:Int)+c/5184%2*k*7)
   refine⟨_,rfl,_,rfl,_,rfl,_,rfl,_,_,rfl,rfl,.inl ⟨by decide,by decide⟩,_,_,rfl,rfl,_,rfl,_,_,rfl,rfl,_,_,rfl,rfl,(by show(0:Int)<36;decide),_,_,cp,rfl,rfl,by rw[Bv];decide,by rw[Int.zero_add];exact e,_,_,rfl,rfl,hz,some (.int (0+(j:Int))),?_,rfl⟩
   rw[kl,aai (by omega),es]
   rfl
 ·rintro σ H2 ⟨v,rfl,rfl⟩
  refine⟨_,rfl,?_⟩
  have:(1+c%12-0).toNat=(1+c%12).toNat:=by rw[Int.sub_zero]
  exact q
noncomputable def vv:Str:=Str.ofString " !#$&()*+,-./0123456789:;<=>?@ABCDEFGHIJKLMNOPQRSTUVWXYZ[]^_abcdefghijklmnopqrstuvwxyz{|}~"
theorem rR:vv.length=90:=by decide+kernel
def NG:Sp:=fun vs H Q _=>∃(c:Int),vs=[.int c]∧∀x H',gc H H'→Q (.str x) H'
theorem C7:∀(xs:List Str),(∀x∈xs,x.length=1)→(xs.map (·.length)).sum=xs.length
 | [],_=>rfl
 | x::r,h=>by
  rw[aaq,List.sum_cons,h x aal,C7 r fun y hy=>h y (Z4 _ hy),WJ]
  omega
theorem K3(T:Txt mg)(O:Ok K mg A):iz P w K mg base mB 1 A.wy A.wz ["cell"] NG:=by
 refine O.vq.f.qJ lx fun jw A outer s H vs Q E hr h=>?_
 obtain⟨c,rfl,q⟩:=h
 refine⟨_,(de (kU (i:=1) lx.nd rfl (Or.inr rfl) i7)
   (de (iy (iq qi (hX jT (pv 0) fY) fY (iS _)) (fV (h_ (rV (iX (a_ i7 (a_ i7 (a_ i7 (a_ i7 e_))))) (hX jT (hX lY (pv 0) fY) fY)))) hV)
   (de (l6 2 lx (hX jT (hX lY (pv 0) fY) fY))
   (de (qH (iy (iq qi (hX jT (hX lY (pv 0) fY) fY) fY (iS _)) (fV (l6 2 lx fY)) hV))
   (fV (h_ (mW PySem.F.plainAttrs_str PySem.F.slot_str_join PySem.F.type_str_join J_ i7 (a_ (sd vX (fW n1).names [3] rfl (j3 rfl T.kT (a_ (pv 2) e_)) rfl (by decide+kernel) (fun _ _ _ _=>(iJ (i:=3) lx.nd rfl (Or.inl rfl))) (fun _ _ _ _=>mf) (fun _ _ _ _=>zV (iC DU (pv 1) (hX jT (hX i8 (hX lY (pv 0) fY) (hX Az fY (pv 3))) (hE tQ (by rfl) T.jG aas (a_ (pv 1) e_))) (fun _ _=>rfl)))) e_)))))))),?_⟩
 refine MO ?_;intro _ _ _ _
 refine⟨_,rfl,_,_,rfl,rfl,(by show(0:Int)<3;decide),rfl,_,rfl,?_⟩
 refine l_ (fun _=>?_) (fun _=>?_)
 ·refine⟨kq,fun l hl=>?_⟩
  refine⟨_,rfl,_,_,rfl,rfl,⟨by decide,by decide⟩,_,_,rfl,rfl,(by show(0:Int)<4;decide),?_⟩
  have b:=mod_lt (c/3) 4 (by decide)
  obtain⟨v,e,ev⟩:=tU (xs:=[V.str (Str.ofString "a"),V.str (Str.ofString "b"),V.str (Str.ofString ""),V.str (Str.ofString " ")]) b.1 (by simpa using b.2)
  refine⟨l,_,_,v,rfl,rfl,ib.of b_,e,?_⟩
  have hv:∃x,v=V.str x:=by
   have hm:=UK ev
   simp at hm
   rcases hm with rfl|rfl|rfl|rfl<;>exact⟨_,rfl⟩
  obtain⟨x,rfl⟩:=hv
  exact q x _ ((gc.refl H).new hl)
 ·refine⟨_,rfl,_,_,rfl,rfl,⟨by decide,by decide⟩,_,_,rfl,rfl,(by show(0:Int)<5;decide),?_⟩
  have b:=mod_lt (c/3) 5 (by decide)
  refine⟨fun σ H2=>∃(z:Int)(v:Option V),σ=[ri c,rs vv,ri z,v]∧H2=H∧0≤z∧z≤80,?_,?_⟩
  ·refine⟨_,rfl,_,_,rfl,rfl,⟨by decide,by decide⟩,_,_,rfl,rfl,(by show(0:Int)<9;decide),rfl,_,rfl,?_⟩
   refine l_ (fun _=>?_) (fun _=>?_)
   ·exact⟨80,_,rfl,rfl,by decide,by decide⟩
   ·exact⟨_,_,rfl,rfl,b.1,by omega⟩
  ·rintro σ H2 ⟨z,v,rfl,rfl,z0,z1⟩
   refine⟨rfl,_,rfl,_,rfl,by omega,by omega,?_⟩
   let Jv:=fun(m:Nat) (ys:List V) (σ:St) (H3:Hp)=>∃(v:Option V)(xs:List Str),σ=[ri c,rs vv,ri z,v]∧H3=H2∧ys=ia xs∧xs.length=m∧∀x∈xs,x.length=1
   refine xJ (by have:sizeLine=2 ^ 24:=rfl;omega) Jv
    ⟨none,[],rfl,rfl,rfl,rfl,fun x hx=>nomatch hx⟩ (by rintro _ _ _ _ ⟨_,xs,_,_,e,e2,_⟩;rw[e,QR];omega) ?_ ?_
   ·rintro m ys σ H3 hm ⟨v,xs,rfl,rfl,rfl,hx,h1⟩
    refine⟨_,rfl,_,rfl,_,_,rfl,rfl,⟨by decide,by decide⟩,_,rfl,_,_,rfl,rfl,.inl ⟨by decide,by decide⟩,_,_,rfl,rfl,_,rfl,_,rfl,by rw[rR];decide,_,_,rfl,rfl,(by show(0:Int)<(vv.length:Int);rw[rR];decide),?_⟩
    have b:=mod_lt (c/45+7*(0+(m:Int))) (vv.length:Int) (by rw[rR];decide)
    obtain⟨cp,e,_⟩:=tU (xs:=vv.cps.toList) b.1 (by rw[abe];exact b.2)
    refine⟨_,_,cp,rfl,rfl,by rw[rR];decide,e,?_⟩
    refine⟨_,xs++[⟨#[cp]⟩],rfl,rfl,ky _ _,by rw[TZ,hx];rfl,fun x RB=>?_⟩
    rcases WL.mp RB with RB|RB
    ·exact h1 x RB
    ·rw[TN.mp RB];rfl
   ·rintro ys σ H3 ⟨v,xs,rfl,rfl,rfl,hx,h1⟩ p hp
    refine⟨_,p,xs,rfl,rfl,ib.of b_,?_,?_⟩
    ·rw[C7 xs h1]
     have:(Str.ofString "").length=0:=by decide+kernel
     rw[this]
     omega
    ·exact q _ _ ((gc.refl H3).new hp)
theorem uF(l:List Str)(k:Nat):pA (ia l) none (some (k:Int))=ia (l.take k):=by
 unfold pA
 rw[HT.tP,HT.xj,Nat.sub_zero,List.drop_zero]
 unfold ia
 rw[QR,←List.map_take]
 congr 1
 by_cases h:k≤l.length
 ·rw[Nat.min_eq_left h]
 ·rw[Nat.min_eq_right (by omega),abq (TU _),abq (by omega)]
theorem C8(l:List Str)(k:Nat):pA (ia l) (some (k:Int)) none=ia (l.drop k):=by
 unfold pA
 rw[HT.tP,HT.xj,abq (by rw[abY];exact TU _)]
 unfold ia
 rw[QR,←List.map_drop]
 congr 1
 by_cases h:k≤l.length
 ·rw[Nat.min_eq_left h]
 ·rw[Nat.min_eq_right (by omega),ab2 (TU _),ab2 (by omega)]
theorem vw(l:List Str){z:Int}{k:Nat}(h:z=(k:Int)):pA (ia l) (some z) none=ia (l.drop k):=by rw[h,C8]
structure Ej(ts JJ:List Str):Prop where
 ne:ts≠JJ
 len:JJ.length≤ts.length+3
 near:JJ.length≤K01.lcs ts JJ+3
theorem yE{x y s:List Str}(h1:s.Sublist x)(h2:s.Sublist y):s.length≤K01.lcs x y:=(K01.jV x y).1 s h1 h2
theorem Bz{ts JJ:List Str}(h:ts.length≠JJ.length):ts≠JJ:=fun z=>h (aaQ List.length z)
theorem Gp(ts:List Str)(k:Nat)(x:Str):Ej ts (ts.take k++[x]++ts.drop k):=by
 have hl:(ts.take k++[x]++ts.drop k).length=ts.length+1:=by simp;omega
 have hs:ts.Sublist (ts.take k++[x]++ts.drop k):=by
  conv=>lhs;rw[←abM k ts]
  rw[aaL]
  exact(aaz _).append (aaX _ _)
 have:=yE (aaz ts) hs
 exact⟨Bz (by omega),by omega,by omega⟩
theorem Iy(ts:List Str)(k:Nat)(h:k<ts.length):Ej ts (ts.take k++ts.drop (k+1)):=by
 have hl:(ts.take k++ts.drop (k+1)).length=ts.length-1:=by simp;omega
 have hs:(ts.take k++ts.drop (k+1)).Sublist ts:=by
  conv=>rhs;rw[←abM k ts]
  refine(aaz _).append ?_
  rw[aaS h]
  exact abo _ _
 have:=yE hs (aaz _)
 exact⟨Bz (by omega),by omega,by omega⟩
theorem Ek(ts:List Str)(k:Nat)(x:Str)(h:k<ts.length)(hx:ts[k]≠x):Ej ts (ts.take k++[x]++ts.drop (k+1)):=by
 have hl:(ts.take k++[x]++ts.drop (k+1)).length=ts.length:=by simp;omega
 have hs:(ts.take k++ts.drop (k+1)).Sublist ts:=by
  conv=>rhs;rw[←abM k ts]
  refine(aaz _).append ?_
  rw[aaS h]
  exact abo _ _
 have Ao:(ts.take k++ts.drop (k+1)).Sublist (ts.take k++[x]++ts.drop (k+1)):=by
  rw[aaL]
  exact(aaz _).append (aaX _ _)
 have:=yE hs Ao
 have IP:(ts.take k++ts.drop (k+1)).length=ts.length-1:=by simp;omega
 refine⟨fun z=>hx ?_,by omega,by omega⟩
 have e:ts[k]?=(ts.take k++[x]++ts.drop (k+1))[k]?:=by rw[←z]
 rw[aaL,aa0 (by rw[aaG];omega),aaG,show k-min k ts.length=0 by omega,QV h] at e
 exact aao e
theorem El(ts:List Str)(k:Nat)(x y z:Str):Ej ts ([x]++(ts.take k++[y]++ts.drop k)++[z]):=by
 have hl:([x]++(ts.take k++[y]++ts.drop k)++[z]).length=ts.length+3:=by simp;omega
 have hs:ts.Sublist ([x]++(ts.take k++[y]++ts.drop k)++[z]):=by
  refine List.Sublist.trans ?_ (List.sublist_append_left _ _)
  refine List.Sublist.trans ?_ (aaX _ _)
  conv=>lhs;rw[←abM k ts]
  rw[aaL]
  exact(aaz _).append (aaX _ _)
 have:=yE (aaz ts) hs
 exact⟨Bz (by omega),by omega,by omega⟩
theorem Gq(ts:List Str)(k:Nat)(x y z:Str)(h:k+1<ts.length):Ej ts (ts.take k++[x,y,z]++ts.drop (k+2)):=by
 have hl:(ts.take k++[x,y,z]++ts.drop (k+2)).length=ts.length+1:=by simp;omega
 have hs:(ts.take k++ts.drop (k+2)).Sublist ts:=by
  conv=>rhs;rw[←abM k ts]
  refine(aaz _).append ?_
  exact K01.xU (by omega)
 have Ao:(ts.take k++ts.drop (k+2)).Sublist (ts.take k++[x,y,z]++ts.drop (k+2)):=by
  rw[aaL]
  exact(aaz _).append (aaX _ _)
 have:=yE hs Ao
 have IP:(ts.take k++ts.drop (k+2)).length=ts.length-2:=by simp;omega
 exact⟨Bz (by omega),by omega,by omega⟩
def NH:Sp:=fun vs H Q _=>∃(t:Addr)(ts:List Str)(c:Int),vs=[.ref t,.int c]∧H t=some (.lst (ia ts))∧ts.length≤900∧∀p H' JJ,gc H H'→H' p=some (.lst (ia JJ))→Ej ts JJ→Q (.ref p) H'
theorem K4(T:Txt mg)(O:Ok K mg A):iz P w K mg base mB 2 A.wA A.wB ["texts","cell"] NH:=by
 have wJ:=@K3 P w K mg base A T O
 refine O.z9.f.qJ jW fun jw A outer s H vs Q E hr h=>?_
 obtain⟨t,ts,c,rfl,ht,hl,q⟩:=h
 have sz:sizeLine=16777216:=aaA
 have et:((ia ts).length:Int)=(ts.length:Int):=by simp
 refine⟨_,(de (l6 2 jW (hX jT (hX lY (pv 1) fY) (hX i8 (hE gg (by rfl) T.jG aas (a_ (pv 0) e_)) fY)))
   (de (l6 3 jW (pk O.vq wJ hr (a_ (hX lY (pv 1) fY) e_)))
   (de (l6 4 jW (hX mX (hX mX (kI l4 (pv 0) lZ (l0 (pv 2))) (iX (a_ (pv 3) e_))) (kI l4 (pv 0) (l0 (pv 2)) lZ)))
   (de (l6 5 jW (hX jT (pv 1) fY))
   (de (qH (iy ((pw_and (iq qi (pv 5) fY (iS _)) (pw_and1 (iq G3 (hE gg (by rfl) T.jG aas (a_ (pv 0) e_)) fY (iS _)))).pt) (de (l6 6 jW (hX jT (pv 2) (hE gg (by rfl) T.jG aas (a_ (pv 0) e_))))
   (fV (h_ (hX mX (kI l4 (pv 0) lZ (l0 (pv 6))) (kI l4 (pv 0) (l0 (hX i8 (pv 6) fY)) lZ))))) hV))
   (de (qH (iy ((pw_and (iq qi (pv 5) fY (iS _)) (pw_and (iq EO (pv 2) (hE gg (by rfl) T.jG aas (a_ (pv 0) e_)) (iS _)) (pw_and1 (iq qD (rV (pv 0) (pv 2)) (pv 3) (iS _))))).pt) (fV (h_ (hX mX (hX mX (kI l4 (pv 0) lZ (l0 (pv 2))) (iX (a_ (pv 3) e_))) (kI l4 (pv 0) (l0 (hX i8 (pv 2) fY)) lZ)))) hV))
   (de (qH (iy (iq qi (pv 5) fY (iS _)) (fV (h_ (hX mX (hX mX (iX (a_ (pv 3) e_)) (pv 4)) (iX (a_ (pk O.vq wJ hr (a_ (hX lY (pv 1) fY) e_)) e_))))) hV))
   (de (qH (iy ((pw_and (iq qi (pv 5) fY (iS _)) (pw_and1 (iq EO (hX i8 (pv 2) fY) (hE gg (by rfl) T.jG aas (a_ (pv 0) e_)) (iS _)))).pt) (de (l6 7 jW (iX (a_ (rV (pv 0) (hX i8 (pv 2) fY)) (a_ (pv 3) (a_ (rV (pv 0) (pv 2)) e_)))))
   (fV (h_ (hX mX (hX mX (kI l4 (pv 0) lZ (l0 (pv 2))) (pv 7)) (kI l4 (pv 0) (l0 (hX i8 (pv 2) fY)) lZ))))) hV))
   (fV (h_ (pv 4))))))))))),?_⟩
 refine Z6 ?_;intro _ _ _ _ _ _ _ _
 refine⟨_,rfl,_,_,rfl,rfl,⟨by decide,by decide⟩,_,rfl,t,_,rfl,.inl (ib.of ht),_,_,rfl,rfl,_,_,rfl,rfl,(by rw[et];omega),?_⟩
 rw[et]
 have b:=mod_lt (c/5) ((ts.length:Int)+1) (by omega)
 obtain⟨k,hk⟩:∃k:Nat,c/5%((ts.length:Int)+1)=(k:Int):=⟨_,(abJ b.1).symm⟩
 dsimp only
 rw[hk]
 have OS:k≤ts.length:=by omega
 refine⟨_,rfl,_,_,rfl,rfl,⟨by decide,by decide⟩,c/30,rfl,fun x H1 s1=>?_⟩
 have Xl:=s1 _ _ ht
 refine⟨_,rfl,_,rfl,_,rfl,t,_,rfl,ib.of Xl,fun a ha=>?_⟩
 rw[uF]
 have s2:=s1.new (o:=.lst (ia (ts.take k))) ha
 have XZ:(upd H1 a (.lst (ia (ts.take k)))) a=some (.lst (ia (ts.take k))):=b_
 generalize upd H1 a (.lst (ia (ts.take k)))=H2 at s2 XZ
 refine⟨_,rfl,L2.kq,fun b0 L1=>?_⟩
 have s3:=s2.new (o:=.lst [V.str x]) L1
 refine⟨a,b0,_,_,rfl,rfl,il L1 XZ,b_,by simp;omega,fun d hd=>?_⟩
 have s4:=s3.new (o:=.lst (ia (ts.take k)++[V.str x])) hd
 have X0:(upd (upd H2 b0 (.lst [V.str x])) d (.lst (ia (ts.take k)++[V.str x]))) d=some (.lst (ia (ts.take k++[x]))):=by rw[b_,ky]
 generalize upd (upd H2 b0 (.lst [V.str x])) d (.lst (ia (ts.take k)++[V.str x]))=H4 at s4 X0
 refine⟨_,rfl,_,rfl,_,rfl,t,_,rfl,ib.of (s4 _ _ ht),fun e he=>?_⟩
 rw[C8]
 have s5:=s4.new (o:=.lst (ia (ts.drop k))) he
 refine⟨d,e,_,_,rfl,rfl,il he X0,b_,by simp;omega,fun m hm=>?_⟩
 have s6:=s5.new (o:=.lst (ia (ts.take k++[x])++ia (ts.drop k))) hm
 have VE:(upd (upd H4 e (.lst (ia (ts.drop k)))) m (.lst (ia (ts.take k++[x])++ia (ts.drop k)))) m=some (.lst (ia (ts.take k++[x]++ts.drop k))):=by rw[b_,oN]
 generalize upd (upd H4 e (.lst (ia (ts.drop k)))) m (.lst (ia (ts.take k++[x])++ia (ts.drop k)))=H6 at s6 VE
 have Lr:=s6 _ _ ht
 refine⟨_,rfl,_,_,rfl,rfl,(by show(0:Int)<5;decide),?_⟩
 refine⟨fun σ H7=>σ=[rr t,ri c,ri k,rs x,rr m,ri (c%5),none,none]∧H7=H6,?_,?_⟩
 ·refine⟨_,rfl,rfl,_,rfl,?_⟩
  refine l_ (fun _=>?_) (fun _=>jC ⟨rfl,rfl⟩)
  refine⟨_,rfl,t,_,rfl,.inl (ib.of Lr),_,_,rfl,rfl,_,rfl,?_⟩
  refine l_ (fun h1=>?_) (fun _=>⟨rfl,rfl⟩)
  have h1:0<ts.length:=by have:=aau h1;rw[et] at this;omega
  refine⟨_,rfl,_,rfl,t,_,rfl,.inl (ib.of Lr),_,_,rfl,rfl,(by rw[et];omega),?_⟩
  have b2:=mod_lt (k:Int) (ts.length:Int) (by omega)
  obtain⟨o,ho⟩:∃o:Nat,(k:Int)%(ts.length:Int)=(o:Int):=⟨_,(abJ b2.1).symm⟩
  rw[et]
  dsimp only
  rw[ho]
  refine⟨_,rfl,_,rfl,_,rfl,t,_,rfl,ib.of Lr,fun a ha=>?_⟩
  have s7:=s6.new (o:=.lst (pA (ia ts) none (some (o:Int)))) ha
  refine⟨_,rfl,_,rfl,_,_,rfl,rfl,_,rfl,t,_,rfl,ib.of (s7 _ _ ht),fun e he=>?_⟩
  have s8:=s7.new (o:=.lst (pA (ia ts) (some ((o:Int)+1)) none)) he
  refine⟨a,e,ia (ts.take o),ia (ts.drop (o+1)),rfl,rfl,il he (by rw[b_,uF]),by rw[b_,vw ts (k:=o+1) (by omega)],by simp;omega,fun p hp=>?_⟩
  refine q p _ _ (s8.new hp) ?_ (Iy ts o (by omega))
  rw[b_,oN]
 rintro σ H7 ⟨rfl,rfl⟩
 refine⟨fun σ H8=>σ=[rr t,ri c,ri k,rs x,rr m,ri (c%5),none,none]∧H8=H7,?_,?_⟩
 ·refine⟨_,rfl,rfl,_,rfl,?_⟩
  refine l_ (fun _=>?_) (fun _=>jC ⟨rfl,rfl⟩)
  refine⟨_,rfl,_,rfl,t,_,rfl,.inl (ib.of Lr),_,_,rfl,rfl,_,rfl,?_⟩
  refine l_ (fun h1=>?_) (fun _=>jC ⟨rfl,rfl⟩)
  have h1:k<ts.length:=by have:=aau h1;rw[et] at this;omega
  have hx:ts[k]?=some ts[k]:=QV h1
  refine⟨_,rfl,_,rfl,t,_,_,_,rfl,rfl,ib.of Lr,gr rfl (kO hx),_,rfl,rfl,_,rfl,?_⟩
  refine l_ (fun h2=>?_) (fun _=>⟨rfl,rfl⟩)
  have h2:ts[k]≠x:=fun z=>by rw[z] at h2;simp at h2
  refine⟨_,rfl,_,rfl,_,rfl,t,_,rfl,ib.of Lr,fun a ha=>?_⟩
  have s7:=s6.new (o:=.lst (pA (ia ts) none (some (k:Int)))) ha
  rw[uF] at s7 ⊢
  refine⟨_,rfl,L2.kq,fun b0 L1=>?_⟩
  have s8:=s7.new (o:=.lst [V.str x]) L1
  refine⟨a,b0,_,_,rfl,rfl,il L1 b_,b_,by simp;omega,fun d hd=>?_⟩
  have s9:=s8.new (o:=.lst (ia (ts.take k)++[V.str x])) hd
  refine⟨_,rfl,_,rfl,_,_,rfl,rfl,_,rfl,t,_,rfl,ib.of (s9 _ _ ht),fun e he=>?_⟩
  have Lp:=s9.new (o:=.lst (pA (ia ts) (some ((k:Int)+1)) none)) he
  refine⟨d,e,_,ia (ts.drop (k+1)),rfl,rfl,il he b_,by rw[b_,vw ts (k:=k+1) (by omega)],by simp;omega,fun p hp=>?_⟩
  refine q p _ _ (Lp.new hp) ?_ (Ek ts k x h1 h2)
  rw[b_,ky,oN]
 rintro σ H8 ⟨rfl,rfl⟩
 refine⟨fun σ H9=>σ=[rr t,ri c,ri k,rs x,rr m,ri (c%5),none,none]∧H9=H8,?_,?_⟩
 ·refine⟨_,rfl,rfl,_,rfl,?_⟩
  refine l_ (fun _=>?_) (fun _=>⟨rfl,rfl⟩)
  refine⟨_,rfl,L2.kq,fun a ha=>?_⟩
  have s7:=s6.new (o:=.lst [V.str x]) ha
  refine⟨_,rfl,a,m,_,_,rfl,rfl,b_,il ha VE,by simp;omega,fun b0 L1=>?_⟩
  have s8:=s7.new (o:=.lst ([V.str x]++ia (ts.take k++[x]++ts.drop k))) L1
  refine⟨_,rfl,_,_,rfl,rfl,⟨by decide,by decide⟩,c/60,rfl,fun y H9 s9=>⟨L2.kq,fun d hd=>?_⟩⟩
  have Lp:=(s8.trans s9).new (o:=.lst [V.str y]) hd
  refine⟨b0,d,_,_,rfl,rfl,il hd (s9 _ _ b_),b_,by simp;omega,fun p hp=>?_⟩
  refine q p _ _ (Lp.new hp) ?_ (El ts k x x y)
  rw[b_]
  simp[ia]
 rintro σ H9 ⟨rfl,rfl⟩
 refine⟨fun σ Jf=>σ=[rr t,ri c,ri k,rs x,rr m,ri (c%5),none,none]∧Jf=H9,?_,?_⟩
 ·refine⟨_,rfl,rfl,_,rfl,?_⟩
  refine l_ (fun _=>?_) (fun _=>jC ⟨rfl,rfl⟩)
  refine⟨_,rfl,_,_,rfl,rfl,_,rfl,t,_,rfl,.inl (ib.of Lr),_,_,rfl,rfl,_,rfl,?_⟩
  refine l_ (fun h1=>?_) (fun _=>⟨rfl,rfl⟩)
  have h1:k+1<ts.length:=by have:=aau h1;rw[et] at this;omega
  have hx:ts[k]?=some ts[k]:=QV (by omega)
  have hy:ts[k+1]?=some ts[k+1]:=QV h1
  refine⟨_,rfl,_,rfl,_,_,rfl,rfl,t,_,_,_,rfl,rfl,ib.of Lr,gr (j:=k+1) (by omega) (kO hy),_,rfl,_,rfl,_,rfl,t,_,_,_,rfl,rfl,ib.of Lr,gr rfl (kO hx),L2.kq,fun u hu=>?_⟩
  have s7:=s6.new (o:=.lst [V.str ts[k+1],V.str x,V.str ts[k]]) hu
  have X3:(upd H9 u (.lst [V.str ts[k+1],V.str x,V.str ts[k]])) u=some (.lst (ia [ts[k+1],x,ts[k]])):=b_
  generalize upd H9 u (.lst [V.str ts[k+1],V.str x,V.str ts[k]])=OZ at s7 X3
  refine⟨_,rfl,_,rfl,_,rfl,t,_,rfl,ib.of (s7 _ _ ht),fun a ha=>?_⟩
  rw[uF]
  have s8:=s7.new (o:=.lst (ia (ts.take k))) ha
  refine⟨_,rfl,a,u,_,_,rfl,rfl,b_,il ha X3,by simp;omega,fun d hd=>?_⟩
  have s9:=s8.new (o:=.lst (ia (ts.take k)++ia [ts[k+1],x,ts[k]])) hd
  refine⟨_,rfl,_,rfl,_,_,rfl,rfl,_,rfl,t,_,rfl,ib.of (s9 _ _ ht),fun e he=>?_⟩
  have Lp:=s9.new (o:=.lst (pA (ia ts) (some ((k:Int)+2)) none)) he
  refine⟨d,e,_,ia (ts.drop (k+2)),rfl,rfl,il he b_,by rw[b_,vw ts (k:=k+2) (by omega)],by simp;omega,fun p hp=>?_⟩
  refine q p _ _ (Lp.new hp) ?_ (Gq ts k ts[k+1] x ts[k] h1)
  rw[b_,oN,oN]
 rintro σ Jf ⟨rfl,rfl⟩
 exact⟨_,rfl,q m _ _ s6 VE (Gp ts k x)⟩
structure Sz(k:Nat)(D:Dk):Prop where
 many:D.made.length≤k
 ik:(D.made.flatMap (·.ik)).length≤3*k
 iV:(D.made.flatMap (·.iV)).length≤3*(k*k)
theorem Fc(k:Nat):(k+1)*(k+1)=k*k+2*k+1:=by simp only [Nat.mul_add,Nat.add_mul];omega
theorem Sz.up{k:Nat}{D:Dk}(z:Sz k D):Sz (k+1) D:=⟨Nat.le_succ_of_le z.many,by have:=z.ik;omega,by have:=z.iV;have:=Fc k;omega⟩
theorem Sz.keep{k:Nat}{D:Dk}(z:Sz k D)(s:Str){p:Pt}(hp:p.ik.length≤3)(hc:p.iV.length≤3*k+3):Sz (k+1) (D.keep s p):=by
 refine⟨?_,?_,?_⟩
 ·show(D.made++[p]).length≤_
  rw[TZ];have:=z.many;show _+1≤_;omega
 ·show((D.made++[p]).flatMap (·.ik)).length≤_
  rw[aaM,TZ,aap,abc,aaF];have:=z.ik;omega
 ·show((D.made++[p]).flatMap (·.iV)).length≤_
  rw[aaM,TZ,aap,abc,aaF];have:=z.iV;have:=Fc k;omega
theorem Sz.small{k:Nat}{D:Dk}(z:Sz k D)(h:k≤36):Small D.made:=by
 have h2:k*k≤36*36:=Nat.mul_le_mul h h
 exact⟨aac z.many (by omega),aac z.ik (by omega),aac z.iV (by omega)⟩
theorem Sz.row{k:Nat}{D:Dk}(z:Sz k D)(I:Inv D)(s f:Str):(D.row s f).length≤3*k:=aac (I.xo s f) z.ik
theorem p7(D:Dk)(s:Str)(p:Pt):(D.keep s p).names=D.names++[p.nm]:=by
 show(D.made++[p]).map (·.nm)=_
 rw[aam];rfl
theorem Gr{x f:Str}{row:List Ln}{texts:List Str}(e:Ej (row.map (·.tx)) texts):(iG x f row texts).ik.length≤3:=by
 have rise:=oP (row.map (·.tx)) texts
 rw[QR] at rise
 have h:=E3 rise x
 rw[K01.vQ] at h
 have:=e.near
 show(j1 x texts _).length≤3
 omega
theorem uG{K:Qqy}{H H':Hp}{a:Addr}{xs:List V}(h:ib K H a xs)(s:gc H H'):ib K H' a xs:=by
 rcases h with(h|⟨u,h⟩)|h
 ·exact .inl (.inl (s _ _ h))
 ·exact .inl (.inr ⟨u,s _ _ h⟩)
 ·exact .inr h
noncomputable abbrev ko(ns:List Int)(i:Int):Int:=cellAt ns i%20736
noncomputable def OD(ns:List Int):List Str:=[nameOf (ko ns 0) 0,nameOf (ko ns 0) 1,nameOf (ko ns 0) 2]
noncomputable def Jx(ns:List Int):List Str:=[nameOf (ko ns 1) 0,nameOf (ko ns 1) 1]
end
inductive Dv where
 | o
 | s (x:Str)
 | i (n:Int)
 | l (xs:List Dv)
 | t (xs:List Dv)
inductive Rep(H:Hp):Nat→V→Dv→Prop
 | o {n}:Rep H n .iP .o
 | s {n x}:Rep H n (.str x) (.s x)
 | i {n x}:Rep H n (.int x) (.i x)
 | l {n a vs xs} (h:H a=some (.lst vs)) (hl:vs.length=xs.length) (hr:∀(j:Nat) u d,vs[j]?=some u→xs[j]?=some d→Rep H n u d):Rep H (n+1) (.ref a) (.l xs)
 | t {n a vs xs} (h:H a=some (.tup vs)) (hl:vs.length=xs.length) (hr:∀(j:Nat) u d,vs[j]?=some u→xs[j]?=some d→Rep H n u d):Rep H (n+1) (.ref a) (.t xs)
theorem Rep.same{H H':Hp}{n:Nat}{v:V}{d:Dv}(r:Rep H n v d)(s:gc H H'):Rep H' n v d:=by
 induction r with
 | o=>exact .o
 | s=>exact .s
 | i=>exact .i
 | l h hl _ ih=>exact .l (s _ _ h) hl ih
 | t h hl _ ih=>exact .t (s _ _ h) hl ih
theorem Rep.up{H:Hp}{n:Nat}{v:V}{d:Dv}(r:Rep H n v d):Rep H (n+1) v d:=by
 induction r with
 | o=>exact .o
 | s=>exact .s
 | i=>exact .i
 | l h hl _ ih=>exact .l h hl ih
 | t h hl _ ih=>exact .t h hl ih
theorem Rep.mono{H:Hp}{n m:Nat}{v:V}{d:Dv}(r:Rep H n v d)(h:n≤m):Rep H m v d:=by
 obtain⟨k,rfl⟩:=Nat.exists_eq_add_of_le h
 induction k with
 | zero=>exact r
 | succ k ih=>exact(ih (by omega)).up
theorem all_true(n:Nat):((List.range n).all fun _=>true)=true:=by rw[abB];intro x _;rfl
theorem Rep.eq{K:Qqy}{H:Hp}{n:Nat}{u v:V}{d:Dv}(r1:Rep H n u d):Rep H n v d→mJ K H n u v true:=by
 induction r1 generalizing v with
 | @o n=>
  intro r2
  cases r2
  exact mJ.flat (K:=K) (H:=H) (n:=n) (x:=V.iP) (y:=V.iP) rfl rfl
 | @s n x=>
  intro r2
  cases r2
  have:=mJ.AK (K:=K) (H:=H) (n:=n) x x
  rw[UN rfl] at this
  exact this
 | @i n x=>
  intro r2
  cases r2
  have:=mJ.Ho (K:=K) (H:=H) (n:=n) x x
  rw[UN rfl] at this
  exact this
 | @l n a vs xs h hl hr ih=>
  intro r2
  cases r2 with
  | @l _ c ws _ h' uI VF=>
   have:=mJ.lists (K:=K) (H:=H) (n:=n) (e:=fun _=>true) (ib.of h) (ib.of h') (hl.trans uI.symm) fun j u v hu hv=>by
    have hj:j<xs.length:=by rw[←hl];exact(List.getElem?_eq_some_iff.mp hu).1
    exact ih j u _ hu (QV hj) (VF j v _ hv (QV hj))
   rw[all_true] at this
   exact this
 | @t n a vs xs h hl hr ih=>
  intro r2
  cases r2 with
  | @t _ c ws _ h' uI VF=>
   have:=mJ.pw (K:=K) (H:=H) (n:=n) (e:=fun _=>true) (lJ.of h) (lJ.of h') fun j u v hu hv=>by
    have hj:j<xs.length:=by rw[←hl];exact(List.getElem?_eq_some_iff.mp hu).1
    exact ih j u _ hu (QV hj) (VF j v _ hv (QV hj))
   rw[all_true,hl,uI,beq_self_eq_true,Bool.and_true] at this
   exact this
theorem Rep.mT{H:Hp}{n:Nat}{a:Addr}{β:Type}{F:V→β→Prop}{g:β→Dv}{vs:List V}{xs:List β}(h:H a=some (.lst vs))(p:Paired F vs xs)(hF:∀v x,F v x→Rep H n v (g x)):Rep H (n+1) (.ref a) (.l (xs.map g)):=by
 refine .l h (by rw[QR];exact aad p) fun j u d hu hd=>?_
 obtain⟨x,hx,f⟩:=ie p hu
 rw[ZZ,hx] at hd
 cases hd
 exact hF u x f
noncomputable def Ql(row:List Ln):Dv:=.l (row.map fun l=>.t [.s l.nm.1,.i l.nm.2,.s l.tx])
theorem om.rep{H:Hp}{a:Addr}{row:List Ln}(x:om H a row):Rep H 2 (.ref a) (Ql row):=by
 obtain⟨vs,h,p⟩:=x
 refine Rep.mT h p fun v l ⟨t,e,ht⟩=>?_
 subst e
 refine .t ht rfl fun j u d hu hd=>?_
 match j with
 | 0=>cases hu;cases hd;exact .s
 | 1=>cases hu;cases hd;exact .i
 | 2=>cases hu;cases hd;exact .s
 | j+3=>simp at hu
end PK
namespace L2
open PySem PySem.Spec PyProof.Rows
noncomputable def eV:Value→V
 | .bool b=>.bl b
 | .int i _=>.int i
 | .str z _=>.str z
 | .bytes b _=>.B5 b
 | .float b _=>.Jt b
 | .ref a=>.ref a
 | .type n=>.ty n
 | _=>.iP
theorem LK{y:V}{u:Value}(r:RelV y u):eV u=y:=by
 cases y with
 | iP=>cases r;rfl
 | bl b=>cases r;rfl
 | int i=>obtain⟨t,rfl⟩:=r;rfl
 | str z=>obtain⟨t,rfl⟩:=r;rfl
 | B5 z=>obtain⟨t,rfl⟩:=r;rfl
 | Jt z=>obtain⟨t,rfl⟩:=r;rfl
 | ref a=>cases r;rfl
 | ty n=>cases r;rfl
theorem Em{g:V→Bool}:∀{xs:List V} {us:List Value},Vals xs us→us.any (fun u=>g (eV u))=xs.any g
 | _,_,.nil=>rfl
 | y::xs,u::us,.cons r t=>by rw[List.any_cons,List.any_cons,LK r,Em t]
section
variable{X:Cx}
def Qm(K:Qqy)(n:Nat)(neg:Bool):R2:=fun x y H Q=>∃p xs,∃g:V→Bool,y=.ref p∧ib K H p xs∧(∀z∈xs,mJ K H n z x (g z))∧Q (.bl (if neg then !xs.any g else xs.any g)) H
theorem Fd{c_:Qqz}{σ:St}{H:Hp}{s:Shared}{n:Nat}{xs:List V}{ic:List Value}{x:V}{v:Value}{g:V→Bool}(hu:X.A.units+n+1<cLine)(I:Inv X c_ σ H s)(r:Vals xs ic)(rx:RelV x v)(hg:∀z∈xs,mJ X.K H n z x (g z)):∀w∈ic.toArray,SeqAt.EqAt X.A.in1 s w v (g (eV w)):=fun w hw=>by
 have hw:w∈ic:=by simpa using hw
 obtain⟨j,hj,rfl⟩:=List.mem_iff_getElem.mp hw
 have hl:=r.length
 obtain⟨u,OY,ru⟩:=r.get (QV (i:=j) (by omega))
 rw[QV hj] at OY
 cases OY
 rw[LK ru]
 exact(hg _ (List.getElem_mem _)).at I X.A.in1 _ _ ru rx (by show X.A.units+1+n<cLine;omega)
theorem NI(n:Nat)(hu:X.A.units+n+1<cLine):wN X (compareOp .In) (Qm X.K n false):=by
 intro c_ s σ H x y v u Q I rx ry h
 obtain⟨p,xs,g,rfl,hq,hg,q⟩:=h
 cases ry
 obtain⟨ic,r,pl,hz⟩:=I.list hq
 refine SeqAt.in_listAt (fun w=>g (eV w)) pl.isList (Fd hu I r rx hg) ⟨.bl _,H,I,rfl,?_⟩
 rw[show ic.toArray.any (fun w=>g (eV w))=ic.any (fun w=>g (eV w)) by simp,Em r]
 exact q
theorem Ak(n:Nat)(hu:X.A.units+n+1<cLine):wN X (compareOp .NotIn) (Qm X.K n true):=by
 intro c_ s σ H x y v u Q I rx ry h
 obtain⟨p,xs,g,rfl,hq,hg,q⟩:=h
 cases ry
 obtain⟨ic,r,pl,hz⟩:=I.list hq
 refine SeqAt.notIn_listAt (fun w=>g (eV w)) pl.isList (Fd hu I r rx hg) ⟨.bl _,H,I,rfl,?_⟩
 rw[show ic.toArray.any (fun w=>g (eV w))=ic.any (fun w=>g (eV w)) by simp,Em r]
 exact q
end
theorem sE(a b:Int):Builtin.Range.rangeSize a b 2=(((b-a+1)/2).toNat:Int):=by
 unfold Builtin.Range.rangeSize
 simp only [show((2:Int)>0) by decide,if_true]
 split<;>omega
theorem Gs{a b:Int}(ha:-(2 ^ 61)≤a)(ha':a<2 ^ 61)(hb:-(2 ^ 61)≤b)(hb':b<2 ^ 61):Builtin.Range.small a b 2=true:=by
 unfold Builtin.Range.small
 rw[sE]
 simp only [Builtin.Range.rangeFitsLong,abb,ab7,abG,abR,show((2:Int)>0) by decide,if_true]
 omega
section
variable{X:Cx}{tg:Expr}
def NJ(ta:TA):TI:=fun σ H R=>ta σ H fun vs H1=>∃i j:Int,vs=[.int i,.int j,.int 2]∧(-(2 ^ 61)≤i∧i<2 ^ 61∧-(2 ^ 61)≤j∧j<2 ^ 61)∧R (MJ i 2 ((j-i+1)/2).toNat) H1
theorem En{a b c:Expr}{ta:TA}{p pos:Pos}(hg:Gl X "range")(hm:X.mg "range"=none)(ha:PA X [a,b,c] ta)(hs:starEach [a,b,c] X.env=[(false,eval a X.env),(false,eval b X.env),(false,eval c X.env)]:=by rfl)
  (Ao:starEach [b,c] X.env=[(false,eval b X.env),(false,eval c X.env)]:=by rfl):PI X tg (.Call (.Name "range" p) [a,b,c] [] pos) (NJ ta):=by
 intro c_ s σ H R I h
 refine Call_ (mV I hg hm boot_range (aaN (i6 (ha pos c_ s σ H _ I h) fun us s1 ⟨vs,H1,I1,r1,q1⟩=>?_) (by rw[hs,Ao]) (by rw[Ao];rfl)))
 obtain⟨i,j,e,⟨q1,q2,q3,q4⟩,q⟩:=q1
 subst e
 cases r1 with
 | cons r rr=>
  cases rr with
  | cons r' rr=>
   cases rr with
   | cons UA rr=>
    cases rr
    obtain⟨t,rfl⟩:=r
    obtain⟨t',rfl⟩:=r'
    obtain⟨R9,rfl⟩:=UA
    refine call_range_3 (by decide) ?_ (Or.inl (PyProof.noPylong_small (by decide)))
    refine wpAny_pyIter_range (IsRange.new ..) (Gs q1 q2 q3 q4) ?_
    generalize ho:({cls:=.type "range",data:=.fields #[.int i t,.int j t',.int 2 R9]}:Obj)=o
    have I2:Inv X c_ σ H1 {s1 with heap:=s1.heap.push o,toks:=s1.toks}:=I1.kept fun b o e=>WN _ e
    refine⟨(s1.heap.push o).objs.size,[(s1.heap.push o).objs.size],_,_,H1,rfl,I2.kept (t':=s1.toks) fun b o e=>WN _ e,vP _ i 2 ((j-i+1)/2).toNat,?_,fun b hb=>?_,q⟩
    ·show IsRangeIter _ _ (i+((0:Nat):Int)*2) (((((j-i+1)/2).toNat:Nat):Int)-((0:Nat):Int)) 2
     have e1:i+((0:Nat):Int)*2=i:=by simp
     have e2:((((j-i+1)/2).toNat:Nat):Int)-((0:Nat):Int)=Builtin.Range.rangeSize i j 2:=by rw[sE];simp
     rw[e1,e2]
     exact aat _ rfl
    ·have e:b=(s1.heap.push o).objs.size:=by simpa using hb
     subst e
     exact I2.wM (TU _) (I2.iM.fresh (TU _))
end
theorem Gu{lo st:Int}{n:Nat}{g:TG}{tt:TT}{te:TE}{Q:List V→Hp→Prop}{σ:St}{H:Hp}(hn:n≤sizeLine)(Pv:Nat→List V→St→Hp→Prop)(h0:Pv 0 [] σ H)(hlen:∀i ys σ H,Pv i ys σ H→ys.length≤i)
  (hs:∀i ys σ H,i<n→Pv i ys σ H→g (.int (lo+i*st)) σ H fun σ2 H2=>tt σ2 H2 fun b H3=>if b=true then te σ2 H3 fun v H4=>Pv (i+1) (ys++[v]) σ2 H4 else Pv (i+1) ys σ2 H3)
  (hd:∀ys σ H,Pv n ys σ H→Q ys H):D1 g tt te (MJ lo st n) Q σ H:=by
 refine⟨fun i m ys σ H=>m=n-i∧i≤n∧Pv i ys σ H,⟨n,by simp,aaE _,h0⟩,?_⟩
 rintro i m ys σ H ⟨rfl,hi,p⟩
 have hl:=hlen i ys σ H p
 by_cases kr:i<n
 ·refine .inr ⟨kr,by omega,Pv (i+1),fun NZ σ' H' p'=>⟨n-(i+1),by omega,rfl,kr,p'⟩,fun x H' y=>?_⟩
  obtain⟨e,y⟩:=y
  subst e y
  exact hs i ys σ _ kr p
 ·have e:i=n:=by omega
  subst e
  exact .inl ⟨TU _,by omega,hd ys σ H p⟩
end L2
namespace PM
open PySem (Str)
open Dk
theorem C9{D:Dk}{s:Str}{p:Pt}(hp:p.nm∉D.names):D.made.filter (fun q=>decide (q.nm∈(D.keep s p).held s))=D.ll s:=by
 unfold ll
 refine List.filter_congr fun q hq=>?_
 rw[decide_eq_decide]
 show q.nm∈(if s=s then D.held s++[p.nm] else D.held s)↔_
 rw[aak rfl,WL,TN]
 exact⟨fun z=>z.resolve_right fun e=>hp (e▸T1 hq),.inl⟩
theorem Iz{D:Dk}{s:Str}{p:Pt}(hp:p.nm∉D.names):(D.keep s p).ll s=D.ll s++[p]:=by
 rw[←C9 (s:=s) hp]
 unfold ll
 show(D.made++[p]).filter _=_
 rw[aaD]
 congr 1
 have:decide (p.nm∈(D.keep s p).held s)=true:=by
  rw[aa2]
  show p.nm∈(if s=s then D.held s++[p.nm] else D.held s)
  rw[aak rfl];simp
 rw[ace,aak this];rfl
theorem Gv{ps:List Pt}{p:Pt}(ho:p.other=none):live (ps++[p])=live ps++[p]:=by
 unfold live
 rw[List.reverse_append]
 show(mD (p::ps.reverse) []).reverse=_
 rw[show mD (p::ps.reverse) []=if p.nm∈([]:List Str) then mD ps.reverse [] else p::mD ps.reverse (match p.other with|some o=>o::[]|none=>[]) from rfl,aai (by simp),ho,acb]
theorem K5{D:Dk}(I:Inv D){p:Pt}(hp:p∈D.made){n:Nm}(hn:n∈p.iV):n.1∈D.names:=by
 have h1:n.1∈iu p:=aaf _ (T1 (aaj.mpr ⟨aaf _ hn,UN (I.HU p hp n hn)⟩))
 obtain⟨i,hi⟩:=aaH.mp hp
 have h2:=I.before i p hi n.1 ((I.need p hp n.1).mpr ⟨n.1,h1,.inl rfl⟩)
 obtain⟨q,hq,e⟩:=aaw.mp h2
 exact e▸T1 (List.mem_of_mem_take hq)
theorem Gw{lt:Nm→Nm→Prop}{rk:Nm→Nat}(hr:∀m n,lt m n→rk m<rk n){ls R:List Ln}(nd:(ls.map (·.nm)).Nodup)(hp:R.Perm ls)(hc:R.Pairwise fun a b=>lt a.nm b.nm):rowOf lt ls=R:=by
 have pm:=xX hr nd
 refine List.Perm.eq_of_pairwise (le:=fun a b=>lt a.nm b.nm) (fun a b _ _ h1 h2=>?_) ?_ hc (pm.trans hp.symm)
 ·have:=hr _ _ h1
  have:=hr _ _ h2
  omega
 ·have IY:(rowOf lt ls).Pairwise fun a b=>a.nm≠b.nm:=List.pairwise_map.mp ((pm.map _).nodup_iff.mpr nd)
  have tot:∀a∈R,∀b∈R,a.nm≠b.nm→lt a.nm b.nm∨lt b.nm a.nm:=fun a ha b hb ne=>by
   obtain⟨i,hi,rfl⟩:=List.mem_iff_getElem.mp ha
   obtain⟨j,hj,rfl⟩:=List.mem_iff_getElem.mp hb
   have hp:=aaY.mp hc
   rcases Nat.lt_trichotomy i j with z|z|z
   ·exact .inl (hp i j hi hj z)
   ·subst z;exact absurd rfl ne
   ·exact .inr (hp j i hj hi z)
  refine((AQ hr nd).and IY).imp_of_mem fun ha hb h=>?_
  exact(tot _ ((pm.trans hp.symm).subset ha) _ ((pm.trans hp.symm).subset hb) h.2).resolve_right h.1
open Classical in
theorem Eo{lt:Nm→Nm→Prop}{row:List Ln}(h:row.Pairwise fun a b=>lt a.nm b.nm):ke lt row=[]:=by
 unfold ke
 rw[List.flatMap_eq_nil_iff]
 intro i hi
 rw[List.map_eq_nil_iff,List.filter_eq_nil_iff]
 intro j hj z
 have z:¬ltAt lt row i j:=aau z
 apply z
 have hi:=abN.mp hi
 obtain⟨k,hk,e⟩:=List.mem_range'.mp hj
 have hj:j<row.length:=by omega
 exact⟨row[i],row[j],QV hi,QV hj,aaY.mp h i j hi hj (by omega)⟩
noncomputable def xa(row:List Ln):List (Nat×Nat)→Nat→Option Ln
 | [],_=>none
 | q::r,s=>if q.2=s then row[q.1]? else xa row r s
theorem Qn(row:List Ln)(qs:List (Nat×Nat)):lH row qs=fun s=>(xa row qs s).map (·.nm):=by
 funext s
 induction qs with
 | nil=>rfl
 | cons q r ih=>
  unfold lH xa
  split
  ·rfl
  ·exact ih
theorem yF{row:List Ln}{qs:List (Nat×Nat)}{s:Nat}{l:Ln}(h:xa row qs s=some l):∃q∈qs,q.2=s∧row[q.1]?=some l:=by
 induction qs with
 | nil=>cases h
 | cons q r ih=>
  unfold xa at h
  by_cases e:q.2=s
  ·rw[aak e] at h
   exact⟨q,aal,e,h⟩
  ·rw[aai e] at h
   obtain⟨q',hq,z⟩:=ih h
   exact⟨q',Z4 _ hq,z⟩
theorem LL{row:List Ln}{m:Nat}:∀{qs:List (Nat×Nat)},Cy row.length m qs→∀q∈qs,xa row qs q.2=row[q.1]?
 | [],_,q,hq=>by cases hq
 | q'::r,h,q,hq=>by
  have hr:Cy row.length m r:=⟨(List.pairwise_cons.mp h.1).2,fun x hx=>h.2 x (Z4 _ hx)⟩
  unfold xa
  rcases WK.mp hq with e|hq
  ·rw[e,aak rfl]
  ·have:=(List.pairwise_cons.mp h.1).1 q hq
   rw[aai (by omega)]
   exact LL hr q hq
section
variable(p:Str)(ln:Nat→Option Ln)
noncomputable def mg:Nat→Nat→Option Nm→List Str→List Ln
 | _,_,_,[]=>[]
 | i,j,u,t::r=>match ln i with
  | some l=>l::mg (i+1) j (some l.nm) r
  | none=>⟨(p,j),t,u,DE (fun s=>(ln s).map (·.nm)) r.length i⟩::mg (i+1) (j+1) (some (p,j)) r
noncomputable abbrev Jz(i j:Nat)(u:Option Nm)(r:List Str):List Ln:=pI p (fun s=>(ln s).map (·.nm)) i j u r
variable{p ln}
theorem oq{i j:Nat}{u:Option Nm}{t:Str}{r:List Str}{l:Ln}(h:ln i=some l):mg p ln i j u (t::r)=l::mg p ln (i+1) j (some l.nm) r∧Jz p ln i j u (t::r)=Jz p ln (i+1) j (some l.nm) r:=by
 constructor
 ·rw[mg,h]
 ·unfold Jz
  rw[pI]
  simp only [h,abI]
theorem ou{i j:Nat}{u:Option Nm}{t:Str}{r:List Str}(h:ln i=none):mg p ln i j u (t::r)=⟨(p,j),t,u,DE (fun s=>(ln s).map (·.nm)) r.length i⟩::mg p ln (i+1) (j+1) (some (p,j)) r∧Jz p ln i j u (t::r)=⟨(p,j),t,u,DE (fun s=>(ln s).map (·.nm)) r.length i⟩::Jz p ln (i+1) (j+1) (some (p,j)) r:=by
 constructor
 ·rw[mg,h]
 ·unfold Jz
  rw[pI]
  simp only [h,Option.map_none]
theorem IA:∀(r:List Str)(i j:Nat)(u:Option Nm),(∀k l,ln (i+k)=some l→k<r.length→r[k]?=some l.tx)→(mg p ln i j u r).map (·.tx)=r
 | [],_,_,_,_=>rfl
 | t::r,i,j,u,h=>by
  have hr:∀k l,ln (i+1+k)=some l→k<r.length→r[k]?=some l.tx:=fun k l e hk=>by
   have:=h (k+1) l (by rw[←e];congr 1;omega) (by rw[WJ];omega)
   rwa [List.getElem?_cons_succ] at this
  cases e:ln i with
  | some l=>
   rw[(oq e).1,aaq,IA r (i+1) j _ hr]
   have:=h 0 l e (by rw[WJ];omega)
   rw[List.getElem?_cons_zero] at this
   rw[←aao this]
  | none=>rw[(ou e).1,aaq,IA r (i+1) (j+1) _ hr]
theorem yG{l:Ln}:∀(r:List Str)(i j:Nat)(u:Option Nm),l∈mg p ln i j u r↔(∃k,k<r.length∧ln (i+k)=some l)∨l∈Jz p ln i j u r
 | [],_,_,_=>⟨fun h=>(by cases h),fun h=>h.elim (fun⟨k,hk,_⟩=>absurd hk (Nat.not_lt_zero _)) fun h=>(by cases h)⟩
 | t::r,i,j,u=>by
  have sh:(∃k,k<(t::r).length∧ln (i+k)=some l)↔ln i=some l∨∃k,k<r.length∧ln (i+1+k)=some l:=by
   constructor
   ·rintro⟨k,hk,e⟩
    cases k with
    | zero=>exact .inl e
    | succ k=>exact .inr ⟨k,by rw[WJ] at hk;omega,by rw[←e];congr 1;omega⟩
   ·rintro(e|⟨k,hk,e⟩)
    ·exact⟨0,by rw[WJ];omega,e⟩
    ·exact⟨k+1,by rw[WJ];omega,by rw[←e];congr 1;omega⟩
  rw[sh]
  cases e:ln i with
  | some l'=>
   rw[(oq e).1,(oq e).2,WK,yG r (i+1) j,Option.some_inj,or_assoc]
   exact⟨fun h=>h.imp (fun z=>z.symm) id,fun h=>h.imp (fun z=>z.symm) id⟩
  | none=>
   rw[(ou e).1,(ou e).2,WK,WK,yG r (i+1) (j+1)]
   exact⟨fun h=>h.elim (fun z=>.inr (.inl z)) fun z=>z.elim (fun z=>.inl (.inr z)) fun z=>.inr (.inr z),fun h=>h.elim (fun z=>z.elim (fun z=>(by cases z)) fun z=>.inr (.inl z)) fun z=>z.elim .inl fun z=>.inr (.inr z)⟩
theorem yH{LN:List Ln}(hk:∀s t a b,ln s=some a→ln t=some b→s<t→Ah LN a.nm b.nm):∀(r:List Str)(i j:Nat)(u:Option Nm),(∀l∈Jz p ln i j u r,l∈LN)→
  (∀m,u=some m→(∃s l,s<i∧ln s=some l∧l.nm=m)∨∃l'∈LN,l'.nm=m∧∀b,ln i=some b→r≠[]→l'.lo=some b.nm)→
  (∀l∈mg p ln i j u r,∀m,u=some m→Ah LN m l.nm)∧(mg p ln i j u r).Pairwise fun a b=>Ah LN a.nm b.nm
 | [],_,_,_,_,_=>⟨fun l hl=>(by cases hl),List.Pairwise.nil⟩
 | t::r,i,j,u,hl,hu=>by
  cases e:ln i with
  | some l=>
   rw[(oq e).2] at hl
   rw[(oq e).1]
   have hd:∀m,u=some m→Ah LN m l.nm:=fun m hm=>by
    rcases hu m hm with⟨s,l',hs,h1,rfl⟩|⟨l',h1,rfl,h2⟩
    ·exact hk s i l' l h1 e hs
    ·exact .one ⟨l',h1,.inr ⟨rfl,h2 l e (by simp)⟩⟩
   obtain⟨h1,h2⟩:=yH hk r (i+1) j (some l.nm) hl fun m hm=>.inl ⟨i,l,by omega,e,aao hm⟩
   refine⟨fun o ho m hm=>?_,List.Pairwise.cons (fun o ho=>h1 o ho _ rfl) h2⟩
   rcases WK.mp ho with rfl|ho
   ·exact hd m hm
   ·exact(hd m hm).trans (h1 o ho _ rfl)
  | none=>
   rw[(ou e).2] at hl
   rw[(ou e).1]
   have hn:=hl _ aal
   have hd:∀m,u=some m→Ah LN m (p,j):=fun m hm=>.one ⟨_,hn,.inl ⟨rfl,hm⟩⟩
   obtain⟨h1,h2⟩:=yH hk r (i+1) (j+1) (some (p,j)) (fun o ho=>hl o (Z4 _ ho)) fun m hm=>.inr ⟨_,hn,aao hm,fun b hb hr=>by
    show DE _ r.length i=some b.nm
    cases r with
    | nil=>exact absurd rfl hr
    | cons t' r'=>
     rw[WJ,DE]
     simp only [hb,abI]⟩
   refine⟨fun o ho m hm=>?_,List.Pairwise.cons (fun o ho=>h1 o ho _ rfl) h2⟩
   rcases WK.mp ho with rfl|ho
   ·exact hd m hm
   ·exact(hd m hm).trans (h1 o ho _ rfl)
noncomputable def pg(old:Ln→Bool):Option Nm→List Ln→List (Str×Option Nm×Option Nm)
 | _,[]=>[]
 | u,l::r=>if old l then pg old (some l.nm) r else(l.tx,u,((l::r).find? old).map (·.nm))::pg old (some l.nm) r
theorem C_{old:Ln→Bool}(ho:∀s l,ln s=some l→old l=true)(hn:∀l,l.nm.1=p→old l=false):∀(r:List Str)(i j:Nat)(u:Option Nm),DE (fun s=>(ln s).map (·.nm)) r.length i=((mg p ln (i+1) j u r).find? old).map (·.nm)
 | [],_,_,_=>rfl
 | t::r,i,j,u=>by
  rw[WJ,DE]
  cases e:ln (i+1) with
  | some l=>rw[(oq e).1,abw,ho _ l e];rfl
  | none=>
   rw[(ou e).1,abw,hn _ rfl]
   exact C_ ho hn r (i+1) (j+1) _
theorem BA{old:Ln→Bool}(ho:∀s l,ln s=some l→old l=true)(hn:∀l,l.nm.1=p→old l=false):∀(r:List Str)(i j:Nat)(u:Option Nm),(Jz p ln i j u r).map (fun l=>(l.tx,l.up,l.lo))=pg old u (mg p ln i j u r)
 | [],_,_,_=>rfl
 | t::r,i,j,u=>by
  cases e:ln i with
  | some l=>
   rw[(oq e).1,(oq e).2,pg,aak (ho _ l e)]
   exact BA ho hn r (i+1) j _
  | none=>
   rw[(ou e).1,(ou e).2,pg,hn _ rfl,aai (by simp),aaq,abw,hn _ rfl,BA ho hn r (i+1) (j+1),C_ ho hn r i (j+1) (some (p,j))]
end
noncomputable def tr(l:Ln):Str×Nat×Str:=(l.nm.1,l.nm.2,l.tx)
noncomputable def inR(row:List Ln)(l:Ln):Bool:=decide (tr l∈row.map tr)
theorem IB{a b:Ln}(h:tr a=tr b):a.nm=b.nm:=by
 unfold tr at h
 have h1:=aaQ Prod.fst h
 have h2:=aaQ (fun z=>z.2.1) h
 exact Prod.ext h1 h2
section
variable{D:Dk}{s f x:Str}
structure Ub(D D':Dk)(s f x:Str)(texts:List Str):Prop where
 tx:(D'.row s f).map (·.tx)=texts
 qu:D'.zb s f=[]
 ik:(iG x f (D.row s f) texts).ik.map (fun l=>(l.tx,l.up,l.lo))=pg (inR (D.row s f)) none (D'.row s f)
 iV:(iG x f (D.row s f) texts).iV=((D.row s f).filter fun l=>!inR (D'.row s f) l).map (·.nm)
theorem IC(I:Inv D)(hs:s∈D.stores)(fresh:x∉D.names)(hq:D.zb s f=[])(texts:List Str):Ub D (D.keep s (iG x f (D.row s f) texts)) s f x texts:=by
 have I2:=I.record hs fresh hq texts
 have rise:=oP ((D.row s f).map (·.tx)) texts
 rw[QR] at rise
 generalize eqs:K01.kept ((D.row s f).map (·.tx)) texts=qs at rise
 have rel:∀q∈qs,∃l,(D.row s f)[q.1]?=some l∧texts[q.2]?=some l.tx:=by
  have g:=K01.zX ((D.row s f).map (·.tx)) texts
  rw[eqs] at g
  have key:∀{i j qs},K01.Good ((D.row s f).map (·.tx)) texts i j qs→∀q∈qs,∃l,(D.row s f)[q.1]?=some l∧texts[q.2]?=some l.tx:=by
   intro i j qs g
   induction g with
   | nil=>intro q hq;cases hq
   | @cons i j p q r h1 h2 a e1 e2 h3 t ih=>
    intro z hz
    rcases WK.mp hz with rfl|hz
    ·rw[ZZ] at e1
     obtain⟨l,hl,e⟩:=Option.map_eq_some_iff.mp e1
     exact⟨l,hl,by rw[e];exact e2⟩
    ·exact ih z hz
  exact key g
 have rowL:∀l∈D.row s f,l∈g9 (D.ll s) f:=fun l hl=>(kB _ f).subset ((I.oQ s f).subset hl)
 have old:∀l∈D.row s f,l.nm.1≠x:=fun l hl e=>by
  obtain⟨p,hp,_,h3⟩:=I.rM hl
  exact fresh (by rw[←e,nj (I.DG p (aaj.mp hp).1) (T1 h3)];exact T1 (aaj.mp hp).1)
 generalize ep:iG x f (D.row s f) texts=p at I2
 have Fl:p.nm=x:=by rw[←ep];rfl
 have Fm:p.ik=Jz x (xa (D.row s f) qs) 0 0 none texts:=by
  rw[←ep]
  show j1 x texts (lH (D.row s f) (K01.kept ((D.row s f).map (·.tx)) texts))=_
  rw[eqs,Qn];rfl
 have Fn:p.iV=((D.row s f).filter fun l=>l.nm∉mj (D.row s f) qs).map (·.nm):=by
  rw[←ep,←eqs];rfl
 have Jh:p.file=some f:=by rw[←ep];rfl
 have JK:p.other=none:=by rw[←ep];rfl
 have Oq:∀l∈p.ik,l.nm.1=x:=fun l hl=>by
  have h:=I2.DG p (by show p∈D.made++[p];simp)
  rw[←Fl]
  exact nj h (T1 hl)
 have e2:(D.keep s p).ll s=D.ll s++[p]:=Iz (by rw[Fl];exact fresh)
 have lp:g9 (D.ll s++[p]) f=g9 (D.ll s) f++p.ik:=by
  unfold g9
  rw[aaD,aaM,ace,aak (by rw[aa2];exact Jh)]
  simp
 let R:=mg x (xa (D.row s f) qs) 0 0 none texts
 have VG:∀k l,xa (D.row s f) qs k=some l→l∈D.row s f:=fun k l h=>by
  obtain⟨q,_,_,h2⟩:=yF h
  exact UK h2
 have ch:R.Pairwise fun a b=>Ah (g9 (D.ll s) f++p.ik) a.nm b.nm:=by
  have c0:=Inv.chain hq
  refine(yH (LN:=g9 (D.ll s) f++p.ik) (fun a b l l' h1 h2 Ez=>?_) texts 0 0 none (fun l hl=>aay _ (by rw[Fm];exact hl)) (fun m h=>by cases h)).2
  obtain⟨q1,m1,e1,r1⟩:=yF h1
  obtain⟨q2,m2,e2,r2⟩:=yF h2
  have kr:q1.1<q2.1:=by
   obtain⟨i,hi,ei⟩:=List.mem_iff_getElem.mp m1
   obtain⟨j,hj,ej⟩:=List.mem_iff_getElem.mp m2
   have hp:=aaY.mp rise.1
   rcases Nat.lt_trichotomy i j with z|z|z
   ·have:=hp i j hi hj z;rw[ei,ej] at this;exact this.1
   ·subst z;rw[ei] at ej;subst ej;omega
   ·have:=hp j i hj hi z;rw[ei,ej] at this;omega
  obtain⟨g1,w1⟩:=List.getElem?_eq_some_iff.mp r1
  obtain⟨g2,w2⟩:=List.getElem?_eq_some_iff.mp r2
  have:=aaY.mp c0 _ _ g1 g2 kr
  rw[w1,w2] at this
  exact this.mono fun l hl=>aaf _ hl
 have left:∀l∈D.row s f,l.nm∈mj (D.row s f) qs↔∃k,k<texts.length∧xa (D.row s f) qs (0+k)=some l:=fun l hl=>by
  have nd:((D.row s f).map (·.nm)).Nodup:=((I.oQ s f).map _).nodup_iff.mpr (I.Ed s f)
  constructor
  ·intro h
   obtain⟨q,hq,e⟩:=aby.mp h
   obtain⟨l',uI,e⟩:=Option.map_eq_some_iff.mp e
   have:l'=l:=by
    obtain⟨i,hi,ei⟩:=List.mem_iff_getElem.mp (UK uI)
    obtain⟨j,hj,ej⟩:=List.mem_iff_getElem.mp hl
    have:=(List.getElem_inj (i:=i) (j:=j) (h₀:=by rw[QR];exact hi) (h₁:=by rw[QR];exact hj) nd).mp (by rw[List.getElem_map,List.getElem_map,ei,ej];exact e)
    subst this
    rw[←ei,←ej]
   subst this
   exact⟨q.2,(rise.2 q hq).2,by rw[Nat.zero_add,LL rise q hq];exact uI⟩
  ·rintro⟨k,_,h⟩
   obtain⟨q,hq,_,h2⟩:=yF h
   exact aby.mpr ⟨q,hq,by rw[h2];rfl⟩
 have mem:∀l,l∈R↔l∈kJ (D.ll s++[p]) f:=fun l=>by
  show l∈mg x (xa (D.row s f) qs) 0 0 none texts↔_
  rw[yG]
  unfold kJ
  rw[Gv JK]
  have lpl:g9 (live (D.ll s)++[p]) f=g9 (live (D.ll s)) f++p.ik:=by
   unfold g9
   rw[aaD,aaM,ace,aak (by rw[aa2];exact Jh)]
   simp
  have gl:gone (live (D.ll s)++[p])=gone (live (D.ll s))++p.iV:=by
   unfold gone
   rw[aaM];simp
  rw[lpl,gl,aaj,WL,aa2,WL,←Fm]
  have Ji:∀l,l∈D.row s f↔l∈g9 (live (D.ll s)) f∧l.nm∉gone (live (D.ll s)):=fun l=>by
   rw[(I.oQ s f).mem_iff]
   unfold kJ
   rw[aaj,aa2]
  have Ls:∀m∈gone (live (D.ll s)),m.1≠x:=fun m hm e=>by
   obtain⟨q,hq,hn⟩:=aaZ.mp hm
   exact fresh (e▸K5 I (aaj.mp ((xW _).subset hq)).1 hn)
  have Ot:∀m∈p.iV,m.1≠x:=fun m hm=>by
   rw[Fn] at hm
   obtain⟨l,hl,rfl⟩:=aaw.mp hm
   exact old l (aaj.mp hl).1
  constructor
  ·rintro(⟨k,hk,e⟩|h)
   ·have hr:=VG _ l e
    refine⟨.inl ((Ji l).mp hr).1,fun z=>z.elim ((Ji l).mp hr).2 fun z=>?_⟩
    rw[Fn] at z
    obtain⟨l',uI,e'⟩:=aaw.mp z
    exact aau (aaj.mp uI).2 (by rw[e'];exact(left l hr).mpr ⟨k,hk,e⟩)
   ·exact⟨.inr h,fun z=>z.elim (fun z=>Ls _ z (Oq l h)) fun z=>Ot _ z (Oq l h)⟩
  ·rintro⟨h|h,z⟩
   ·have hr:=(Ji l).mpr ⟨h,fun w=>z (.inl w)⟩
    refine .inl ((left l hr).mp ?_)
    refine Classical.byContradiction fun w=>z (.inr ?_)
    rw[Fn]
    exact T1 (aaj.mpr ⟨hr,UN w⟩)
   ·exact .inr h
 obtain⟨rk,IX⟩:=I2.M3 s f
 rw[e2,lp] at IX
 have ndR:R.Nodup:=ch.imp fun h e=>by rw[e] at h;exact aba _ (IX.ah h)
 have N9:=I2.Ed s f
 rw[e2] at N9
 have er:(D.keep s p).row s f=R:=by
  unfold Dk.row
  rw[e2,lp]
  exact Gw (rk:=rk) (fun m n h=>IX.ah h) N9 ((List.perm_ext_iff_of_nodup ndR ((List.pairwise_map.mp N9).imp fun h e=>h (aaQ _ e))).mpr mem) ch
 have RC:∀l,l.nm.1=x→inR (D.row s f) l=false:=fun l e=>aab fun z=>by
  obtain⟨l',uI,e'⟩:=aaw.mp z
  exact old l' uI (by rw[IB e',e])
 refine⟨?_,?_,?_,?_⟩
 ·rw[er]
  refine IA texts 0 0 none fun k l e hk=>?_
  rw[Nat.zero_add] at e
  obtain⟨q,hq,rfl,h2⟩:=yF e
  obtain⟨l',h3,h4⟩:=rel q hq
  rw[h2] at h3
  rw[aao h3]
  exact h4
 ·unfold Dk.zb
  rw[er,e2,lp]
  exact Eo ch
 ·rw[er,ep,Fm]
  exact BA (fun k l e=>UN (T1 (VG k l e))) RC texts 0 0 none
 ·rw[er,ep,Fn]
  congr 1
  refine List.filter_congr fun l hl=>?_
  have:inR R l=decide (l.nm∈mj (D.row s f) qs):=by
   unfold inR
   rw[decide_eq_decide,left l hl]
   constructor
   ·intro z
    obtain⟨l',uI,e⟩:=aaw.mp z
    rcases(yG texts 0 0 none).mp uI with⟨k,hk,h⟩|h
    ·have hr:=VG _ l' h
     have:l'.nm∈mj (D.row s f) qs:=(left l' hr).mpr ⟨k,hk,h⟩
     rw[IB e] at this
     exact(left l hl).mp this
    ·rw[←Fm] at h
     exact absurd (by rw[←IB e];exact Oq l' h) (old l hl)
   ·rintro⟨k,hk,h⟩
    exact T1 ((yG texts 0 0 none).mpr (.inl ⟨k,hk,h⟩))
  rw[this]
  by_cases c:l.nm∈mj (D.row s f) qs
  ·simp[c]
  ·simp[c]
end
end PM
namespace PK
open PySem L2 PM
theorem Rep.Ep{H:Hp}{n:Nat}{v:V}{xs:List Dv}(r:Rep H n v (.l xs)):∃a vs m,v=.ref a∧H a=some (.lst vs)∧vs.length=xs.length∧∀(j:Nat) u d,vs[j]?=some u→xs[j]?=some d→Rep H m u d:=by
 cases r with
 | l h hl hr=>exact⟨_,_,_,rfl,h,hl,hr⟩
theorem Rep.ID{H:Hp}{n:Nat}{v:V}{xs:List Dv}(r:Rep H n v (.t xs)):∃a vs m,v=.ref a∧H a=some (.tup vs)∧vs.length=xs.length∧∀(j:Nat) u d,vs[j]?=some u→xs[j]?=some d→Rep H m u d:=by
 cases r with
 | t h hl hr=>exact⟨_,_,_,rfl,h,hl,hr⟩
theorem Rep.K6{H:Hp}{n:Nat}{v:V}{x:Str}(r:Rep H n v (.s x)):v=.str x:=by cases r;rfl
theorem Rep.Qo{H:Hp}{n:Nat}{v:V}{x:Int}(r:Rep H n v (.i x)):v=.int x:=by cases r;rfl
theorem Rep.Qp{H:Hp}{n:Nat}{v:V}{x z:Str}{k:Int}(r:Rep H n v (.t [.s x,.i k,.s z])):∃a,v=.ref a∧H a=some (.tup [.str x,.int k,.str z]):=by
 obtain⟨a,vs,m,e,h,hl,hr⟩:=r.ID
 match vs,hl,hr,h with
 | [u1,u2,u3],_,hr,h=>
  have e1:=(hr 0 u1 _ rfl rfl).K6
  have e2:=(hr 1 u2 _ rfl rfl).Qo
  have e3:=(hr 2 u3 _ rfl rfl).K6
  subst e1 e2 e3
  exact⟨a,e,h⟩
section
variable{P:Program}{w:World}{K:Qqy}{mg:Qqx}{base:Heap}{A:Ad}
theorem Er:W.kitOne K (.type "list") (.type "list")=some true:=aak (by decide)
theorem Es:W.kitOne K (.type "str") (.type "str")=some true:=aak (by decide)
theorem BB:W.kitOne K (.type "tuple") (.type "tuple")=some true:=aak (by decide)
theorem NK:W.kitOne K (.type "int") (.type "int")=some true:=aak (by decide)
theorem NL:W.kitOne K (.type "int") (.type "bool")=some false:=by kernel_rfl
def K7:Sp:=fun vs H Q _=>∃i:Int,vs=[.int i]∧Q (.bl true) H
theorem Dc(T:Txt mg)(O:Ok K mg A):iz P w K mg base mB 1 A.uk A.um ["found"] K7:=by
 refine O.sY.f.qJ ze fun jw A outer s H vs Q E hr h=>?_
 obtain⟨i,rfl,q⟩:=h
 refine⟨_,(fV (h_ (Mg (hE i5 (by rfl) T.iO aaC (a_ (pv 0) (a_ (kK (v:=.ty "int") (by rfl) T.PY PyProof.Rows.boot_int rfl) e_))) (Mf (Mh (hE i5 (by rfl) T.iO aaC (a_ (pv 0) (a_ (kK (v:=.ty "bool") (by rfl) T.M4 PyProof.Rows.boot_bool rfl) e_)))))))),?_⟩
 refine⟨_,rfl,_,_,_,_,rfl,.int i,NK,_,rfl,nM ?_⟩
 exact⟨_,rfl,_,_,_,_,rfl,.int i,NL,_,rfl,q⟩
def Gx:Sp:=fun vs H Q _=>∃(v:V)(n:Nat)(row:List Ln),vs=[v]∧Rep H n v (Ql row)∧Q (.bl true) H
theorem De(T:Txt mg)(O:Ok K mg A):iz P w K mg base mB 2 A.qt A.qv ["row"] Gx:=by
 have p_:=@Dc P w K mg base A T O
 refine O.sC.f.qJ oT fun jw A outer s H vs Q E hr h=>?_
 obtain⟨v,n,row,rfl,rp,q⟩:=h
 obtain⟨p,ps,m,rfl,hp,hl,hrp⟩:=rp.Ep
 refine⟨_,(de (iy (jr (jM (hE i5 (by rfl) T.iO aaC (a_ (pv 0) (a_ (kK (v:=.ty "list") (by rfl) T.sR abp rfl) e_))))) (fV (h_ jS)) hV)
   (de (iQ aav rfl (iD (pv 0)) (uN 1 oT) (de (iy ((pw_or (jr (jM (hE i5 (by rfl) T.iO aaC (a_ (pv 1) (a_ (kK (v:=.ty "tuple") (by rfl) T.xq abX rfl) e_))))) (pw_or (iq qD (hE gg (by rfl) T.jG aas (a_ (pv 1) e_)) fY (iS _)) (pw_or1 (jr (jM (hE i5 (by rfl) T.iO aaC (a_ (iC iF (pv 1) fY (fun _ _=>rfl)) (a_ (kK (v:=.ty "str") (by rfl) T.HW PyProof.Rows.boot_str rfl) e_)))))))).pt) (fV (h_ jS)) hV)
   (fV (iy ((pw_or (jr (jM (pk O.sY p_ hr (a_ (iC iF (pv 1) fY (fun _ _=>rfl)) e_)))) (pw_or1 (jr (jM (hE i5 (by rfl) T.iO aaC (a_ (iC iF (pv 1) fY (fun _ _=>rfl)) (a_ (kK (v:=.ty "str") (by rfl) T.HW PyProof.Rows.boot_str rfl) e_))))))).pt) (fV (h_ jS)) hV))))
   (fV (h_ jS)))),?_⟩
 refine DD ?_;intro _ _
 refine⟨_,rfl,_,_,_,_,rfl,.lst hp,Er,_,rfl,jC ?_⟩
 let Jv:=fun(i:Nat) (σ:St) (H2:Hp)=>∃v,σ=[rr p,v]∧H2=H
 refine⟨_,rfl,p,rfl,⟨_,ib.of hp⟩,jz (K:=K) (a:=p) (xs:=ps) Jv ⟨none,rfl,rfl⟩ (by rintro _ _ _ _ ⟨_,_,e⟩;rw[e];exact ib.of hp) ?_ ?_⟩
 ·rintro i y σ H2 hi ⟨v,rfl,rfl⟩
  have kr:=(List.getElem?_eq_some_iff.mp hi).1
  rw[hl,QR] at kr
  have vy:(row.map fun l=>Dv.t [.s l.nm.1,.i l.nm.2,.s l.tx])[i]?=some (.t [.s row[i].nm.1,.i row[i].nm.2,.s row[i].tx]):=by rw[ZZ,QV kr];rfl
  obtain⟨a,rfl,ha⟩:=(hrp i y _ hi vy).Qp
  refine⟨_,rfl,_,_,_,_,rfl,.tup ha,BB,_,rfl,jC ?_⟩
  refine⟨_,rfl,a,_,rfl,.inr (lJ.of ha),rfl,_,rfl,oM (by rfl) ?_⟩
  refine⟨_,rfl,a,_,_,_,rfl,rfl,lJ.of ha,gr (j:=0) rfl rfl,_,_,_,_,rfl,.str _,Es,_,rfl,jC ?_⟩
  refine⟨_,rfl,a,_,_,_,rfl,rfl,lJ.of ha,gr (j:=1) rfl rfl,_,rfl,_,rfl,jC ?_⟩
  refine⟨_,rfl,a,_,_,_,rfl,rfl,lJ.of ha,gr (j:=2) rfl rfl,_,_,_,_,rfl,.str _,Es,_,rfl,jC ?_⟩
  exact⟨_,rfl,rfl⟩
 ·rintro σ H2 ⟨v,rfl,rfl⟩
  exact q
noncomputable def Gy:Option Str→Dv
 | none=>.o
 | some x=>.s x
noncomputable def DH(n:Nm):Dv:=.t [.s n.1,.i n.2]
noncomputable def optN:Option Nm→Dv
 | none=>.o
 | some n=>DH n
noncomputable def putD(l:Ln):Dv:=.t [.s l.tx,optN l.up,optN l.lo]
noncomputable def WR(p:Pt):Dv:=.t [Gy p.file,.l (p.ik.map putD),.l (p.iV.map DH),Gy p.other]
theorem OI.rep{H:Hp}{n:Nat}{v:V}{o:Option Str}(h:OI v o):Rep H n v (Gy o):=by
 cases o with
 | none=>have h:v=.iP:=h;rw[h];exact .o
 | some x=>have h:v=.str x:=h;rw[h];exact .s
theorem j8.rep{H:Hp}{n:Nat}{v:V}{m:Nm}(h:j8 H v m):Rep H (n+1) v (DH m):=by
 obtain⟨t,rfl,ht⟩:=h
 refine .t ht rfl fun j u d hu hd=>?_
 match j with
 | 0=>cases hu;cases hd;exact .s
 | 1=>cases hu;cases hd;exact .i
 | j+2=>simp at hd
theorem CS.rep{H:Hp}{n:Nat}{v:V}{o:Option Nm}(h:CS H v o):Rep H (n+1) v (optN o):=by
 cases o with
 | none=>have h:v=.iP:=h;rw[h];exact .o
 | some x=>exact j8.rep h
def NM(A:Ad):Sp:=fun vs H Q E=>∃(d:Addr)(D:Dk)(W:Addr→Prop)(x:Str),vs=[.ref d,.str x]∧iK A H d D W∧mQ x∧Small D.made∧(x∉D.names→E (.ref A.kE) none H)∧∀pt∈D.made,pt.nm=x→∀p H' f o pu cu,gc H H'→H p=none→Rep H' 4 (.ref p) (WR pt)→H' p=some (.tup [f,.ref pu,.ref cu,o])→H pu=none→H cu=none→pu≠cu→Q (.ref p) H'
theorem K8(T:Txt mg)(O:Ok K mg A):iz P w K mg base (tT P w) 2 A.wj A.wk ["self","patch"] (NM A):=by
 have uM:=@zr P w K mg base A T O
 refine O.vp.f.sM mK fun jw A0 outer s H vs Q E hr h=>?_
 obtain⟨d,D,W,y,rfl,X,hf,sm,qe,q⟩:=h
 obtain⟨π,x⟩:=id X
 have sz:sizeLine=16777216:=aaA
 refine⟨_,(de (ip (E1 bx (pv 0) O.ix O.qx uM hr (a_ (pv 1) e_)))
   (de (l6 2 mK (B1 hr (g_ (pv 0) rfl) (pv 1)))
   (de (EW (j:=3) vV (fW nZ).names [4] mK.nd rfl rfl rfl (iD (g_ (pv 2) rfl)) rfl (by decide+kernel) (fun _ _ _ _=>(iJ (i:=4) mK.nd rfl (Or.inl rfl))) (fun _ _ _ _=>mf) (fun _ _ _ _=>zV (lL (a_ (g_ (pv 4) rfl) (a_ (g_ (pv 4) rfl) (a_ (g_ (pv 4) rfl) e_))))))
   (fV (h_ (lL (a_ (g_ (pv 2) rfl) (a_ (pv 3) (a_ (uT tR (by rfl) T.sR abp (a_ (g_ (pv 2) rfl) e_)) (a_ (g_ (pv 2) rfl) e_)))))))))),?_⟩
 refine MN ?_;intro _ _ _
 refine⟨_,rfl,d,π.dx,_,rfl,x.hd,zp,_,rfl,d,D,W,y,rfl,X,hf,fun hy=>?_,fun hy=>qe hy⟩
 obtain⟨pt,Ar,rfl⟩:=aaw.mp hy
 obtain⟨a,z1,⟨dx,vf,pu,cu,vo,g1,g2,⟨as,g3,g4⟩,⟨cs,g5,g6⟩,g7⟩⟩:=x.vm pt Ar
 have nQ:pt.ik.length≤4000:=by
  obtain⟨l1,l2,e⟩:=ab5 Ar
  have h:=sm.ik
  rw[e,aaM,aap,TZ,TZ] at h
  have h:_≤4000:=h
  omega
 refine⟨_,rfl,d,A.gp,π.dx,_,_,rfl,x.hd,O.ix,O.i0,ph _ _ _,_,rfl,π.m,.ref a,rfl,?_,?_⟩
 ·have:=js.k (k:=sk pt.nm) x.hm
  rw[z1] at this
  exact this
 have Rt:=aad g4
 let Jv:=fun(i:Nat) (ys:List V) (σ:St) (H2:Hp)=>∃(v:Option V),σ=[rr d,rs pt.nm,rr a,none,v]∧gc H H2∧Paired (fun v l=>Rep H2 2 v (putD l)) ys (pt.ik.take i)
 refine⟨_,rfl,a,A.hG,dx,_,_,rfl,g1,O.iZ,O.jm,yo,pu,rfl,⟨_,ib.of g3⟩,jU (K:=K) (a:=pu) (xs:=as.map V.ref) (by rw[QR];omega) Jv
  ⟨none,rfl,gc.refl _,.nil⟩ (by rintro _ _ _ _ _ ⟨_,_,e,e2⟩;exact⟨ib.of (e _ _ g3),by rw[aad e2,aaG];omega⟩) ?_ ?_⟩
 ·rintro i v ys σ H2 hv ⟨v4,rfl,s2,e2⟩
  rw[ZZ] at hv
  obtain⟨b,hb,rfl⟩:=Option.map_eq_some_iff.mp hv
  obtain⟨l,hl,⟨JH,vn,vu,vl,k1,k2,k3,k4⟩⟩:=ie g4 hb
  have VH:=s2 _ _ k1
  refine⟨_,rfl,b,A.hU,JH,_,_,rfl,VH,O.iH,O.ji,uv,_,rfl,b,A.hU,JH,_,_,rfl,VH,O.iH,O.iA,Bc,_,rfl,b,A.hU,JH,_,_,rfl,VH,O.iH,O.iB,Be,L2.kq,fun t ht=>?_⟩
  have s3:gc H2 (upd H2 t (.tup [.str l.tx,vu,vl])):=(gc.refl _).new ht
  refine⟨_,rfl,s2.trans s3,?_⟩
  rw[take_snoc hl]
  refine ij (Paired.jK e2 fun _ _ z=>z.same s3) ?_
  refine .t b_ rfl fun j u d hu hd=>?_
  match j with
  | 0=>cases hu;cases hd;exact .s
  | 1=>cases hu;cases hd;exact(k3.same (s2.trans s3)).rep
  | 2=>cases hu;cases hd;exact(k4.same (s2.trans s3)).rep
  | j+3=>simp at hu
 ·rintro ys σ H2 ⟨v4,rfl,s2,e2⟩ p hp
  rw[QR,Rt,aan] at e2
  have s3:=s2.new (o:=.lst ys) hp
  have w3:gc H2 (upd H2 p (.lst ys)):=(gc.refl _).new hp
  have u3:(upd H2 p (.lst ys)) p=some (.lst ys):=b_
  generalize upd H2 p (.lst ys)=H3 at s3 u3 w3
  refine⟨_,rfl,a,A.hG,dx,_,_,rfl,s3 _ _ g1,O.iZ,O.jI,CT,_,rfl,_,rfl,a,A.hG,dx,_,_,rfl,s3 _ _ g1,O.iZ,O.jn,yp,cu,_,rfl,.inl (ib.of (s3 _ _ g5)),fun c hc=>?_⟩
  have w4:gc H3 (upd H3 c (.lst cs)):=(gc.refl _).new hc
  have u4:(upd H3 c (.lst cs)) c=some (.lst cs):=b_
  generalize upd H3 c (.lst cs)=H4 at w4 u4
  have s4:=s3.trans w4
  refine⟨_,rfl,a,A.hG,dx,_,_,rfl,s4 _ _ g1,O.iZ,O.iN,pd,L2.kq,fun r qB=>?_⟩
  have w5:gc H4 (upd H4 r (.tup [vf,.ref p,.ref c,vo])):=(gc.refl _).new qB
  refine q pt Ar rfl r _ vf vo p c (s4.trans w5) (s4.free qB) ?_ b_ (s2.free hp) (s3.free hc) (f_ u3 hc)
  refine .t b_ rfl fun j u d hu hd=>?_
  match j with
  | 0=>cases hu;cases hd;exact g2.rep
  | 1=>cases hu;cases hd;exact(Rep.mT ((w4.trans w5) _ _ u3) e2 fun _ _ z=>(z.same w3).same (w4.trans w5))
  | 2=>cases hu;cases hd;exact Rep.mT (n:=2) (w5 _ _ u4) g6 fun _ _ z=>(j8.rep (z.same (s4.trans w5)))
  | 3=>cases hu;cases hd;exact g7.rep
  | j+4=>simp at hu
noncomputable def oV:Option Str→V
 | none=>.iP
 | some x=>.str x
theorem Rep.os{H:Hp}{n:Nat}{u:V}{o:Option Str}(r:Rep H n u (Gy o)):u=oV o:=by
 cases o with
 | none=>cases r;rfl
 | some x=>cases r;rfl
theorem Fe(o:Option Str):JS (oV o) (oV o)=true:=by cases o<;>rfl
theorem ne_self(v:V):(!decide (v=v))=false:=by simp
theorem Rep.WS{H:Hp}{n:Nat}{v:V}{m:Nm}(r:Rep H n v (DH m)):∃a,v=.ref a∧H a=some (.tup [.str m.1,.int m.2]):=by
 obtain⟨a,vs,k,e,h,hl,hr⟩:=Rep.ID r
 match vs,hl,hr,h with
 | [x,y],_,hr,h=>
  have h0:=(hr 0 x _ rfl rfl).K6
  have h1:=(hr 1 y _ rfl rfl).Qo
  subst h0 h1
  exact⟨a,e,h⟩
def IE:Sp:=fun vs H Q _=>∃(u v:V)(n m:Nat)(o:Option Nm),vs=[u,v]∧Rep H n u (optN o)∧Rep H m v (optN o)∧Q (.bl true) H
theorem Et(T:Txt mg)(O:Ok K mg A):iz P w K mg base mB 2 A.qZ A.q8 ["found","due"] IE:=by
 have p_:=@Dc P w K mg base A T O
 refine O.mO.f.qJ wY fun jw A outer s H vs Q E hr h=>?_
 obtain⟨u,v,n,m,o,rfl,ru,rv,q⟩:=h
 refine⟨_,(de (iy (jq (GX (pv 1))) (fV (h_ (GY (GX (pv 0))))) hV)
   (de (iy ((pw_or (jr (jM (hE i5 (by rfl) T.iO aaC (a_ (pv 0) (a_ (kK (v:=.ty "tuple") (by rfl) T.xq abX rfl) e_))))) (pw_or (iq qD (hE gg (by rfl) T.jG aas (a_ (pv 0) e_)) fY (iS _)) (pw_or (jr (jM (hE i5 (by rfl) T.iO aaC (a_ (iC iF (pv 0) fY (fun _ _=>rfl)) (a_ (kK (v:=.ty "str") (by rfl) T.HW PyProof.Rows.boot_str rfl) e_))))) (pw_or1 (jr (jM (pk O.sY p_ hr (a_ (iC iF (pv 0) fY (fun _ _=>rfl)) e_)))))))).pt) (fV (h_ jS)) hV)
   (fV (h_ (JT (Hn 2 (by exact PH hr)) (pv 0) (pv 1) (iS _)))))),?_⟩
 refine DD ?_;intro _ _
 cases o with
 | none=>
  cases ru
  cases rv
  exact⟨_,rfl,_,rfl,EZ (by rfl) ⟨_,rfl,q⟩⟩
 | some x=>
  obtain⟨a,rfl,ha⟩:=Rep.WS ru
  obtain⟨b,rfl,hb⟩:=Rep.WS rv
  refine⟨_,rfl,_,rfl,oM (by rfl) ?_⟩
  refine⟨_,rfl,_,_,_,_,rfl,.tup ha,BB,_,rfl,jC ?_⟩
  refine⟨_,rfl,a,_,rfl,.inr (lJ.of ha),rfl,_,rfl,oM (by rfl) ?_⟩
  refine⟨_,rfl,a,_,_,_,rfl,rfl,lJ.of ha,gr (j:=0) rfl rfl,_,_,_,_,rfl,.str _,Es,_,rfl,jC ?_⟩
  refine⟨_,rfl,a,_,_,_,rfl,rfl,lJ.of ha,gr (j:=1) rfl rfl,_,rfl,_,rfl,jC ?_⟩
  have e:Rep H 2 (.ref a) (DH x):=.t ha rfl fun j u d hu hd=>by
   match j with
   | 0=>cases hu;cases hd;exact .s
   | 1=>cases hu;cases hd;exact .i
   | j+2=>simp at hd
  have e2:Rep H 2 (.ref b) (DH x):=.t hb rfl fun j u d hu hd=>by
   match j with
   | 0=>cases hu;cases hd;exact .s
   | 1=>cases hu;cases hd;exact .i
   | j+2=>simp at hd
  exact⟨_,rfl,_,rfl,true,⟨a,b,rfl,rfl⟩,e.eq e2,q⟩
def IF:Sp:=fun vs H Q _=>∃(t f o:V)(p c:V)(n m k:Nat)(pt:Pt),vs=[t,f,p,c,o]∧Rep H n t (WR pt)∧f=oV pt.file∧o=oV pt.other∧Rep H m p (.l (pt.ik.map putD))∧Rep H k c (.l (pt.iV.map DH))∧pt.ik.length≤4000∧pt.iV.length≤4000∧Q (.bl true) H
theorem IG{H:Hp}{n:Nat}{v:V}{l:Ln}(r:Rep H n v (putD l)):∃a u1 u2 m,v=.ref a∧H a=some (.tup [.str l.tx,u1,u2])∧Rep H m u1 (optN l.up)∧Rep H m u2 (optN l.lo):=by
 obtain⟨a,vs,k,e,h,hl,hr⟩:=Rep.ID r
 match vs,hl,hr,h with
 | [x,y,z],_,hr,h=>
  have h0:=(hr 0 x _ rfl rfl).K6
  subst h0
  exact⟨a,y,z,k,e,h,hr 1 y _ rfl rfl,hr 2 z _ rfl rfl⟩
theorem Eu(T:Txt mg)(O:Ok K mg A):iz P w K mg base mB 3 A.q9 A.q_ ["found","file","puts","cuts","other"] IF:=by
 have nJ:=@Et P w K mg base A T O
 refine O.pW.f.qJ kS fun jw A outer s H vs Q E hr h=>?_
 obtain⟨t,f,o,p,c,n,m,k,pt,rfl,rt,rfl,rfl,rp,rc,lp,lc,q⟩:=h
 obtain⟨ta,ts,tm,rfl,ht,GQ,Ou⟩:=Rep.ID rt
 obtain⟨x0,x1,x2,x3,rfl⟩:∃a b c d,ts=[a,b,c,d]:=by
  match ts,GQ with
  | [a,b,c,d],_=>exact⟨a,b,c,d,rfl⟩
 have e0:=Rep.os (Ou 0 x0 (Gy pt.file) rfl rfl)
 have e3:=Rep.os (Ou 3 x3 (Gy pt.other) rfl rfl)
 subst e0 e3
 obtain⟨fa,fs,fm,rfl,hf,Rz,Sk⟩:=(Ou 1 x1 (.l (pt.ik.map putD)) rfl rfl).Ep
 obtain⟨ga,gs,gm,rfl,hg,SR,X_⟩:=(Ou 2 x2 (.l (pt.iV.map DH)) rfl rfl).Ep
 obtain⟨pa,ps,pm,rfl,hp,nQ,OX⟩:=rp.Ep
 obtain⟨ca,cs,cm,rfl,hc,Fh,Xd⟩:=rc.Ep
 rw[QR] at Rz SR nQ Fh
 have st:lJ K H ta [oV pt.file,.ref fa,.ref ga,oV pt.other]:=lJ.of ht
 refine⟨_,(de (iy ((pw_or (jr (jM (hE i5 (by rfl) T.iO aaC (a_ (pv 0) (a_ (kK (v:=.ty "tuple") (by rfl) T.xq abX rfl) e_))))) (pw_or (iq qD (hE gg (by rfl) T.jG aas (a_ (pv 0) e_)) fY (iS _)) (pw_or (iq qD (iC iF (pv 0) fY (fun _ _=>rfl)) (pv 1) (iS _)) (pw_or1 (iq qD (iC iF (pv 0) fY (fun _ _=>rfl)) (pv 4) (iS _)))))).pt) (fV (h_ jS)) hV)
   (de (iy ((pw_or (jr (jM (hE i5 (by rfl) T.iO aaC (a_ (iC iF (pv 0) fY (fun _ _=>rfl)) (a_ (kK (v:=.ty "list") (by rfl) T.sR abp rfl) e_))))) (pw_or1 (jr (jM (hE i5 (by rfl) T.iO aaC (a_ (iC iF (pv 0) fY (fun _ _=>rfl)) (a_ (kK (v:=.ty "list") (by rfl) T.sR abp rfl) e_))))))).pt) (fV (h_ jS)) hV)
   (de (iy ((pw_or (iq qD (hE gg (by rfl) T.jG aas (a_ (iC iF (pv 0) fY (fun _ _=>rfl)) e_)) (hE gg (by rfl) T.jG aas (a_ (pv 2) e_)) (iS _)) (pw_or1 (iq qD (hE gg (by rfl) T.jG aas (a_ (iC iF (pv 0) fY (fun _ _=>rfl)) e_)) (hE gg (by rfl) T.jG aas (a_ (pv 3) e_)) (iS _)))).pt) (fV (h_ jS)) hV)
   (de (iQ aav rfl (j3 rfl T.kT (a_ (hE gg (by rfl) T.jG aas (a_ (pv 2) e_)) e_)) (uN 5 kS) (de (l6 6 kS (rV (iC iF (pv 0) fY (fun _ _=>rfl)) (pv 5)))
   (de (iy ((pw_or (jr (jM (hE i5 (by rfl) T.iO aaC (a_ (pv 6) (a_ (kK (v:=.ty "tuple") (by rfl) T.xq abX rfl) e_))))) (pw_or (iq qD (hE gg (by rfl) T.jG aas (a_ (pv 6) e_)) fY (iS _)) (pw_or1 (iq qD (iC iF (pv 6) fY (fun _ _=>rfl)) (iC iF (rV (pv 2) (pv 5)) fY (fun _ _=>rfl)) (iS _))))).pt) (fV (h_ jS)) hV)
   (fV (iy ((pw_or (jr (jM (pk O.mO nJ hr (a_ (iC iF (pv 6) fY (fun _ _=>rfl)) (a_ (iC iF (rV (pv 2) (pv 5)) fY (fun _ _=>rfl)) e_))))) (pw_or1 (jr (jM (pk O.mO nJ hr (a_ (iC iF (pv 6) fY (fun _ _=>rfl)) (a_ (iC iF (rV (pv 2) (pv 5)) fY (fun _ _=>rfl)) e_))))))).pt) (fV (h_ jS)) hV)))))
   (de (iQ aav rfl (j3 rfl T.kT (a_ (hE gg (by rfl) T.jG aas (a_ (pv 3) e_)) e_)) (uN 5 kS) (fV (iy (jr (jM (pk O.mO nJ hr (a_ (rV (iC iF (pv 0) fY (fun _ _=>rfl)) (pv 5)) (a_ (rV (pv 3) (pv 5)) e_))))) (fV (h_ jS)) hV)))
   (fV (h_ jS))))))),?_⟩
 refine RY ?_;intro _ _ _ _ _
 refine⟨_,rfl,_,_,_,_,rfl,.tup ht,BB,_,rfl,jC ?_⟩
 refine⟨_,rfl,ta,_,rfl,.inr st,rfl,_,rfl,oM (by rfl) ?_⟩
 refine⟨_,rfl,ta,_,_,_,rfl,rfl,st,gr (j:=0) rfl rfl,_,rfl,Fe _,_,rfl,oM (ne_self _) ?_⟩
 refine⟨_,rfl,ta,_,_,_,rfl,rfl,st,gr (j:=3) rfl rfl,_,rfl,Fe _,_,rfl,oM (ne_self _) ?_⟩
 refine⟨_,rfl,ta,_,_,_,rfl,rfl,st,gr (j:=1) rfl rfl,_,_,_,_,rfl,.lst hf,Er,_,rfl,jC ?_⟩
 refine⟨_,rfl,ta,_,_,_,rfl,rfl,st,gr (j:=2) rfl rfl,_,_,_,_,rfl,.lst hg,Er,_,rfl,jC ?_⟩
 refine⟨_,rfl,ta,_,_,_,rfl,rfl,st,gr (j:=1) rfl rfl,fa,_,rfl,.inl (ib.of hf),_,rfl,pa,_,rfl,.inl (ib.of hp),rfl,_,rfl,oM (by rw[Rz,nQ];simp) ?_⟩
 refine⟨_,rfl,ta,_,_,_,rfl,rfl,st,gr (j:=2) rfl rfl,ga,_,rfl,.inl (ib.of hg),_,rfl,ca,_,rfl,.inl (ib.of hc),rfl,_,rfl,oM (by rw[SR,Fh];simp) ?_⟩
 refine⟨_,rfl,pa,_,rfl,.inl (ib.of hp),_,rfl,by omega,by omega,?_⟩
 rw[aa7]
 let Jv:=fun(i:Nat) (σ:St) (H2:Hp)=>∃(v5 v6:Option V),σ=[rr ta,some (oV pt.file),rr pa,rr ca,some (oV pt.other),v5,v6]∧H2=H
 refine ku Jv ⟨none,none,rfl,rfl⟩ ?_ ?_
 ·rintro i σ H2 hi ⟨v5,v6,rfl,rfl⟩
  rw[show(0:Int)+(i:Int)=(i:Int) by omega]
  have VI:i<pt.ik.length:=by omega
  have hl:(pt.ik.map putD)[i]?=some (putD pt.ik[i]):=by rw[ZZ,QV VI];rfl
  have g1:fs[i]?=some fs[i]:=QV (by omega)
  have g2:ps[i]?=some ps[i]:=QV (by omega)
  obtain⟨a1,u1,u2,m1,w1,h1,r1,r2⟩:=IG (Sk i _ _ g1 hl)
  obtain⟨a2,u3,u4,m2,w2,h2,r3,r4⟩:=IG (OX i _ _ g2 hl)
  rw[w1] at g1
  rw[w2] at g2
  refine⟨_,rfl,ta,_,_,_,rfl,rfl,st,gr (j:=1) rfl rfl,_,rfl,fa,_,_,_,rfl,rfl,ib.of hf,gr rfl g1,?_⟩
  refine⟨_,rfl,_,_,_,_,rfl,.tup h1,BB,_,rfl,jC ?_⟩
  refine⟨_,rfl,a1,_,rfl,.inr (lJ.of h1),rfl,_,rfl,oM (by rfl) ?_⟩
  refine⟨_,rfl,a1,_,_,_,rfl,rfl,lJ.of h1,gr (j:=0) rfl rfl,_,rfl,_,rfl,pa,_,_,_,rfl,rfl,ib.of hp,gr rfl g2,a2,_,_,_,rfl,rfl,lJ.of h2,gr (j:=0) rfl rfl,rfl,_,rfl,oM (ne_self _) ?_⟩
  refine⟨_,rfl,a1,_,_,_,rfl,rfl,lJ.of h1,gr (j:=1) rfl rfl,_,rfl,_,rfl,pa,_,_,_,rfl,rfl,ib.of hp,gr rfl g2,a2,_,_,_,rfl,rfl,lJ.of h2,gr (j:=1) rfl rfl,u1,u3,_,_,_,rfl,r1,r3,_,rfl,jC ?_⟩
  refine⟨_,rfl,a1,_,_,_,rfl,rfl,lJ.of h1,gr (j:=2) rfl rfl,_,rfl,_,rfl,pa,_,_,_,rfl,rfl,ib.of hp,gr rfl g2,a2,_,_,_,rfl,rfl,lJ.of h2,gr (j:=2) rfl rfl,u2,u4,_,_,_,rfl,r2,r4,_,rfl,jC ?_⟩
  exact⟨_,_,rfl,rfl⟩
 rintro σ H2 ⟨v5,v6,rfl,rfl⟩
 refine⟨_,rfl,ca,_,rfl,.inl (ib.of hc),_,rfl,by omega,by omega,?_⟩
 rw[aa7]
 let Jv:=fun(i:Nat) (σ:St) (H3:Hp)=>∃(v5:Option V),σ=[rr ta,some (oV pt.file),rr pa,rr ca,some (oV pt.other),v5,v6]∧H3=H2
 refine ku Jv ⟨_,rfl,rfl⟩ ?_ ?_
 ·rintro i σ H3 hi ⟨v5,rfl,rfl⟩
  rw[show(0:Int)+(i:Int)=(i:Int) by omega]
  have VI:i<pt.iV.length:=by omega
  have hl:(pt.iV.map DH)[i]?=some (DH pt.iV[i]):=by rw[ZZ,QV VI];rfl
  have g1:gs[i]?=some gs[i]:=QV (by omega)
  have g2:cs[i]?=some cs[i]:=QV (by omega)
  refine⟨_,rfl,ta,_,_,_,rfl,rfl,st,gr (j:=2) rfl rfl,_,rfl,ga,_,_,_,rfl,rfl,ib.of hg,gr rfl g1,_,rfl,_,rfl,ca,_,_,_,rfl,rfl,ib.of hc,gr rfl g2,_,_,_,_,some pt.iV[i],rfl,X_ i _ _ g1 hl,Xd i _ _ g2 hl,_,rfl,jC ?_⟩
  exact⟨_,rfl,rfl⟩
 rintro σ H3 ⟨v5,rfl,rfl⟩
 exact q
theorem WT(m n h:Addr):(Bo m n h).lookup ("told":Str)=none:=by kernel_rfl
def K9(A:Ad):Sp:=fun vs H Q _=>∃(d:Addr)(D:Dk)(W:Addr→Prop)(f o p c:V)(m k:Nat)(pt:Pt),vs=[.ref d,.str pt.nm,f,p,c,o]∧iK A H d D W∧Inv D∧mQ pt.nm∧Small D.made∧pt∈D.made∧f=oV pt.file∧o=oV pt.other∧Rep H m p (.l (pt.ik.map putD))∧Rep H k c (.l (pt.iV.map DH))∧∀H',gc H H'→Q (.bl true) H'
theorem IH(T:Txt mg)(O:Ok K mg A):iz P w K mg base mB 4 A.uo A.uq ["desk","name","file","puts","cuts","other"] (K9 A):=by
 have rH:=@Eu P w K mg base A T O
 have wK:=(@K8 P w K mg base A T O).OF
 refine O.pX.f.qJ so fun jw A0 outer s H vs Q E hr h=>?_
 obtain⟨d,D,W,f,o,p,c,m,k,pt,rfl,X,I,fx,sm,Ar,rfl,rfl,rp,rc,q⟩:=h
 obtain⟨π,y⟩:=id X
 have sz:sizeLine=16777216:=aaA
 have JE:pt.nm∈D.names:=T1 Ar
 have lp:pt.ik.length≤4000:=by
  obtain⟨l1,l2,e⟩:=ab5 Ar
  have h:=sm.ik
  rw[e,aaM,aap,TZ,TZ] at h
  have h:_≤4000:=h
  omega
 have lc:pt.iV.length≤4000:=by
  obtain⟨l1,l2,e⟩:=ab5 Ar
  have h:=sm.iV
  rw[e,aaM,aap,TZ,TZ] at h
  have h:_≤4000:=h
  omega
 refine⟨_,(de (l6 6 so (HK (pv 0) O.ix O.vp wK hr (a_ (pv 1) e_)))
   (de (iy (jr (jM (pk O.pW rH hr (a_ (pv 6) (a_ (pv 2) (a_ (pv 3) (a_ (pv 4) (a_ (pv 5) e_)))))))) (fV (h_ jS)) hV)
   (de (ip (mW aaB aaI aaJ jx (iC iF (pv 6) fY (fun _ _=>rfl)) (a_ (lL (a_ i7 (a_ k9 (a_ k9 e_)))) e_)))
   (de (ip (mW aaB aaI aaJ jx (iC iF (pv 6) fY (fun _ _=>rfl)) (a_ (lL (a_ i7 (a_ fY e_))) e_)))
   (fV (h_ (pk O.pW rH hr (a_ (HK (pv 0) O.ix O.vp wK hr (a_ (pv 1) e_)) (a_ (pv 2) (a_ (pv 3) (a_ (pv 4) (a_ (pv 5) e_)))))))))))),?_⟩
 refine MO ?_;intro _ _ _ _
 refine⟨_,rfl,d,π.dx,_,rfl,y.hd,WT _ _ _,_,rfl,d,D,W,pt.nm,rfl,X,fx,sm,fun h=>absurd JE h,fun SS Uv e' t H1 f1 o1 pu cu s1 Vk rep RD hpu hcu qz=>?_⟩
 have:=E4 I.nd Uv Ar e'
 subst this
 refine⟨_,rfl,_,rfl,_,rfl,_,rfl,_,rfl,.ref t,_,_,p,c,_,_,_,SS,rfl,rep,rfl,rfl,rp.same s1,rc.same s1,lp,lc,_,rfl,jC ?_⟩
 obtain⟨ta,ts,tm,et,ht,GQ,Ou⟩:=Rep.ID rep
 cases et
 rw[RD] at ht
 cases ht
 obtain⟨fa,fs,fm,e1,hf,Rz,Sk⟩:=(Ou 1 (.ref pu) (.l (SS.ik.map putD)) rfl rfl).Ep
 obtain⟨ga,gs,gm,e2,hg,SR,X_⟩:=(Ou 2 (.ref cu) (.l (SS.iV.map DH)) rfl rfl).Ep
 cases e1
 cases e2
 rw[QR] at Rz SR
 refine⟨_,rfl,t,_,_,_,rfl,rfl,lJ.of RD,gr (j:=1) rfl rfl,.inl ⟨rfl,_,ib.of hf⟩,L2.kq,fun tp JG=>?_⟩
 have s2:=s1.new (o:=.tup [.str (Str.ofString "a"),.iP,.iP]) JG
 have hf2:=il (u:=.tup [.str (Str.ofString "a"),.iP,.iP]) JG hf
 have RE:=il (u:=.tup [.str (Str.ofString "a"),.iP,.iP]) JG hg
 have LU:=il (u:=.tup [.str (Str.ofString "a"),.iP,.iP]) JG RD
 refine⟨pu,_,_,rfl,rfl,hf2,by omega,?_⟩
 have s3:=s2.upd (o:=.lst (fs++[.ref tp])) hpu
 have RF:(upd (upd H1 tp (.tup [.str (Str.ofString "a"),.iP,.iP])) pu (.lst (fs++[.ref tp]))) cu=some (.lst gs):=by rw[d_ (abA qz)];exact RE
 have Ya:(upd (upd H1 tp (.tup [.str (Str.ofString "a"),.iP,.iP])) pu (.lst (fs++[.ref tp]))) t=some (.tup [f1,.ref pu,.ref cu,o1]):=by rw[d_ (fun e=>by rw[e,hf] at RD;cases RD)];exact LU
 generalize upd (upd H1 tp (.tup [.str (Str.ofString "a"),.iP,.iP])) pu (.lst (fs++[.ref tp]))=H3 at s3 RF Ya
 refine⟨_,rfl,t,_,_,_,rfl,rfl,lJ.of Ya,gr (j:=2) rfl rfl,.inl ⟨rfl,_,ib.of RF⟩,L2.kq,fun tq Yb=>?_⟩
 have s4:=s3.new (o:=.tup [.str (Str.ofString "a"),.int 0]) Yb
 refine⟨cu,_,_,rfl,rfl,il Yb RF,by omega,?_⟩
 have s5:=s4.upd (o:=.lst (gs++[.ref tq])) hcu
 generalize upd (upd H3 tq (.tup [.str (Str.ofString "a"),.int 0])) cu (.lst (gs++[.ref tq]))=H5 at s5
 refine⟨_,rfl,d,π.dx,_,rfl,s5 _ _ y.hd,WT _ _ _,_,rfl,d,D,W,SS.nm,rfl,X.same s5,fx,sm,fun h=>absurd JE h,fun pt2 zx e2 t2 H6 f2 o2 pu2 cu2 s6 _ rep2 _ _ _ _=>?_⟩
 have:=E4 I.nd zx Ar e2
 subst this
 exact⟨_,rfl,_,rfl,_,rfl,_,rfl,.ref t2,_,_,p,c,_,_,_,pt2,rfl,rep2,rfl,rfl,rp.same (s5.trans s6),rc.same (s5.trans s6),lp,lc,q _ (s5.trans s6)⟩
end
noncomputable def hide(fi:Addr)(H:Hp):Hp:=fun b=>if b=fi then none else H b
section
variable{fi b:Addr}{H H':Hp}
theorem hide_ne(h:b≠fi):hide fi H b=H b:=aai h
theorem Al{o:HO}(h:hide fi H b=some o):H b=some o∧b≠fi:=by
 unfold hide at h
 split at h
 ·cases h
 ·exact⟨h,by assumption⟩
theorem mU(s:gc H H'):gc (hide fi H) (hide fi H'):=fun b o e=>by
 obtain⟨e,n⟩:=Al e
 rw[hide_ne n];exact s _ _ e
theorem II{o:HO}:hide fi (upd H fi o)=hide fi H:=by
 funext b
 by_cases h:b=fi
 ·subst h;unfold hide;rw[aak rfl,aak rfl]
 ·rw[hide_ne h,hide_ne h,d_ h]
theorem IJ:gc (hide fi H) H:=fun b o e=>(Al e).1
end
theorem NN{K:Qqy}{H:Hp}{t t':Addr}{l l':Ln}(h:H t=some (.tup [.str l.nm.1,.int l.nm.2,.str l.tx]))(h':H t'=some (.tup [.str l'.nm.1,.int l'.nm.2,.str l'.tx])):mJ K H 2 (.ref t) (.ref t') (decide (tr l=tr l')):=by
 have z:=mJ.pw (K:=K) (H:=H) (n:=1) (e:=fun j=>match j with|0=>decide (l.nm.1=l'.nm.1)|1=>decide ((l.nm.2:Int)=l'.nm.2)|_=>decide (l.tx=l'.tx)) (lJ.of h) (lJ.of h') fun j u v hu hv=>by
  match j with
  | 0=>cases hu;cases hv;exact mJ.AK _ _
  | 1=>cases hu;cases hv;exact mJ.Ho _ _
  | 2=>cases hu;cases hv;exact mJ.AK _ _
  | j+3=>simp at hu
 have e:((List.range 3).all (fun j=>match j with|0=>decide (l.nm.1=l'.nm.1)|1=>decide ((l.nm.2:Int)=l'.nm.2)|_=>decide (l.tx=l'.tx))&&true)=decide (tr l=tr l'):=by
  rw[Bool.and_true,abj]
  simp only [abB,abN,aa2]
  unfold tr
  constructor
  ·intro g
   have h0:=aau (g 0 (by decide))
   have h1:=aau (g 1 (by decide))
   have h2:=aau (g 2 (by decide))
   rw[h0,Int.ofNat.inj h1,h2]
  ·intro g j hj
   have h0:=aaQ Prod.fst g
   have h1:=aaQ (fun z=>z.2.1) g
   have h2:=aaQ (fun z=>z.2.2) g
   match j,hj with
   | 0,_=>exact UN h0
   | 1,_=>exact UN (aaQ Int.ofNat h1)
   | 2,_=>exact UN h2
 rw[←e]
 exact z
open Classical in
theorem Ew{K:Qqy}{H:Hp}{vs:List V}{row:List Ln}(p:Paired (s_ H) vs row){x:V}{l:Ln}(hx:s_ H x l):∃g:V→Bool,(∀z∈vs,mJ K H 2 z x (g z))∧vs.any g=inR row l:=by
 obtain⟨t,rfl,ht⟩:=hx
 have key:∀z l',s_ H z l'→decide (∃o,s_ H z o∧tr o=tr l)=decide (tr l'=tr l):=fun z l' hz=>by
  rw[decide_eq_decide]
  refine⟨fun⟨o,ho,e⟩=>?_,fun e=>⟨l',hz,e⟩⟩
  obtain⟨a,rfl,h1⟩:=hz
  obtain⟨b,e2,h2⟩:=ho
  cases e2
  rw[h1] at h2
  injection h2 with h2
  injection h2 with h2
  simp only [List.cons.injEq,V.str.injEq,V.int.injEq,and_true] at h2
  rw[←e]
  unfold tr
  rw[h2.1,Int.ofNat.inj h2.2.1,h2.2.2]
 refine⟨fun z=>decide (∃o,s_ H z o∧tr o=tr l),fun z hz=>?_,?_⟩
 ·obtain⟨i,hi⟩:=aaH.mp hz
  obtain⟨l',_,uI⟩:=ie p hi
  show mJ K H 2 z (.ref t) (decide (∃o,s_ H z o∧tr o=tr l))
  rw[key z l' uI]
  obtain⟨a,rfl,h1⟩:=uI
  exact NN h1 ht
 ·rw[abj]
  unfold inR
  rw[List.any_eq_true,aa2,aaw]
  constructor
  ·rintro⟨z,hz,e⟩
   obtain⟨i,hi⟩:=aaH.mp hz
   obtain⟨l',LW,uI⟩:=ie p hi
   have e:decide (∃o,s_ H z o∧tr o=tr l)=true:=e
   rw[key z l' uI] at e
   exact⟨l',UK LW,aau e⟩
  ·rintro⟨l',uI,e⟩
   obtain⟨i,hi⟩:=aaH.mp uI
   obtain⟨z,SU,hz⟩:=kj p hi
   exact⟨z,UK SU,UN ⟨l',hz,e⟩⟩
noncomputable def BC(old:Ln→Bool)(R:List Ln)(k:Nat):List (Str×Option Nm×Option Nm):=match R[k]? with
 | none=>[]
 | some l=>if old l then[] else[(l.tx,(if k=0 then none else(R[k-1]?).map (·.nm)),((R.drop k).find? old).map (·.nm))]
theorem Df{old:Ln→Bool}:∀(r pre:List Ln)(u:Option Nm),u=pre.getLast?.map (·.nm)→pg old u r=(List.range' pre.length r.length).flatMap (BC old (pre++r))
 | [],_,_,_=>rfl
 | l::r,pre,u,hu=>by
  have ih:=Df (old:=old) r (pre++[l]) (some l.nm) (by simp)
  rw[TZ,aaL] at ih
  have ih:pg old (some l.nm) r=(List.range' (pre.length+1) r.length).flatMap (BC old (pre++l::r)):=ih
  rw[WJ,ab1,aap,←ih]
  have e:BC old (pre++l::r) pre.length=if old l then[] else[(l.tx,u,((l::r).find? old).map (·.nm))]:=by
   unfold BC
   rw[aa0 (TU _),Nat.sub_self,List.getElem?_cons_zero]
   simp only [List.drop_left]
   have e2:(if pre.length=0 then none else((pre++l::r)[pre.length-1]?).map (·.nm))=u:=by
    rw[hu]
    split
    ·rename_i h
     rw[aaK.mp h];rfl
    ·rename_i h
     rw[abv (by omega),List.getLast?_eq_getElem?]
   rw[e2]
  rw[e,pg]
  split
  ·rfl
  ·rfl
noncomputable def R3(z:Str×Option Nm×Option Nm):Dv:=.t [.s z.1,optN z.2.1,optN z.2.2]
theorem Gz(l:List V)(k:Nat):pA l (some (k:Int)) none=l.drop k:=by
 unfold pA
 rw[HT.tP,HT.xj,abq (by rw[abY];exact TU _)]
 by_cases h:k≤l.length
 ·rw[Nat.min_eq_left h]
 ·rw[Nat.min_eq_right (by omega),ab2 (TU _),ab2 (by omega)]
theorem Dg{α β:Type}{F:α→β→Prop}{xs:List α}{ys:List β}(p:Paired F xs ys):∀k,Paired F (xs.drop k) (ys.drop k):=by
 induction p with
 | nil=>intro k;rw[List.drop_nil,List.drop_nil];exact .nil
 | cons f t ih=>
  intro k
  cases k with
  | zero=>exact .cons f t
  | succ k=>exact ih k
section
variable{P:Program}{w:World}{K:Qqy}{mg:Qqx}{base:Heap}{A:Ad}
def NO:Sp:=fun vs H Q _=>∃(b e:Addr)(row R:List Ln),vs=[.ref b,.ref e]∧om H b row∧om H e R∧row.length≤1000∧R.length≤1000∧∀p H',gc H H'→Rep H' 4 (.ref p) (.l ((pg (inR row) none R).map R3))→Q (.ref p) H'
theorem K_(T:Txt mg)(O:Ok K mg A):iz P w K mg base mB 1 A.wC A.wD ["before","behind"] NO:=by
 refine O.z_.f.qJ jX fun jw A outer s H vs Q E hr h=>?_
 obtain⟨b,e,row,R,rfl,⟨bs,hb,VJ⟩,⟨es,he,SV⟩,l1,l2,q⟩:=h
 have sz:sizeLine=16777216:=aaA
 have eb:=aad VJ
 have ee:=aad SV
 refine⟨_,(de (l6 2 jX (iX e_))
   (de (iQ aav rfl (j3 rfl T.kT (a_ (hE gg (by rfl) T.jG aas (a_ (pv 1) e_)) e_)) (uN 3 jX) (fV (iy (iq (Ak 2 (by exact PH hr)) (rV (pv 1) (pv 3)) (pv 0) rfl) (de (l6 4 jX k9)
   (de (qH (iy (iq G3 (pv 3) fY (iS _)) (fV (l6 4 jX (lL (a_ (iC iF (rV (pv 1) (hX uP (pv 3) fY)) fY (fun _ _=>rfl)) (a_ (iC iF (rV (pv 1) (hX uP (pv 3) fY)) fY (fun _ _=>rfl)) e_))))) hV))
   (de (xI (j:=5) vY (fW n4).names [6] jX.nd rfl rfl rfl (iD (kI l4 (pv 1) (l0 (pv 3)) lZ)) rfl (by decide+kernel) (fun _ _ _ _=>(iJ (i:=6) jX.nd rfl (Or.inl rfl))) (fun _ _ _ _=>⟨_,pB (iq (NI 2 (by exact PH hr)) (pv 6) (pv 0) rfl),by(try simp only [lg]);rfl⟩) (fun _ _ _ _=>zV (lL (a_ (iC iF (pv 6) fY (fun _ _=>rfl)) (a_ (iC iF (pv 6) fY (fun _ _=>rfl)) e_)))))
   (fV (ip (mW aaB aaI aaJ jx (pv 2) (a_ (lL (a_ (iC iF (rV (pv 1) (pv 3)) fY (fun _ _=>rfl)) (a_ (pv 4) (a_ (rV (hX mX (pv 5) (iX (a_ k9 e_))) fY) e_)))) e_))))))) hV)))
   (fV (h_ (pv 2))))),?_⟩
 refine DD ?_;intro _ _
 refine⟨L2.kq,fun p0 Dl=>?_⟩
 have s1:gc H (upd H p0 (.lst [])):=(gc.refl H).new Dl
 refine⟨_,rfl,e,_,rfl,.inl (ib.of (s1 _ _ he)),_,rfl,by omega,by omega,?_⟩
 rw[aa7]
 let Jv:=fun(i:Nat) (σ:St) (H2:Hp)=>∃(v3 v4 v5 v6:Option V)(ys:List V),σ=[rr b,rr e,rr p0,v3,v4,v5,v6]∧gc H H2∧H2 p0=some (.lst ys)∧ys.length≤i∧Paired (fun v z=>Rep (hide p0 H2) 3 v (R3 z)) ys ((List.range i).flatMap (BC (inR row) R))
 refine ku Jv
  ⟨none,none,none,none,[],rfl,s1,b_,TU _,.nil⟩ ?_ ?_
 ·rintro i σ H2 hi ⟨v3,v4,v5,v6,ys,rfl,s2,hp,I_,B2⟩
  rw[show(0:Int)+(i:Int)=(i:Int) by omega]
  have zy:i<es.length:=by omega
  have gi:es[i]?=some es[i]:=QV zy
  obtain⟨l,hl,kr⟩:=ie SV gi
  have mono:∀{H3:Hp},gc H2 H3→Paired (fun v z=>Rep (hide p0 H3) 3 v (R3 z)) ys ((List.range i).flatMap (BC (inR row) R)):=fun s=>Paired.jK B2 fun _ _ z=>z.same (mU s)
  have SW:∀{H3:Hp},gc H2 H3→∀v l,s_ H v l→s_ H3 v l:=fun s v l ⟨t,e,h⟩=>⟨t,e,s _ _ (s2 _ _ h)⟩
  obtain⟨g,JD,RE⟩:=Ew (K:=K) (Paired.jK VJ (SW (gc.refl _))) (SW (gc.refl _) _ _ kr)
  have GO:BC (inR row) R i=if inR row l then[] else[(l.tx,(if i=0 then none else(R[i-1]?).map (·.nm)),((R.drop i).find? (inR row)).map (·.nm))]:=by
   unfold BC
   rw[hl]
  refine⟨_,rfl,_,rfl,e,_,_,_,rfl,rfl,ib.of (s2 _ _ he),gr rfl gi,_,rfl,b,bs,g,rfl,ib.of (s2 _ _ hb),JD,_,rfl,?_⟩
  rw[aak rfl,RE]
  refine l_ (fun GJ=>?_) (fun GJ=>?_)
  ·have GJ:inR row l=false:=by simpa using GJ
   rw[GJ,aai (by decide)] at GO
   refine⟨fun σ H3=>∃(up:V),σ=[rr b,rr e,rr p0,ri i,some up,v5,v6]∧gc H2 H3∧H3 p0=some (.lst ys)∧Rep (hide p0 H3) 1 up (optN (if i=0 then none else(R[i-1]?).map (·.nm))),?_,?_⟩
   ·refine⟨_,rfl,_,_,rfl,rfl,_,rfl,l_ (fun hz=>?_) (fun hz=>?_)⟩
    ·have hz:0<i:=by have:=aau hz;omega
     have gj:es[i-1]?=some es[i-1]:=QV (by omega)
     obtain⟨l',uI,t',et',L6⟩:=ie SV gj
     rw[et'] at gj
     have LU:=s2 _ _ L6
     refine⟨_,rfl,_,rfl,_,_,rfl,rfl,e,_,_,_,rfl,rfl,ib.of (s2 _ _ he),gr (j:=i-1) (by omega) gj,t',_,_,_,rfl,rfl,lJ.of LU,gr (j:=0) rfl rfl,_,rfl,_,rfl,_,_,rfl,rfl,e,_,_,_,rfl,rfl,ib.of (s2 _ _ he),gr (j:=i-1) (by omega) gj,t',_,_,_,rfl,rfl,lJ.of LU,gr (j:=1) rfl rfl,L2.kq,fun u hu=>?_⟩
     have qz:u≠p0:=abA (f_ hp hu)
     refine⟨.ref u,rfl,(gc.refl H2).new hu,il hu hp,?_⟩
     rw[aai (by omega),uI]
     refine .t (a:=u) (by rw[hide_ne qz];exact b_) rfl fun j w d hw hd=>?_
     match j with
     | 0=>cases hw;cases hd;exact .s
     | 1=>cases hw;cases hd;exact .i
     | j+2=>simp at hd
    ·have hz:i=0:=by
      rcases Nat.eq_zero_or_pos i with h|h
      ·exact h
      ·exact absurd (UN (by omega)) hz
     refine⟨.iP,rfl,gc.refl _,hp,?_⟩
     rw[aak hz]
     exact .o
   rintro σ H3 ⟨up,rfl,Yc,hp3,rup⟩
   have s3:=s2.trans Yc
   refine⟨_,rfl,_,rfl,_,rfl,e,_,rfl,ib.of (s3 _ _ he),fun sl OO=>?_⟩
   rw[Gz]
   have s4:=(gc.refl H3).new (o:=.lst (es.drop i)) OO
   have u4:(upd H3 sl (.lst (es.drop i))) sl=some (.lst (es.drop i)):=b_
   have Lk:=il (u:=.lst (es.drop i)) OO hp3
   generalize upd H3 sl (.lst (es.drop i))=H4 at s4 u4 Lk
   have Yd:=Yc.trans s4
   have Sv:=Dg SV i
   have edl:=aad Sv
   let Jv:=fun(j:Nat) (zs:List V) (σ:St) (H5:Hp)=>∃(v6:Option V),σ=[rr b,rr e,rr p0,ri i,some up,v5,v6]∧gc H4 H5∧zs.length≤j∧Paired (fun v n=>Rep (hide p0 H5) 1 v (DH n)) zs ((((R.drop i).take j).filter (inR row)).map (·.nm))
   refine⟨sl,rfl,⟨_,ib.of u4⟩,jU (K:=K) (a:=sl) (xs:=es.drop i) (by rw[abY];omega) Jv
    ⟨none,rfl,gc.refl _,TU _,.nil⟩ (by rintro _ _ _ _ _ ⟨_,_,e5,e6,_⟩;exact⟨ib.of (e5 _ _ u4),e6⟩) ?_ ?_⟩
   ·rintro j z zs σ H5 hz ⟨v6,rfl,GS,VL,L8⟩
    obtain⟨o,ho,SX⟩:=ie Sv hz
    have JI:=Yd.trans GS
    obtain⟨g',RF,hg4⟩:=Ew (K:=K) (Paired.jK VJ (SW JI)) (SW JI _ _ SX)
    refine⟨_,rfl,_,rfl,b,bs,g',rfl,ib.of (JI _ _ (s2 _ _ hb)),RF,_,rfl,?_⟩
    rw[aai (by decide),hg4]
    have et:((R.drop i).take (j+1)).filter (inR row)=((R.drop i).take j).filter (inR row)++if inR row o then[o] else[]:=by
     rw[take_snoc ho,aaD]
     congr 1
     by_cases c:inR row o=true
     ·rw[aak c,Z8 c];rfl
     ·rw[aai c,aae c];rfl
    refine l_ (fun c=>?_) (fun c=>?_)
    ·obtain⟨t,rfl,ht⟩:=SX
     have Ye:=JI _ _ (s2 _ _ ht)
     refine⟨_,rfl,t,_,_,_,rfl,rfl,lJ.of Ye,gr (j:=0) rfl rfl,_,rfl,t,_,_,_,rfl,rfl,lJ.of Ye,gr (j:=1) rfl rfl,L2.kq,fun u hu=>?_⟩
     have Of:=GS _ _ Lk
     have qz:u≠p0:=abA (f_ Of hu)
     have Lm:gc H5 (upd H5 u (.tup [.str o.nm.1,.int o.nm.2])):=(gc.refl H5).new hu
     refine⟨_,rfl,GS.trans Lm,by rw[TZ];exact acf VL,?_⟩
     rw[et,aak c,aam]
     refine ij (Paired.jK L8 fun _ _ z=>z.same (mU Lm)) ?_
     refine .t (a:=u) (by rw[hide_ne qz];exact b_) rfl fun j w d hw hd=>?_
     match j with
     | 0=>cases hw;cases hd;exact .s
     | 1=>cases hw;cases hd;exact .i
     | j+2=>simp at hd
    ·refine⟨_,rfl,GS,by omega,?_⟩
     rw[et,aai c,aaF]
     exact L8
   ·rintro zs σ H5 ⟨v6,rfl,GS,VL,L8⟩ lw Yf
    rw[edl,aan] at L8
    rw[abY] at VL
    have Of:=GS _ _ Lk
    have Lm:=(gc.refl H5).new (o:=.lst zs) Yf
    have u6:(upd H5 lw (.lst zs)) lw=some (.lst zs):=b_
    have VM:=il (u:=.lst zs) Yf Of
    generalize upd H5 lw (.lst zs)=H6 at Lm u6 VM
    have Lo:=(Yd.trans GS).trans Lm
    have VN:=Lo _ _ (s2 _ _ he)
    obtain⟨t,et,ht⟩:=kr
    rw[et] at gi
    refine⟨_,rfl,.inl ⟨rfl,_,ib.of VM⟩,_,rfl,_,rfl,e,_,_,_,rfl,rfl,ib.of VN,gr rfl gi,t,_,_,_,rfl,rfl,lJ.of (Lo _ _ (s2 _ _ ht)),gr (j:=2) rfl rfl,_,rfl,_,rfl,L2.kq,fun nn Yg=>?_⟩
    have s67:=(gc.refl H6).new (o:=.lst [.iP]) Yg
    refine⟨lw,nn,_,_,rfl,rfl,il Yg u6,b_,by simp;omega,fun ct hct=>?_⟩
    have RG:=s67.new (o:=.lst (zs++[.iP])) hct
    have u8:(upd (upd H6 nn (.lst [.iP])) ct (.lst (zs++[.iP]))) ct=some (.lst (zs++[.iP])):=b_
    generalize upd (upd H6 nn (.lst [.iP])) ct (.lst (zs++[.iP]))=H8 at RG u8
    obtain⟨v0,hv0,rv0⟩:∃v0,(zs++[V.iP])[0]?=some v0∧Rep (hide p0 H8) 1 v0 (optN (((R.drop i).find? (inR row)).map (·.nm))):=by
     rw[←List.head?_filter]
     cases hf:(R.drop i).filter (inR row) with
     | nil=>
      rw[hf] at L8
      cases L8
      exact⟨.iP,rfl,.o⟩
     | cons o r=>
      rw[hf] at L8
      cases L8 with
      | cons f _=>exact⟨_,rfl,(f.same (mU Lm)).same (mU RG)⟩
    refine⟨ct,_,_,_,rfl,rfl,ib.of u8,gr (j:=0) rfl hv0,L2.kq,fun tp JG=>?_⟩
    have s28:=Lo.trans RG
    have Yh:=RG _ _ VM
    have qz:tp≠p0:=abA (f_ Yh JG)
    have SY:=(gc.refl H8).new (o:=.tup [.str l.tx,up,v0]) JG
    have u9:(upd H8 tp (.tup [.str l.tx,up,v0])) tp=some (.tup [.str l.tx,up,v0]):=b_
    have Yi:=il (u:=.tup [.str l.tx,up,v0]) JG Yh
    generalize upd H8 tp (.tup [.str l.tx,up,v0])=H9 at SY u9 Yi
    have Yj:=s28.trans SY
    refine⟨p0,_,_,rfl,rfl,Yi,by omega,?_⟩
    refine⟨_,_,_,_,ys++[.ref tp],rfl,(s2.trans Yj).upd Dl,b_,by rw[TZ];exact acf I_,?_⟩
    rw[ab_,aaM,aap,abc,aaF,GO,II]
    refine ij (mono Yj) ?_
    refine .t (a:=tp) (by rw[hide_ne qz];exact u9) rfl fun j w d hw hd=>?_
    match j with
    | 0=>cases hw;cases hd;exact .s
    | 1=>cases hw;cases hd;exact(rup.same (mU (((s4.trans GS).trans Lm).trans (RG.trans SY)))).mono (by decide)
    | 2=>cases hw;cases hd;exact(rv0.same (mU SY)).mono (by decide)
    | j+3=>simp at hd
  ·have GJ:inR row l=true:=by simpa using GJ
   rw[GJ,aak rfl] at GO
   refine⟨_,_,_,_,ys,rfl,s2,hp,by omega,?_⟩
   rw[ab_,aaM,aap,abc,aaF,GO,aaF]
   exact B2
 ·rintro σ H2 ⟨v3,v4,v5,v6,ys,rfl,s2,hp,I_,B2⟩
  refine⟨_,rfl,q p0 H2 s2 ?_⟩
  have ez:(List.range es.length).flatMap (BC (inR row) R)=pg (inR row) none R:=by
   rw[Df (old:=inR row) R [] none rfl,ee,abP];rfl
  rw[ez] at B2
  exact Rep.mT hp B2 fun _ _ z=>z.same IJ
theorem om.Dh{A:Ad}{H H':Hp}{d a:Addr}{D:Dk}{W:Addr→Prop}{row:List Ln}(X:iK A H d D W)(s:yA W H H')(r:om H a row):om H' a row:=by
 obtain⟨vs,h,p⟩:=r
 exact⟨vs,s _ _ h (X.lst h),Paired.jK p fun v l ⟨t,e,h⟩=>⟨t,e,s _ _ h (X.tup h)⟩⟩
noncomputable def JA(ns:List Int):List Str:=(List.range 7).map fun(j:Nat)=>nameOf (ko ns 3) j
theorem BD{ns:List Int}{j:Nat}(h:j<7):(JA ns)[j]?=some (nameOf (ko ns 3) j):=by
 unfold JA
 rw[ZZ,abW h];rfl
theorem NP{ns:List Int}{i j:Nat}(hi:i<7)(hj:j<7)(e:nameOf (ko ns 3) i=nameOf (ko ns 3) j):i=j:=by
 have:=Iw (by omega) (by omega) (by omega) (by omega) e
 omega
structure Dd(ns:List Int)(st:Str)(n:Nat)(D:Dk):Prop where
 inv:Inv D
 sz:Sz n D
 stores:D.stores=[st]
 names:∀x∈D.names,∃j:Nat,j<n∧x=nameOf (ko ns 3) j
 held:∀x∈D.names,x∈D.held st
theorem Dd.new{ns:List Int}{st:Str}{n:Nat}{D:Dk}(h:Dd ns st n D)(k:Nat)(hk:n≤k)(h7:k<7):nameOf (ko ns 3) k∉D.names:=fun hm=>by
 obtain⟨j,hj,e⟩:=h.names _ hm
 have:=NP h7 (by omega) e
 omega
theorem Dd.keep{ns:List Int}{st:Str}{n:Nat}{D:Dk}(h:Dd ns st n D)(k:Nat)(hk:n≤k){p:Pt}(hn:p.nm=nameOf (ko ns 3) k)(I:Inv (D.keep st p))(z:Sz (k+1) (D.keep st p)):Dd ns st (k+1) (D.keep st p):=by
 refine⟨I,z,h.stores,fun x hx=>?_,fun x hx=>?_⟩
 ·rw[p7] at hx
  rcases WL.mp hx with hx|hx
  ·obtain⟨j,hj,e⟩:=h.names x hx
   exact⟨j,by omega,e⟩
  ·exact⟨k,by omega,by rw[TN.mp hx,hn]⟩
 ·rw[p7] at hx
  show x∈(if st=st then D.held st++[p.nm] else D.held st)
  rw[aak rfl]
  rcases WL.mp hx with hx|hx
  ·exact aaf _ (h.held x hx)
  ·exact aay _ hx
theorem Sz.mono{k m:Nat}{D:Dk}(z:Sz k D)(h:k≤m):Sz m D:=by
 obtain⟨j,rfl⟩:=Nat.exists_eq_add_of_le h
 induction j with
 | zero=>exact z
 | succ j ih=>exact(ih (by omega)).up
theorem Di{n:Int}:∀(m:Nat)(f l:Int),l≤f→f+2*(m:Int)-2<n→Jy n l ((List.range m).map fun(i:Nat)=>f+(i:Int)*2)
 | 0,_,_,_,_=>trivial
 | m+1,f,l,h1,h2=>by
  rw[List.range_succ_eq_map,aaq,List.map_map]
  refine⟨⟨by omega,by omega⟩,?_⟩
  have e:((fun(i:Nat)=>f+(i:Int)*2) ∘ Nat.succ)=fun(i:Nat)=>(f+2)+(i:Int)*2:=by
   funext i
   show f+((i+1:Nat):Int)*2=_
   omega
  rw[e]
  exact Di m (f+2) (f+((0:Nat):Int)*2+1) (by omega) (by omega)
theorem GA(l:List V)(k:Nat):pA l none (some (k:Int))=l.take k:=by
 unfold pA
 rw[HT.tP,HT.xj,Nat.sub_zero,List.drop_zero]
 by_cases h:k≤l.length
 ·rw[Nat.min_eq_left h]
 ·rw[Nat.min_eq_right (by omega),abq (TU _),abq (by omega)]
def Ff(K:Qqy):Sp:=fun vs H Q _=>∃(a:Addr)(ns:List Int),vs=[.ref a]∧ib K H a (ns.map V.int)∧ns.length≤63∧∀H',Q (.bl true) H'
theorem NQ{f:Addr}{fd:FuncData}(F:vN K "law" "law" vS f fd)(T:Txt mg)(O:Ok K mg A):iz P w K mg base mB 20 f fd ["script"] (Ff K):=by
 have xf:=@Bq P w K mg base A T O
 have BH:=(@Iq P w K mg base A T O).OF
 have zB:=(@Gm P w K mg base A T O).OF
 have EF:=(@Nz P w K mg base A T O).OF
 have EG:=(@NC P w K mg base A T O).OF
 have Dt:=(@KZ P w K mg base A T O).OF
 have jv:=@K1 P w K mg base A T O
 have rJ:=@K2 P w K mg base A T O
 have Du:=@K4 P w K mg base A T O
 have xg:=@De P w K mg base A T O
 have Dw:=@K_ P w K mg base A T O
 have qa:=@IH P w K mg base A T O
 refine F.qJ jY fun jw A0 outer s H vs Q E hr h=>?_
 obtain⟨a,ns,rfl,ha,hn,q⟩:=h
 have sz:sizeLine=16777216:=aaA
 refine⟨_,(de (l6 1 jY (G8 O.M8 xf (hr.mono (by decide)) rfl O.M9 O.sA.b .nil qj))
   (de (l6 2 jY (pk O.rO rJ hr (a_ (hX jT (pk O.jH jv hr (a_ (pv 0) (a_ fY e_))) fY) (a_ fY e_))))
   (de (l6 3 jY (pk O.rO rJ hr (a_ (hX jT (pk O.jH jv hr (a_ (pv 0) (a_ fY e_))) fY) (a_ fY e_))))
   (de (EW (j:=4) zY (fW vS).names [7] jY.nd rfl rfl rfl (j3 rfl T.kT (a_ fY e_)) rfl (by decide+kernel) (fun _ _ _ _=>(iJ (i:=7) jY.nd rfl (Or.inl rfl))) (fun _ _ _ _=>mf) (fun _ _ _ _=>zV (pk O.rO rJ hr (a_ (hX jT (pk O.jH jv hr (a_ (pv 0) (a_ fY e_))) fY) (a_ (pv 7) e_)))))
   (de (ip (HK (pv 1) O.ix O.yn BH hr (a_ (pv 2) e_)))
   (de (kU (i:=5) jY.nd rfl (Or.inr rfl) (iX e_))
   (de (l6 6 jY (hX i8 fY (hX jT (pk O.jH jv hr (a_ (pv 0) (a_ fY e_))) fY)))
   (de (iQ aav rfl (j3 rfl T.kT (a_ (pv 6) e_)) (uN 7 jY) (de (ip (HK (pv 1) O.ix O.wG zB hr (a_ (pv 2) (a_ (rV (pv 4) (pv 7)) (a_ (pv 3) (a_ (pk O.z9 Du hr (a_ (sd zY (fW vS).names [13] rfl (iD (pv 5)) rfl (by decide+kernel) (fun _ _ _ _=>(iJ (i:=13) jY.nd rfl (Or.inl rfl))) (fun _ _ _ _=>mf) (fun _ _ _ _=>zV (iC iF (pv 13) fY (fun _ _=>rfl)))) (a_ (pk O.jH jv hr (a_ (pv 0) (a_ (hX i8 fY (pv 7)) e_))) e_))) e_))))))
   (de (kU (i:=8) jY.nd rfl (Or.inr rfl) (HK (pv 1) O.ix O.CP EF hr (a_ (pv 2) (a_ (pv 3) e_))))
   (de (iy (jr (jM (pk O.sC xg hr (a_ (pv 8) e_)))) (fV (h_ jS)) hV)
   (de (xI (j:=9) zY (fW vS).names [13] jY.nd rfl rfl rfl (iD (pv 5)) rfl (by decide+kernel) (fun _ _ _ _=>(iJ (i:=13) jY.nd rfl (Or.inl rfl))) (fun _ _ _ _=>⟨_,pB (iq (Ak 2 (by exact PH hr)) (pv 13) (pv 8) rfl),by(try simp only [lg]);rfl⟩) (fun _ _ _ _=>zV (lL (a_ (iC iF (pv 13) fY (fun _ _=>rfl)) (a_ (iC iF (pv 13) fY (fun _ _=>rfl)) e_)))))
   (de (iy (jr (jM (pk O.pX qa hr (a_ (pv 1) (a_ (rV (pv 4) (pv 7)) (a_ (pv 3) (a_ (pk O.z_ Dw hr (a_ (pv 5) (a_ (pv 8) e_))) (a_ (pv 9) (a_ k9 e_))))))))) (fV (h_ jS)) hV)
   (fV (kU (i:=5) jY.nd rfl (Or.inr rfl) (pv 8)))))))))
   (de (qH (iy (iq G3 (hE gg (by rfl) T.jG aas (a_ (pv 5) e_)) fY (iS _)) (de (l6 10 jY (hX jT (pk O.jH jv hr (a_ (pv 0) (a_ fY e_))) (hE gg (by rfl) T.jG aas (a_ (pv 5) e_))))
   (de (l6 11 jY (kI l4 (sd zY (fW vS).names [7] rfl (En rfl T.kT (a_ (pv 10) (a_ (hE gg (by rfl) T.jG aas (a_ (pv 5) e_)) (a_ fY e_)))) rfl (by decide+kernel) (fun _ _ _ _=>(iJ (i:=7) jY.nd rfl (Or.inl rfl))) (fun _ _ _ _=>mf) (fun _ _ _ _=>zV (pv 7))) lZ (l0 fY)))
   (de (iy (jq (nS (HK (pv 1) O.ix O.CO EG hr (a_ (pv 2) (a_ (rV (pv 4) fY) (a_ (pv 3) (a_ (pv 11) e_))))))) (fV (h_ jS)) hV)
   (fV (iy (jr (jM (pk O.pX qa hr (a_ (pv 1) (a_ (rV (pv 4) fY) (a_ (pv 3) (a_ (iX e_) (a_ (sd zY (fW vS).names [7] rfl (iD (pv 11)) rfl (by decide+kernel) (fun _ _ _ _=>(iJ (i:=7) jY.nd rfl (Or.inl rfl))) (fun _ _ _ _=>mf) (fun _ _ _ _=>zV (lL (a_ (iC iF (rV (pv 5) (pv 7)) fY (fun _ _=>rfl)) (a_ (iC iF (rV (pv 5) (pv 7)) fY (fun _ _=>rfl)) e_))))) (a_ k9 e_))))))))) (fV (h_ jS)) hV))))) hV))
   (de (l6 12 jY (rV (pv 4) (hX jT (pk O.jH jv hr (a_ (pv 0) (a_ fY e_))) (pv 6))))
   (de (iy (jq (nS (HK (pv 1) O.ix O.z8 Dt hr (a_ (pv 2) (a_ (rV (pv 4) fY) (a_ (pv 12) e_)))))) (fV (h_ jS)) hV)
   (fV (h_ (pk O.pX qa hr (a_ (pv 1) (a_ (rV (pv 4) fY) (a_ k9 (a_ (iX e_) (a_ (iX e_) (a_ (pv 12) e_)))))))))))))))))))),?_⟩
 refine TX ?_;intro _ _ _ _ _ _ _ _ _ _ _
 intro d px nd Vw nxd
 refine⟨d,px,rfl,b_,fun H1 W X1 hW k1=>⟨rfl,?_⟩⟩
 have s0:gc H (upd (upd H px (.own d)) d (.ins A.gp px [])):=fun b o e=>by rw[d_ (f_ e nd),d_ (f_ e Vw)];exact e
 have s1:gc H H1:=fun b o e=>k1 b o (s0 b o e) (f_ e nd)
 have Yk:∀b,W b→H b=none:=fun b hb=>s0.free (hW b hb)
 have L5:=uG ha s1
 refine⟨_,rfl,a,ns,0,rfl,L5,by decide,_,_,rfl,rfl,(by show(0:Int)<20736;decide),_,_,rfl,?_⟩
 refine⟨_,rfl,a,ns,1,rfl,L5,by decide,_,_,rfl,rfl,(by show(0:Int)<20736;decide),_,_,rfl,?_⟩
 have Ov:=mS (ko ns 0) 1
 have RH:=mS (ko ns 1) 2
 generalize nameOf (cellAt ns 0%20736) 1=st at Ov
 generalize nameOf (cellAt ns 1%20736) 2=fl at RH
 refine⟨_,rfl,by decide,by decide,?_⟩
 let Jv:=fun(m:Nat) (ys:List V) (σ:St) (H2:Hp)=>∃(v7:Option V),σ=[rr a,rr d,rs st,rs fl,none,none,none,v7,none,none,none,none,none,none]∧H2=H1∧ys=ia ((List.range m).map fun(j:Nat)=>nameOf (ko ns 3) j)
 refine xJ (n:=7) (by decide) Jv ⟨none,rfl,rfl,rfl⟩ (by rintro _ _ _ _ ⟨_,_,_,e⟩;rw[e];simp) ?_ ?_
 ·rintro m ys σ H2 hm ⟨v7,rfl,rfl,rfl⟩
  refine⟨_,rfl,a,ns,3,rfl,L5,by decide,_,_,rfl,rfl,(by show(0:Int)<20736;decide),_,rfl,_,_,rfl,?_⟩
  refine⟨_,rfl,rfl,?_⟩
  rw[ab_,aam,←oN]
  show _++[V.str (nameOf (ko ns 3) (0+(m:Int)))]=_
  rw[Int.zero_add]
  rfl
 rintro ys σ H2 ⟨v7,rfl,rfl,rfl⟩ nl Od
 have s2:=s1.new (o:=.lst (ia (JA ns))) Od
 have X2:=X1.same ((gc.refl H2).new (o:=.lst (ia (JA ns))) Od)
 have Ow:(upd H2 nl (.lst (ia (JA ns)))) nl=some (.lst (ia (JA ns))):=b_
 have est:ia ((List.range 7).map fun(j:Nat)=>nameOf (ko ns 3) j)=ia (JA ns):=rfl
 rw[est]
 generalize upd H2 nl (.lst (ia (JA ns)))=H3 at s2 X2 Ow
 obtain⟨π,y⟩:=id X2
 refine⟨_,rfl,d,π.dx,_,rfl,y.hd,Ip,_,rfl,d,OL,W,st,rfl,X2,Ov.uE,by show 0<1000;decide,fun h=>absurd Ov h,(fun _ h=>by cases h),fun _ _ H4 W4 X4 s4 hW4=>?_⟩
 have hW5:∀b,W4 b→H b=none:=fun b hb=>(hW4 b hb).elim (Yk b) fun h=>s2.free h
 have s5:gc H H4:=fun b o e=>s4 b o (s2 _ _ e) fun hb=>by rw[Yk b hb] at e;cases e
 have VO:=s4 _ _ Ow (X2.lst Ow)
 have Dh:∀{Ha Hb:Hp},gc H Ha→yA W4 Ha Hb→gc H Hb:=fun s s' b o e=>s' b o (s _ _ e) fun hb=>by rw[hW5 b hb] at e;cases e
 refine⟨L2.kq,fun r0 qB=>?_⟩
 have s6:=s5.new (o:=.lst []) qB
 have X6:=X4.same ((gc.refl H4).new (o:=.lst []) qB)
 have Yl:(upd H4 r0 (.lst [])) r0=some (.lst []):=b_
 have RI:=il (u:=.lst []) qB VO
 generalize upd H4 r0 (.lst [])=H6 at s6 X6 Yl RI
 have bm:=mod_lt (cellAt ns 2) 5 (by decide)
 refine⟨_,rfl,a,ns,2,rfl,uG ha s6,by decide,_,_,rfl,rfl,(by show(0:Int)<5;decide),_,_,rfl,rfl,?_⟩
 obtain⟨m,hm⟩:∃m:Nat,1+cellAt ns 2%5=(m:Int):=⟨_,(abJ (by omega)).symm⟩
 dsimp only
 rw[hm]
 have Sf:1≤m:=by omega
 have hm5:m≤5:=by omega
 have I0:Inv (OL.begin st):=Ua.begin (by intro h;cases h)
 have q0:∀D:Dk,D.made=[]→D.row st fl=[]:=fun D e=>by
  unfold Dk.row Dk.ll
  rw[e]
  rfl
 refine⟨_,rfl,_,rfl,by omega,by omega,?_⟩
 rw[aa7]
 let Jv:=fun(i:Nat) (σ:St) (H7:Hp)=>∃(v7 v8 v9 Fo:Option V)(r:Addr)(D:Dk),σ=[rr a,rr d,rs st,rs fl,rr nl,rr r,ri m,v7,v8,v9,none,none,none,Fo]∧gc H H7∧H7 nl=some (.lst (ia (JA ns)))∧iK A H7 d D W4∧om H7 r (D.row st fl)∧Dd ns st i D∧D.zb st fl=[]∧∀j:Nat,j<i→nameOf (ko ns 3) j∈D.names
 refine ku Jv
  ⟨none,none,none,none,r0,OL.begin st,rfl,s6,RI,X6,⟨[],Yl,by rw[q0 _ rfl];exact .nil⟩,⟨I0,⟨TU _,TU _,TU _⟩,rfl,(fun x hx=>by cases hx),(fun x hx=>by cases hx)⟩,by unfold Dk.zb;rw[q0 _ rfl];rfl,fun j hj=>absurd hj (Nat.not_lt_zero _)⟩ ?_ ?_
 ·rintro i σ H7 hi ⟨v7,v8,v9,Fo,r,D,rfl,s7,Dx,X7,uJ,dd,hq,VP⟩
  rw[show(0:Int)+(i:Int)=(i:Int) by omega]
  obtain⟨π7,y7⟩:=id X7
  have I:=dd.inv
  have sm:=dd.sz.small (by omega)
  have hs:st∈D.stores:=by rw[dd.stores];simp
  have hx:=dd.new i (TU _) (by omega)
  have gx:=mS (ko ns 3) (i:Int)
  have GO:=kO (BD (ns:=ns) (j:=i) (by omega))
  have EA:=dd.sz.row I st fl
  obtain⟨vr,y4,BG⟩:=id uJ
  have S3:=aad BG
  refine⟨_,rfl,d,π7.dx,_,rfl,y7.hd,Gk,_,rfl,_,rfl,_,rfl,nl,_,_,_,rfl,rfl,ib.of Dx,gr rfl GO,_,rfl,?_⟩
  let Jv:=fun(j:Nat) (ys:List V) (σ:St) (H8:Hp)=>∃(Fo:Option V),σ=[rr a,rr d,rs st,rs fl,rr nl,rr r,ri m,ri i,v8,v9,none,none,none,Fo]∧H8=H7∧ys=ia (((D.row st fl).take j).map (·.tx))
  refine⟨_,rfl,r,rfl,⟨_,ib.of y4⟩,jU (K:=K) (a:=r) (xs:=vr) (by omega) Jv
   ⟨_,rfl,rfl,rfl⟩ (by rintro _ _ _ _ _ ⟨_,_,e,e2⟩;rw[e,e2];exact⟨ib.of y4,by rw[QR,QR,aaG];omega⟩) ?_ ?_⟩
  ·rintro j v ys σ H8 hv ⟨Fo,rfl,rfl,rfl⟩
   obtain⟨ln,vy,t,rfl,ht⟩:=ie BG hv
   refine⟨_,rfl,t,_,_,_,rfl,rfl,lJ.of ht,gr (j:=2) rfl rfl,_,rfl,rfl,?_⟩
   rw[take_snoc vy,aam,ky]
   rfl
  rintro ys σ H8 ⟨Fo,rfl,rfl,rfl⟩ tl GQ
  rw[S3,aan]
  have w8:=(gc.refl H8).new (o:=.lst (ia ((D.row st fl).map (·.tx)))) GQ
  have u8:(upd H8 tl (.lst (ia ((D.row st fl).map (·.tx))))) tl=some (.lst (ia ((D.row st fl).map (·.tx)))):=b_
  generalize upd H8 tl (.lst (ia ((D.row st fl).map (·.tx))))=H9 at w8 u8
  refine⟨_,rfl,_,rfl,_,_,rfl,rfl,a,ns,_,rfl,uG ha (s7.trans w8),by omega,?_⟩
  refine⟨tl,(D.row st fl).map (·.tx),_,rfl,u8,by rw[QR];omega,fun t Jf ts Fp VQ ed=>?_⟩
  have w:=w8.trans Fp
  have QL:=ed.len
  rw[QR] at QL
  refine⟨d,t,D,W4,st,_,fl,ts,rfl,X7.same w,I,sm,aac dd.sz.ik (by omega),Ov.uE,gx.uE,RH.uE,VQ,by omega,fun h=>absurd hs h,fun _ h=>absurd ⟨gx,RH⟩ h,fun _ _ _ h=>absurd h hx,fun _ _ _ _ h=>absurd hq h,fun _ _ _ _ _ h=>absurd h ed.ne,fun _ _ _ _ _ _ OZ Jj GU=>?_⟩
  have RJ:=IC I hs hx hq ts
  have I2:=I.record hs hx hq ts
  have z2:=dd.sz.keep st (Gr (x:=nameOf (ko ns 3) i) (f:=fl) ed) (aac p6.2 (by omega))
  have BE:=dd.keep i (TU _) (p:=iG (nameOf (ko ns 3) i) fl (D.row st fl) ts) rfl I2 z2
  have JL:=z2.small (by omega)
  have EH:iG (nameOf (ko ns 3) i) fl (D.row st fl) ts∈(D.keep st (iG (nameOf (ko ns 3) i) fl (D.row st fl) ts)).made:=by
   show _∈D.made++[_]
   simp
  have Ox:∀j:Nat,j<i+1→nameOf (ko ns 3) j∈(D.keep st (iG (nameOf (ko ns 3) i) fl (D.row st fl) ts)).names:=fun j hj=>by
   rw[p7]
   by_cases e:j=i
   ·exact aay _ (by rw[e];exact TN.mpr rfl)
   ·exact aaf _ (VP j (by omega))
  have Fm:(iG (nameOf (ko ns 3) i) fl (D.row st fl) ts).ik.map putD=(pg (inR (D.row st fl)) none ((D.keep st (iG (nameOf (ko ns 3) i) fl (D.row st fl) ts)).row st fl)).map R3:=by
   rw[←RJ.ik,List.map_map];rfl
  have Fn:=RJ.iV
  have Fl:(iG (nameOf (ko ns 3) i) fl (D.row st fl) ts).nm=nameOf (ko ns 3) i:=rfl
  have Jh:oV (iG (nameOf (ko ns 3) i) fl (D.row st fl) ts).file=.str fl:=rfl
  have JK:oV (iG (nameOf (ko ns 3) i) fl (D.row st fl) ts).other=.iP:=rfl
  have pcl:(iG (nameOf (ko ns 3) i) fl (D.row st fl) ts).iV.length≤(D.row st fl).length:=p6.2
  have Ri:=RJ.qu
  have RK:=z2.row I2 st fl
  generalize iG (nameOf (ko ns 3) i) fl (D.row st fl) ts=pt at Jj RJ I2 z2 BE JL EH Ox Fm Fn Fl Jh JK Ri RK pcl
  generalize D.keep st pt=D2 at Jj RJ I2 z2 BE JL EH Ox Fm Fn Ri RK
  have VR:=Dh (s7.trans w) GU
  have Dy:=GU _ _ (w _ _ Dx) ((X7.same w).lst (w _ _ Dx))
  have Jk:=om.Dh (X7.same w) GU (uJ.same w)
  obtain⟨π11,y11⟩:=id Jj
  have Ao:st∈D2.stores:=by rw[BE.stores];simp
  refine⟨_,rfl,d,π11.dx,_,rfl,y11.hd,Nq,_,rfl,_,rfl,d,D2,W4,st,fl,rfl,Jj,Ov.uE,JL,I2,fun h=>absurd Ao h,fun _ r2 RL JM hr20 GH=>?_⟩
  refine⟨_,rfl,.ref r2,2,D2.row st fl,rfl,GH.rep,_,rfl,jC ?_⟩
  have L9:=Jk.same JM
  obtain⟨vr,y4,BG⟩:=id L9
  obtain⟨es,S4,he2⟩:=id GH
  have S3:=aad BG
  let Jv:=fun(j:Nat) (ys:List V) (σ:St) (y6:Hp)=>∃(Fo:Option V),σ=[rr a,rr d,rs st,rs fl,rr nl,rr r,ri m,ri i,rr r2,v9,none,none,none,Fo]∧gc RL y6∧ys.length≤j∧Paired (fun v n=>Rep y6 1 v (DH n)) ys ((((D.row st fl).take j).filter fun l=>!inR (D2.row st fl) l).map (·.nm))
  refine⟨_,rfl,r,rfl,⟨_,ib.of y4⟩,jU (K:=K) (a:=r) (xs:=vr) (by omega) Jv
   ⟨_,rfl,gc.refl _,TU _,.nil⟩ (by rintro _ _ _ _ _ ⟨_,_,e,e2,_⟩;exact⟨ib.of (e _ _ y4),e2⟩) ?_ ?_⟩
  ·rintro j v ys σ y6 hv ⟨Fo,rfl,Dz,I_,B2⟩
   obtain⟨o,ho,SX⟩:=ie BG hv
   obtain⟨t,rfl,ht⟩:=id SX
   have GL:=Dz _ _ ht
   obtain⟨g,JD,RE⟩:=Ew (K:=K) (Paired.jK he2 fun v l ⟨t,e,h⟩=>⟨t,e,Dz _ _ h⟩) (show s_ y6 (.ref t) o from ⟨t,rfl,GL⟩)
   refine⟨_,rfl,_,rfl,r2,es,g,rfl,ib.of (Dz _ _ S4),JD,_,rfl,?_⟩
   rw[aak rfl,RE]
   have et:((D.row st fl).take (j+1)).filter (fun l=>!inR (D2.row st fl) l)=((D.row st fl).take j).filter (fun l=>!inR (D2.row st fl) l)++if(!inR (D2.row st fl) o)=true then[o] else[]:=by
    rw[take_snoc ho,aaD]
    congr 1
    by_cases c:(!inR (D2.row st fl) o)=true
    ·rw[aak c,Z8 (p:=fun l=>!inR (D2.row st fl) l) c];rfl
    ·rw[aai c,aae (p:=fun l=>!inR (D2.row st fl) l) c];rfl
   refine l_ (fun c=>?_) (fun c=>?_)
   ·refine⟨_,rfl,t,_,_,_,rfl,rfl,lJ.of GL,gr (j:=0) rfl rfl,_,rfl,t,_,_,_,rfl,rfl,lJ.of GL,gr (j:=1) rfl rfl,L2.kq,fun u hu=>?_⟩
    have DA:gc y6 (upd y6 u (.tup [.str o.nm.1,.int o.nm.2])):=(gc.refl y6).new hu
    refine⟨_,rfl,Dz.trans DA,by rw[TZ];exact acf I_,?_⟩
    rw[et,aak c,aam]
    refine ij (Paired.jK B2 fun _ _ z=>z.same DA) ?_
    exact j8.rep ⟨u,rfl,b_⟩
   ·refine⟨_,rfl,Dz,by omega,?_⟩
    rw[et,aai c,aaF]
    exact B2
  rintro ys σ y6 ⟨Fo,rfl,Dz,I_,B2⟩ cl Fh
  rw[S3,aan,←Fn] at B2
  have DA:=(gc.refl y6).new (o:=.lst ys) Fh
  have RM:(upd y6 cl (.lst ys)) cl=some (.lst ys):=b_
  generalize upd y6 cl (.lst ys)=Ym at DA RM
  have rcu:Rep Ym 2 (.ref cl) (.l (pt.iV.map DH)):=Rep.mT RM B2 fun _ _ z=>z.same DA
  have As:=(JM.trans Dz).trans DA
  have RN:=As _ _ Dy
  refine⟨_,rfl,_,rfl,_,rfl,nl,_,_,_,rfl,rfl,ib.of RN,gr rfl GO,_,rfl,_,rfl,_,rfl,?_⟩
  refine⟨r,r2,D.row st fl,D2.row st fl,rfl,L9.same (Dz.trans DA),GH.same (Dz.trans DA),by omega,by omega,fun pp H15 O0 rpp=>?_⟩
  have X15:=(Jj.same As).same O0
  refine⟨_,rfl,d,D2,W4,_,_,.ref pp,.ref cl,4,2,pt,by rw[Fl];rfl,X15,I2,by rw[Fl];exact gx.uE,JL,EH,Jh.symm,JK.symm,by rw[Fm];exact rpp,rcu.same O0,fun H16 Yn=>⟨_,rfl,jC ?_⟩⟩
  refine⟨_,rfl,?_⟩
  have Jl:=(As.trans O0).trans Yn
  exact⟨_,_,_,_,r2,D2,rfl,VR.trans Jl,Jl _ _ Dy,Jj.same Jl,GH.same (((Dz.trans DA).trans O0).trans Yn),BE,Ri,Ox⟩
 rintro σ H7 ⟨v7,v8,v9,Fo,r,D,rfl,s7,Dx,X7,uJ,dd,hq,VP⟩
 obtain⟨π7,y7⟩:=id X7
 have I:=dd.inv
 have sm:=dd.sz.small (by omega)
 have hs:st∈D.stores:=by rw[dd.stores];simp
 have EA:=dd.sz.row I st fl
 obtain⟨vr,y4,BG⟩:=id uJ
 have S3:=aad BG
 refine⟨fun σ H8=>∃(v7 v10 v11:Option V)(D2:Dk),σ=[rr a,rr d,rs st,rs fl,rr nl,rr r,ri m,v7,v8,v9,v10,v11,none,Fo]∧gc H H8∧H8 nl=some (.lst (ia (JA ns)))∧iK A H8 d D2 W4∧Dd ns st 6 D2∧∀x∈D.names,x∈D2.names,?_,?_⟩
 ·refine⟨_,rfl,r,_,rfl,.inl (ib.of y4),_,_,rfl,rfl,_,rfl,l_ (fun hz=>?_) (fun hz=>?_)⟩
  ·have hz:0<vr.length:=by have:=aau hz;omega
   have b9:=mod_lt (cellAt ns 9) (vr.length:Int) (by omega)
   refine⟨_,rfl,a,ns,9,rfl,uG ha s7,by decide,_,rfl,r,_,rfl,.inl (ib.of y4),_,_,rfl,rfl,by omega,?_⟩
   dsimp only
   obtain⟨f0,hf0⟩:∃f0:Nat,cellAt ns 9%(vr.length:Int)=(f0:Int):=⟨_,(abJ b9.1).symm⟩
   rw[hf0] at b9 ⊢
   refine⟨_,rfl,_,rfl,r,_,rfl,.inl (ib.of y4),_,_,rfl,⟨by omega,by omega,by omega,by omega⟩,?_⟩
   obtain⟨n2,La⟩:∃n2:Nat,((vr.length:Int)-(f0:Int)+1)/2=(n2:Int):=⟨_,(abJ (by omega)).symm⟩
   rw[La,aa7]
   refine Gu (by omega) (fun j ys σ H8=>∃(v7:Option V),σ=[rr a,rr d,rs st,rs fl,rr nl,rr r,ri m,v7,v8,v9,ri f0,none,none,Fo]∧H8=H7∧ys=((List.range j).map fun(i:Nat)=>(f0:Int)+(i:Int)*2).map V.int)
    ⟨_,rfl,rfl,rfl⟩ (by rintro _ _ _ _ ⟨_,_,_,e⟩;rw[e];simp) ?_ ?_
   ·rintro j ys σ H8 hj ⟨v7,rfl,rfl,rfl⟩
    refine⟨_,rfl,_,rfl,rfl,?_⟩
    rw[ab_,aam,aam]
    rfl
   rintro ys σ H8 ⟨v7',rfl,rfl,rfl⟩ pl nQ
   have w8:=(gc.refl H8).new (o:=.lst (((List.range n2).map fun(i:Nat)=>(f0:Int)+(i:Int)*2).map V.int)) nQ
   have u8:(upd H8 pl (.lst (((List.range n2).map fun(i:Nat)=>(f0:Int)+(i:Int)*2).map V.int))) pl=some (.lst (((List.range n2).map fun(i:Nat)=>(f0:Int)+(i:Int)*2).map V.int)):=b_
   generalize upd H8 pl (.lst (((List.range n2).map fun(i:Nat)=>(f0:Int)+(i:Int)*2).map V.int))=H9 at w8 u8
   refine⟨_,rfl,pl,_,rfl,ib.of u8,fun p2 zx=>?_⟩
   have VS:pA (((List.range n2).map fun(i:Nat)=>(f0:Int)+(i:Int)*2).map V.int) none (some 3)=((List.range (min 3 n2)).map fun(i:Nat)=>(f0:Int)+(i:Int)*2).map V.int:=by
    rw[show(3:Int)=((3:Nat):Int) from rfl,GA,←List.map_take,←List.map_take,List.take_range]
   rw[VS]
   have VT:Jy ((D.row st fl).length:Int) 0 ((List.range (min 3 n2)).map fun(i:Nat)=>(f0:Int)+(i:Int)*2):=Di _ _ _ (by omega) (by omega)
   have SN:((List.range (min 3 n2)).map fun(i:Nat)=>(f0:Int)+(i:Int)*2)≠[]:=fun e=>by
    have:=aaQ List.length e
    rw[QR,abH] at this
    have:min 3 n2=0:=this
    omega
   have VU:((List.range (min 3 n2)).map fun(i:Nat)=>(f0:Int)+(i:Int)*2).length≤3:=by rw[QR,abH];omega
   generalize ((List.range (min 3 n2)).map fun(i:Nat)=>(f0:Int)+(i:Int)*2)=ps at VT SN VU
   have Fp:=w8.new (o:=.lst (ps.map V.int)) zx
   have Oy:(upd H9 p2 (.lst (ps.map V.int))) p2=some (.lst (ps.map V.int)):=b_
   generalize upd H9 p2 (.lst (ps.map V.int))=Jf at Fp Oy
   have IT:=Bt (Int.le_refl 0) VT
   have Yo:=dd.new 5 (by omega) (by omega)
   have VV:=mS (ko ns 3) (5:Nat)
   have RO:=kO (BD (ns:=ns) (j:=5) (by omega))
   refine⟨_,rfl,d,π7.dx,_,rfl,Fp _ _ y7.hd,Nr,_,rfl,_,rfl,nl,_,_,_,rfl,rfl,ib.of (Fp _ _ Dx),gr (j:=5) rfl RO,_,rfl,_,rfl,d,p2,D,W4,st,_,fl,ps,rfl,X7.same Fp,I,sm,Ov.uE,VV.uE,RH.uE,Oy,by omega,fun p hp=>?_,fun h=>absurd hs h,fun _ h=>absurd ⟨VV,RH⟩ h,fun _ _ _ h=>absurd h Yo,fun _ _ _ _ h=>absurd VT h,fun _ _ _ _ h=>absurd h SN,fun _ _ _ _ _ _ OZ Jj GU=>⟨_,rfl,oM (by rfl) ?_⟩⟩
   ·have:=IT p hp
    refine abl (m:=108) ?_ (by decide)
    exact aac (Nat.log2_le_self _) (by omega)
   have xb:∀n∈ps.filterMap (fun p=>((D.row st fl)[p.toNat]?).map (·.nm)),n∈(D.row st fl).map (·.nm):=fun n hn=>by
    obtain⟨pl,_,nQ⟩:=aby.mp hn
    obtain⟨l',uI,rfl⟩:=Option.map_eq_some_iff.mp nQ
    exact T1 (UK uI)
   have I2:=I.cut (x:=nameOf (ko ns 3) (5:Nat)) hs Yo xb
   have z2:=(dd.sz.mono (m:=5) (by omega)).keep st (p:=⟨nameOf (ko ns 3) (5:Nat),some fl,[],ps.filterMap fun p=>((D.row st fl)[p.toNat]?).map (·.nm),none⟩) (aaE _) (aac (List.length_filterMap_le _ _) (by omega))
   have BE:=dd.keep 5 (by omega) (p:=⟨nameOf (ko ns 3) (5:Nat),some fl,[],ps.filterMap fun p=>((D.row st fl)[p.toNat]?).map (·.nm),none⟩) rfl I2 z2
   have JL:=z2.small (by omega)
   have Jm:∀x∈D.names,x∈(D.keep st ⟨nameOf (ko ns 3) (5:Nat),some fl,[],ps.filterMap fun p=>((D.row st fl)[p.toNat]?).map (·.nm),none⟩).names:=fun x hx=>by rw[p7];exact aaf _ hx
   have EH:(⟨nameOf (ko ns 3) (5:Nat),some fl,[],ps.filterMap fun p=>((D.row st fl)[p.toNat]?).map (·.nm),none⟩:Pt)∈(D.keep st ⟨nameOf (ko ns 3) (5:Nat),some fl,[],ps.filterMap fun p=>((D.row st fl)[p.toNat]?).map (·.nm),none⟩).made:=by
    show _∈D.made++[_]
    simp
   have Fl:(⟨nameOf (ko ns 3) (5:Nat),some fl,[],ps.filterMap fun p=>((D.row st fl)[p.toNat]?).map (·.nm),none⟩:Pt).nm=nameOf (ko ns 3) (5:Nat):=rfl
   have Jh:oV (⟨nameOf (ko ns 3) (5:Nat),some fl,[],ps.filterMap fun p=>((D.row st fl)[p.toNat]?).map (·.nm),none⟩:Pt).file=.str fl:=rfl
   have JK:oV (⟨nameOf (ko ns 3) (5:Nat),some fl,[],ps.filterMap fun p=>((D.row st fl)[p.toNat]?).map (·.nm),none⟩:Pt).other=.iP:=rfl
   have Fm:(⟨nameOf (ko ns 3) (5:Nat),some fl,[],ps.filterMap fun p=>((D.row st fl)[p.toNat]?).map (·.nm),none⟩:Pt).ik=[]:=rfl
   have Fn:(⟨nameOf (ko ns 3) (5:Nat),some fl,[],ps.filterMap fun p=>((D.row st fl)[p.toNat]?).map (·.nm),none⟩:Pt).iV=ps.filterMap fun p=>((D.row st fl)[p.toNat]?).map (·.nm):=rfl
   generalize (⟨nameOf (ko ns 3) (5:Nat),some fl,[],ps.filterMap fun p=>((D.row st fl)[p.toNat]?).map (·.nm),none⟩:Pt)=pt at Jj I2 z2 BE JL Jm EH Fl Jh JK Fm Fn
   generalize D.keep st pt=D2 at Jj I2 z2 BE JL Jm EH
   have VR:=Dh (s7.trans Fp) GU
   have VW:=X7.same Fp
   have Dy:=GU _ _ (Fp _ _ Dx) (VW.lst (Fp _ _ Dx))
   have Jk:=om.Dh VW GU (uJ.same Fp)
   have RP:=GU _ _ Oy (VW.lst Oy)
   obtain⟨vr2,hr3,hr4⟩:=id Jk
   refine⟨_,rfl,_,rfl,nl,_,_,_,rfl,rfl,ib.of Dy,gr (j:=5) rfl RO,_,rfl,L2.kq,fun e0 VX=>?_⟩
   have JM:=(gc.refl OZ).new (o:=.lst []) VX
   have Yp:(upd OZ e0 (.lst [])) e0=some (.lst []):=b_
   generalize upd OZ e0 (.lst [])=RL at JM Yp
   let Jv:=fun(j:Nat) (ys:List V) (σ:St) (y6:Hp)=>∃(v7:Option V),σ=[rr a,rr d,rs st,rs fl,rr nl,rr r,ri m,v7,v8,v9,ri f0,rr p2,none,Fo]∧gc RL y6∧ys.length≤j∧Paired (fun v n=>Rep y6 1 v (DH n)) ys ((ps.take j).filterMap fun p=>((D.row st fl)[p.toNat]?).map (·.nm))
   refine⟨_,rfl,p2,rfl,⟨_,ib.of (JM _ _ RP)⟩,jU (K:=K) (a:=p2) (xs:=ps.map V.int) (by rw[QR];omega) Jv
    ⟨_,rfl,gc.refl _,TU _,.nil⟩ (by rintro _ _ _ _ _ ⟨_,_,e,e2,_⟩;exact⟨ib.of (e _ _ (JM _ _ RP)),e2⟩) ?_ ?_⟩
   ·rintro j v ys σ y6 hv ⟨v7,rfl,Dz,I_,B2⟩
    rw[ZZ] at hv
    obtain⟨pj,Yq,rfl⟩:=Option.map_eq_some_iff.mp hv
    have hb:=IT pj (UK Yq)
    obtain⟨o,ho⟩:∃o,(D.row st fl)[pj.toNat]?=some o:=⟨_,QV (by omega)⟩
    obtain⟨z,SU,t,rfl,ht⟩:=kj hr4 ho
    have GL:=Dz _ _ (JM _ _ ht)
    have RQ:=Dz _ _ (JM _ _ hr3)
    refine⟨_,rfl,_,rfl,r,_,_,_,rfl,rfl,ib.of RQ,gr (j:=pj.toNat) (by omega) SU,t,_,_,_,rfl,rfl,lJ.of GL,gr (j:=0) rfl rfl,_,rfl,_,rfl,r,_,_,_,rfl,rfl,ib.of RQ,gr (j:=pj.toNat) (by omega) SU,t,_,_,_,rfl,rfl,lJ.of GL,gr (j:=1) rfl rfl,L2.kq,fun u hu=>?_⟩
    have DA:gc y6 (upd y6 u (.tup [.str o.nm.1,.int o.nm.2])):=(gc.refl y6).new hu
    refine⟨_,rfl,Dz.trans DA,by rw[TZ];exact acf I_,?_⟩
    rw[take_snoc Yq,abx,abd,ho]
    refine ij (Paired.jK B2 fun _ _ z=>z.same DA) ?_
    exact j8.rep ⟨u,rfl,b_⟩
   rintro ys σ y6 ⟨v7'',rfl,Dz,I_,B2⟩ cl Fh
   rw[QR,aan] at B2
   have DA:=(gc.refl y6).new (o:=.lst ys) Fh
   have RM:(upd y6 cl (.lst ys)) cl=some (.lst ys):=b_
   generalize upd y6 cl (.lst ys)=Ym at DA RM
   have As:=(JM.trans Dz).trans DA
   refine⟨d,D2,W4,_,_,.ref e0,.ref cl,2,2,pt,by rw[Fl];rfl,Jj.same As,I2,by rw[Fl];exact VV.uE,JL,EH,Jh.symm,JK.symm,by rw[Fm];exact .l ((Dz.trans DA) _ _ Yp) rfl (fun j u d hu _=>by simp at hu),by rw[Fn];exact Rep.mT RM B2 fun _ _ z=>z.same DA,fun H15 O0=>⟨_,rfl,jC ?_⟩⟩
   have Jn:=As.trans O0
   exact⟨_,_,_,D2,rfl,VR.trans Jn,Jn _ _ Dy,Jj.same Jn,BE,Jm⟩
  ·exact⟨_,_,_,D,rfl,s7,Dx,X7,⟨I,dd.sz.mono (by omega),dd.stores,fun x hx=>by obtain⟨j,hj,e⟩:=dd.names x hx;exact⟨j,by omega,e⟩,dd.held⟩,fun x hx=>hx⟩
 rintro σ H8 ⟨v7',v10,v11,D2,rfl,s8,Lu,X8,BE,Jm⟩
 have Yr:=mod_lt (cellAt ns 10) (m:Int) (by omega)
 obtain⟨o0,Oi⟩:∃o0:Nat,cellAt ns 10%(m:Int)=(o0:Int):=⟨_,(abJ Yr.1).symm⟩
 rw[Oi] at Yr
 have VY:=kO (BD (ns:=ns) (j:=o0) (by omega))
 refine⟨_,rfl,_,rfl,a,ns,10,rfl,uG ha s8,by decide,_,rfl,_,_,rfl,rfl,by omega,nl,_,_,_,rfl,rfl,ib.of Lu,gr (j:=o0) Oi VY,?_⟩
 have Ve:nameOf (ko ns 3) o0∈D2.names:=Jm _ (VP o0 (by omega))
 have Ys:=BE.new 6 (TU _) (by omega)
 have VZ:=mS (ko ns 3) (6:Nat)
 have RS:=kO (BD (ns:=ns) (j:=6) (by omega))
 have I2:=BE.inv
 have Ao:st∈D2.stores:=by rw[BE.stores];simp
 have JL:=BE.sz.small (by omega)
 obtain⟨π8,y8⟩:=id X8
 have Yt:=BE.held _ Ve
 have gxo:=mS (ko ns 3) (o0:Nat)
 refine⟨_,rfl,d,π8.dx,_,rfl,y8.hd,KQ,_,rfl,_,rfl,nl,_,_,_,rfl,rfl,ib.of Lu,gr (j:=6) rfl RS,_,rfl,d,D2,W4,st,_,_,rfl,X8,I2,JL.many,Ov.uE,VZ.uE,gxo.uE,fun h=>absurd Ao h,fun _ h=>absurd VZ h,fun _ _ h=>absurd h Ys,fun _ _ _ h=>absurd Yt h,fun _ _ _ _ H9 X9 w9=>⟨_,rfl,oM (by rfl) ?_⟩⟩
 have I3:=I2.back (x:=nameOf (ko ns 3) (6:Nat)) Ao Ys Yt
 have z3:=BE.sz.keep st (p:=⟨nameOf (ko ns 3) (6:Nat),none,[],[],some (nameOf (ko ns 3) o0)⟩) (aaE _) (aaE _)
 have V0:=z3.small (by omega)
 have Oz:(⟨nameOf (ko ns 3) (6:Nat),none,[],[],some (nameOf (ko ns 3) o0)⟩:Pt)∈(D2.keep st ⟨nameOf (ko ns 3) (6:Nat),none,[],[],some (nameOf (ko ns 3) o0)⟩).made:=by
  show _∈D2.made++[_]
  simp
 have Fl:(⟨nameOf (ko ns 3) (6:Nat),none,[],[],some (nameOf (ko ns 3) o0)⟩:Pt).nm=nameOf (ko ns 3) (6:Nat):=rfl
 have Jh:oV (⟨nameOf (ko ns 3) (6:Nat),none,[],[],some (nameOf (ko ns 3) o0)⟩:Pt).file=.iP:=rfl
 have JK:oV (⟨nameOf (ko ns 3) (6:Nat),none,[],[],some (nameOf (ko ns 3) o0)⟩:Pt).other=.str (nameOf (ko ns 3) o0):=rfl
 have Fm:(⟨nameOf (ko ns 3) (6:Nat),none,[],[],some (nameOf (ko ns 3) o0)⟩:Pt).ik=[]:=rfl
 have Fn:(⟨nameOf (ko ns 3) (6:Nat),none,[],[],some (nameOf (ko ns 3) o0)⟩:Pt).iV=[]:=rfl
 generalize (⟨nameOf (ko ns 3) (6:Nat),none,[],[],some (nameOf (ko ns 3) o0)⟩:Pt)=pt at X9 I3 z3 V0 Oz Fl Jh JK Fm Fn
 generalize D2.keep st pt=D3 at X9 I3 z3 V0 Oz
 have V1:=w9 _ _ Lu (X8.lst Lu)
 refine⟨_,rfl,_,rfl,nl,_,_,_,rfl,rfl,ib.of V1,gr (j:=6) rfl RS,L2.kq,fun e0 VX=>⟨L2.kq,fun e1 S4=>?_⟩⟩
 have Fp:=(gc.refl H9).new (o:=.lst []) VX
 have Oy:(upd H9 e0 (.lst [])) e0=some (.lst []):=b_
 generalize upd H9 e0 (.lst [])=Jf at Fp Oy S4
 have GU:=(gc.refl Jf).new (o:=.lst []) S4
 have RP:(upd Jf e1 (.lst [])) e1=some (.lst []):=b_
 generalize upd Jf e1 (.lst [])=OZ at GU RP
 exact⟨_,rfl,d,D3,W4,_,_,.ref e0,.ref e1,2,2,pt,by rw[Fl];rfl,X9.same (Fp.trans GU),I3,by rw[Fl];exact VZ.uE,V0,Oz,Jh.symm,JK.symm,by rw[Fm];exact .l (GU _ _ Oy) rfl (fun j u d hu _=>by simp at hu),by rw[Fn];exact .l RP rfl (fun j u d hu _=>by simp at hu),fun RL JM=>q RL⟩
end
end PK
namespace TW
open PySem PySem.W L2 PK
noncomputable section
noncomputable abbrev S:=Str.ofString
noncomputable abbrev ob:=Obj.mk
noncomputable abbrev v(x:String)(t:Nat):Value:=.str (S x) t
noncomputable abbrev r:=Value.ref
noncomputable abbrev vi:=Value.int
noncomputable abbrev i(n:Int):=Value.int n 0
noncomputable abbrev vn:=Value.none
noncomputable abbrev w:=Value.type
noncomputable abbrev b:=Value.builtin
noncomputable abbrev vl:=Value.bool
noncomputable abbrev cl:=ClassData.mk
noncomputable abbrev k:=@some Value
noncomputable abbrev d(P:Params)(x:String)(t:Nat)(y:Value):DictEntry:=.mk (PyData.keyHash P (S x)) (v x t) y
noncomputable abbrev x:=top
noncomputable abbrev y(i j:Nat):=inClass (top i) j
noncomputable abbrev n:=BT.node
noncomputable abbrev z:=BT.nil
noncomputable abbrev f(o:Obj):BT:=n o z z
noncomputable abbrev of(c:String)(l:List Value):Obj:=ob (w c) none (.fields l.toArray) #[]
noncomputable abbrev tp(l:List Value):Obj:=ob (w "tuple") none (.seq l.toArray 0) #[]
noncomputable abbrev fl(l:List Value):Obj:=ob vn none (.fields l.toArray) #[]
noncomputable abbrev l3(l:List (Int×Int×Addr)):Obj:=fl (l.flatMap fun(a,b,c)=>[i a,i b,r c])
noncomputable abbrev fd(n q:Str)(st:Stmt)(g:Addr)(c:List (Str×Addr))(d kd doc pm:Value)(an:Option Addr)(co ct:Value)(b:Addr):FuncData:=⟨n,q,nU st,.stmts (kL st),fW st,g,c,d,kd,doc,pm,an,co,ct,b⟩
noncomputable abbrev fn(a b:String)(st:Stmt)(m:String)(t:Nat)(c:Addr):Obj:=ob (w "function") none (.func (fd (S a) (S b) st 3 [] vn vn vn (v m t) none (r c) vn 0)) #[]
noncomputable abbrev fv(a b:String)(st:Stmt):Obj:=ob vn none (.func (fd (S a) (S b) st 0 [] vn vn vn vn none vn vn 0)) #[]
noncomputable abbrev dt(l:List DictEntry)(c:Nat):Obj:=ob (w "dict") none (.dict l.toArray c) #[]
noncomputable abbrev fr(l:List (Option Value)):Obj:=ob (w "frame") none .plain l.toArray
noncomputable abbrev ty(c:ClassData)(l:List (Option Value)):Obj:=ob (w "type") none (.cls c) l.toArray
noncomputable abbrev o0:Addr→Value|0=>vn|a+1=>r (a+1)
noncomputable abbrev co(a b:String)(t:Nat)(l p q:Int)(c:Addr)(g:Int)(ys:List Addr)(u:Nat):Obj:=of "code" ([v a t,v b (t+1),v "/claim/cut.py" (t+2),i l,i p,i 0,i 0,i q,r c,vl true,i g]++ys.map o0++[i u,i l,v "/claim/cut.py" (u+1)])
noncomputable def gN(P:Params):List DictEntry:=[(d P "__doc__" 166 vn),(d P "__package__" 167 vn),(d P "__loader__" 168 (b "__main__.__loader__#opaque")),(d P "__spec__" 169 vn),(d P "__annotations__" 170 (r 6)),(d P "__builtins__" 171 (r 4)),(d P "__file__" 173 (v "/claim/cut.py" 172)),(d P "__cached__" 174 vn),(d P "_wall" 193 (r 21)),(d P "counts_with" 206 (r 28)),(d P "most_pairs" 212 (r 33)),(d P "place_from" 222 (r 40)),(d P "kept" 235 (r 47)),(d P "PatchError" 255 (r 57))]
def gO(P:Params):List DictEntry:=gN P++[(d P "BadName" 271 (r 70))]
def gP(P:Params):List DictEntry:=gO P++[(d P "NameTaken" 287 (r 82))]
def gQ(P:Params):List DictEntry:=gP P++[(d P "NoStore" 303 (r 94))]
def gR(P:Params):List DictEntry:=gQ P++[(d P "NoPatch" 319 (r 106))]
def gS(P:Params):List DictEntry:=gR P++[(d P "NoLine" 335 (r 118))]
def gT(P:Params):List DictEntry:=gS P++[(d P "Unsettled" 351 (r 130))]
def gU(P:Params):List DictEntry:=gT P++[(d P "Same" 367 (r 142))]
def gV(P:Params):List DictEntry:=gU P++[(d P "Line" 404 (r 161))]
def gW(P:Params):List DictEntry:=gV P++[(d P "Patch" 441 (r 182)),(d P "lines_named_by" 447 (r 191)),(d P "leans_straight_on" 453 (r 196)),(d P "live_patches" 463 (r 203)),(d P "lines_put" 473 (r 210)),(d P "standing_lines" 479 (r 215)),(d P "files_with_lines" 485 (r 220))]
def gX(P:Params):List DictEntry:=gW P++[(d P "straight_ahead" 494 (r 227)),(d P "joined" 504 (r 234)),(d P "all_ahead" 510 (r 239)),(d P "first_free" 518 (r 246)),(d P "row_of" 524 (r 251))]
def gY(P:Params):List DictEntry:=gX P++[(d P "Sight" 588 (r 296)),(d P "NAME_SIGNS" 592 (v "abcdefghijklmnopqrstuvwxyz0123456789" 591)),(d P "LONGEST_NAME" 594 (vi 12 593))]
def gZ(P:Params):List DictEntry:=gY P++[(d P "check_name" 602 (r 307)),(d P "check_places" 612 (r 314)),(d P "kept_behind" 622 (r 321)),(d P "new_lines" 636 (r 328)),(d P "changing_patch" 642 (r 333))]
def g0(P:Params):List DictEntry:=gZ P++[(d P "Desk" 848 (r 492))]
def g1(P:Params):List DictEntry:=g0 P++[(d P "_law_cell_at" 858 (r 503)),(d P "_law_name" 872 (r 510)),(d P "_law_text" 878 (r 515)),(d P "_law_edit" 892 (r 522)),(d P "_law_whole" 899 (r 529)),(d P "_law_row_form" 907 (r 536)),(d P "_law_line_is" 915 (r 543)),(d P "_law_told_is" 928 (r 550)),(d P "_law_twice" 941 (r 557)),(d P "_law_puts" 947 (r 562)),(d P "law" 953 (r 567))]
def aa:Obj:=tp []
def ab:Obj:=fl []
def ac:Obj:=of "builtin_function_or_method" [(b "type.__prepare__"),(w "type")]
def ad:Obj:=tp [(r 57)]
def ae:Obj:=of "code" [(v "<module>" 182),(v "<module>" 183),(v "/claim/cut.py" 184),(i 1),(i 0),(i 0),(i 0),(i 0),(r 11),(vl false),(i 181),(r 12),vn,vn,vn,vn,(i 185),(i 1),(v "/claim/cut.py" 186)]
def af:Obj:=fr [(k (r 13)),(k (r 3)),(k (r 3)),none,(k (v "__main__" 164)),none,(k (r 0))]
noncomputable def ag:Obj:=fn "kept" "kept" (x 5) "patchkin.differ" 194 46
def ah:Obj:=co "place_from" "place_from" 213 18 3 3 34 181 [35,0,36,37,38] 220
def ai:Obj:=co "counts_with" "counts_with" 196 5 3 3 22 181 [23,0,24,25,26] 204
noncomputable def aj:Obj:=tp [(v "old" 226),(v "new" 227),(v "table" 228),(v "pairs" 229),(v "start" 230),(v "first" 231),(v "second" 232)]
def ak:Obj:=tp [(v "k" 190)]
def al:Obj:=fn "most_pairs" "most_pairs" (x 3) "patchkin.differ" 194 32
def am:Obj:=fn "_wall" "_wall" (x 0) "__main__" 164 20
def an:Obj:=co "most_pairs" "most_pairs" 207 13 2 3 29 181 [30,0,0,0,31] 210
def ao:Obj:=tp [(w "ValueError")]
def ap:Obj:=tp [(v "text" 199),(v "new" 200),(v "below" 201),(v "counts" 202),(v "second" 203)]
def aq:Obj:=fn "place_from" "place_from" (x 4) "patchkin.differ" 194 39
def ar(P:Params):Obj:=dt [(d P "__module__" 245 (v "patchkin.errors" 236)),(d P "__firstlineno__" 249 (vi 34 248)),(d P "__static_attributes__" 250 (r 55)),(d P "__weakref__" 252 (r 58)),(d P "__doc__" 253 vn)] 3
def au:Obj:=co "_wall" "_wall" 187 1 1 3 15 181 [16,0,17,18,19] 191
noncomputable def av:Obj:=tp [(v "texts" 216),(v "text" 217),(v "start" 218),(v "place" 219)]
def aw:Obj:=fn "counts_with" "counts_with" (x 2) "patchkin.differ" 194 27
def ax:Obj:=of "getset_descriptor" [(v "__weakref__" 251),(r 57),(b "ExceptionGroup.__weakref__"),vn]
noncomputable def ay:Obj:=co "kept" "kept" 223 23 2 3 41 181 [42,0,43,44,45] 233
def az:Obj:=fv "most_pairs" "most_pairs" (x 3)
def aA:Obj:=fv "_wall" "_wall" (x 0)
def aB:Obj:=of "super" [(r 57),(r 57),(r 57)]
def aC(P:Params):Obj:=dt [(d P "__module__" 263 (v "patchkin.errors" 236)),(d P "__firstlineno__" 267 (vi 36 266)),(d P "__static_attributes__" 268 (r 68)),(d P "__doc__" 269 vn)] 2
def aD:Obj:=of "code" [(v "PatchError" 240),(v "PatchError" 241),(v "/claim/cut.py" 242),(i 34),(i 0),(i 0),(i 0),(i 0),(r 51),(vl false),(i 181),(r 52),vn,vn,vn,vn,(i 243),(i 34),(v "/claim/cut.py" 244)]
noncomputable def aE:Obj:=fv "kept" "kept" (x 5)
def aF:Obj:=of "builtin_function_or_method" [(b "object.__init_subclass__"),(r 57)]
def aG(P:Params):Obj:=dt [(d P "__module__" 245 (v "patchkin.errors" 236)),(d P "__qualname__" 247 (v "PatchError" 246)),(d P "__firstlineno__" 249 (vi 34 248)),(d P "__static_attributes__" 250 (r 55))] 4
def aH:Obj:=fv "counts_with" "counts_with" (x 2)
def aI:Obj:=fv "place_from" "place_from" (x 4)
def aJ:Obj:=ty (cl (S "BadName") [(r 57)] [(r 70),(r 57),(w "ValueError"),(w "Exception"),(w "BaseException"),(w "object")] 69 (S "BadName") true [] [] false none false) [(k (r 61)),none,(k (v "BadName" 256)),(k (v "BadName" 264)),(k (b "ValueError.__new__")),(k (vl true))]
def aK:Obj:=fr [(k (r 53)),(k (r 3)),(k (r 50)),none,(k (v "patchkin.errors" 236)),none,(k (r 0))]
def aL(P:Params):Obj:=dt [(d P "__module__" 263 (v "patchkin.errors" 236)),(d P "__qualname__" 265 (v "BadName" 264)),(d P "__firstlineno__" 267 (vi 36 266)),(d P "__static_attributes__" 268 (r 68))] 4
def aM:Obj:=of "super" [(r 70),(r 70),(r 70)]
def aN:Obj:=fr [(k (r 66)),(k (r 3)),(k (r 63)),none,(k (v "patchkin.errors" 236)),none,(k (r 0))]
def aO(P:Params):Obj:=dt [(d P "__module__" 279 (v "patchkin.errors" 236)),(d P "__firstlineno__" 283 (vi 38 282)),(d P "__static_attributes__" 284 (r 80)),(d P "__doc__" 285 vn)] 2
def aP:Obj:=of "builtin_function_or_method" [(b "object.__init_subclass__"),(r 70)]
def aQ:Obj:=of "code" [(v "BadName" 258),(v "BadName" 259),(v "/claim/cut.py" 260),(i 36),(i 0),(i 0),(i 0),(i 0),(r 64),(vl false),(i 181),(r 65),vn,vn,vn,vn,(i 261),(i 36),(v "/claim/cut.py" 262)]
def aR:Obj:=ty (cl (S "NameTaken") [(r 57)] [(r 82),(r 57),(w "ValueError"),(w "Exception"),(w "BaseException"),(w "object")] 81 (S "NameTaken") true [] [] false none false) [(k (r 73)),none,(k (v "NameTaken" 272)),(k (v "NameTaken" 280)),(k (b "ValueError.__new__")),(k (vl true))]
def aS:Obj:=fr [(k (r 78)),(k (r 3)),(k (r 75)),none,(k (v "patchkin.errors" 236)),none,(k (r 0))]
def aT:Obj:=of "super" [(r 82),(r 82),(r 82)]
def aU(P:Params):Obj:=dt [(d P "__module__" 279 (v "patchkin.errors" 236)),(d P "__qualname__" 281 (v "NameTaken" 280)),(d P "__firstlineno__" 283 (vi 38 282)),(d P "__static_attributes__" 284 (r 80))] 4
def aV(P:Params):Obj:=dt [(d P "__module__" 295 (v "patchkin.errors" 236)),(d P "__firstlineno__" 299 (vi 40 298)),(d P "__static_attributes__" 300 (r 92)),(d P "__doc__" 301 vn)] 2
def aW:Obj:=of "builtin_function_or_method" [(b "object.__init_subclass__"),(r 82)]
def aX:Obj:=of "code" [(v "NameTaken" 274),(v "NameTaken" 275),(v "/claim/cut.py" 276),(i 38),(i 0),(i 0),(i 0),(i 0),(r 76),(vl false),(i 181),(r 77),vn,vn,vn,vn,(i 277),(i 38),(v "/claim/cut.py" 278)]
def aY:Obj:=ty (cl (S "NoStore") [(r 57)] [(r 94),(r 57),(w "ValueError"),(w "Exception"),(w "BaseException"),(w "object")] 93 (S "NoStore") true [] [] false none false) [(k (r 85)),none,(k (v "NoStore" 288)),(k (v "NoStore" 296)),(k (b "ValueError.__new__")),(k (vl true))]
def aZ:Obj:=of "super" [(r 94),(r 94),(r 94)]
def a0(P:Params):Obj:=dt [(d P "__module__" 295 (v "patchkin.errors" 236)),(d P "__qualname__" 297 (v "NoStore" 296)),(d P "__firstlineno__" 299 (vi 40 298)),(d P "__static_attributes__" 300 (r 92))] 4
def a1:Obj:=fr [(k (r 90)),(k (r 3)),(k (r 87)),none,(k (v "patchkin.errors" 236)),none,(k (r 0))]
def a2(P:Params):Obj:=dt [(d P "__module__" 311 (v "patchkin.errors" 236)),(d P "__firstlineno__" 315 (vi 42 314)),(d P "__static_attributes__" 316 (r 104)),(d P "__doc__" 317 vn)] 2
def a3:Obj:=of "builtin_function_or_method" [(b "object.__init_subclass__"),(r 94)]
def a4:Obj:=ty (cl (S "NoPatch") [(r 57)] [(r 106),(r 57),(w "ValueError"),(w "Exception"),(w "BaseException"),(w "object")] 105 (S "NoPatch") true [] [] false none false) [(k (r 97)),none,(k (v "NoPatch" 304)),(k (v "NoPatch" 312)),(k (b "ValueError.__new__")),(k (vl true))]
def a5:Obj:=of "code" [(v "NoStore" 290),(v "NoStore" 291),(v "/claim/cut.py" 292),(i 40),(i 0),(i 0),(i 0),(i 0),(r 88),(vl false),(i 181),(r 89),vn,vn,vn,vn,(i 293),(i 40),(v "/claim/cut.py" 294)]
def a6:Obj:=fr [(k (r 102)),(k (r 3)),(k (r 99)),none,(k (v "patchkin.errors" 236)),none,(k (r 0))]
def a7(P:Params):Obj:=dt [(d P "__module__" 311 (v "patchkin.errors" 236)),(d P "__qualname__" 313 (v "NoPatch" 312)),(d P "__firstlineno__" 315 (vi 42 314)),(d P "__static_attributes__" 316 (r 104))] 4
def a8:Obj:=of "super" [(r 106),(r 106),(r 106)]
def a9(P:Params):Obj:=dt [(d P "__module__" 327 (v "patchkin.errors" 236)),(d P "__firstlineno__" 331 (vi 44 330)),(d P "__static_attributes__" 332 (r 116)),(d P "__doc__" 333 vn)] 2
def ba:Obj:=of "builtin_function_or_method" [(b "object.__init_subclass__"),(r 106)]
def bb:Obj:=of "code" [(v "NoPatch" 306),(v "NoPatch" 307),(v "/claim/cut.py" 308),(i 42),(i 0),(i 0),(i 0),(i 0),(r 100),(vl false),(i 181),(r 101),vn,vn,vn,vn,(i 309),(i 42),(v "/claim/cut.py" 310)]
def bc:Obj:=ty (cl (S "NoLine") [(r 57)] [(r 118),(r 57),(w "ValueError"),(w "Exception"),(w "BaseException"),(w "object")] 117 (S "NoLine") true [] [] false none false) [(k (r 109)),none,(k (v "NoLine" 320)),(k (v "NoLine" 328)),(k (b "ValueError.__new__")),(k (vl true))]
def bd(P:Params):Obj:=dt [(d P "__module__" 327 (v "patchkin.errors" 236)),(d P "__qualname__" 329 (v "NoLine" 328)),(d P "__firstlineno__" 331 (vi 44 330)),(d P "__static_attributes__" 332 (r 116))] 4
def be:Obj:=of "super" [(r 118),(r 118),(r 118)]
def bf:Obj:=fr [(k (r 114)),(k (r 3)),(k (r 111)),none,(k (v "patchkin.errors" 236)),none,(k (r 0))]
def bg(P:Params):Obj:=dt [(d P "__module__" 343 (v "patchkin.errors" 236)),(d P "__firstlineno__" 347 (vi 46 346)),(d P "__static_attributes__" 348 (r 128)),(d P "__doc__" 349 vn)] 2
def bh:Obj:=of "builtin_function_or_method" [(b "object.__init_subclass__"),(r 118)]
def bi:Obj:=ty (cl (S "Unsettled") [(r 57)] [(r 130),(r 57),(w "ValueError"),(w "Exception"),(w "BaseException"),(w "object")] 129 (S "Unsettled") true [] [] false none false) [(k (r 121)),none,(k (v "Unsettled" 336)),(k (v "Unsettled" 344)),(k (b "ValueError.__new__")),(k (vl true))]
def bj:Obj:=of "code" [(v "NoLine" 322),(v "NoLine" 323),(v "/claim/cut.py" 324),(i 44),(i 0),(i 0),(i 0),(i 0),(r 112),(vl false),(i 181),(r 113),vn,vn,vn,vn,(i 325),(i 44),(v "/claim/cut.py" 326)]
def bk:Obj:=fr [(k (r 126)),(k (r 3)),(k (r 123)),none,(k (v "patchkin.errors" 236)),none,(k (r 0))]
def bl:Obj:=of "super" [(r 130),(r 130),(r 130)]
def bm(P:Params):Obj:=dt [(d P "__module__" 343 (v "patchkin.errors" 236)),(d P "__qualname__" 345 (v "Unsettled" 344)),(d P "__firstlineno__" 347 (vi 46 346)),(d P "__static_attributes__" 348 (r 128))] 4
def bn:Obj:=ty (cl (S "PatchError") [(w "ValueError")] [(r 57),(w "ValueError"),(w "Exception"),(w "BaseException"),(w "object")] 56 (S "PatchError") true [] [(r 70),(r 82),(r 94),(r 106),(r 118),(r 130),(r 142)] false none false) [(k (r 48)),none,(k (v "PatchError" 238)),(k (v "PatchError" 246)),(k (b "ValueError.__new__")),(k (vl true))]
def bo(P:Params):Obj:=dt [(d P "__module__" 359 (v "patchkin.errors" 236)),(d P "__firstlineno__" 363 (vi 48 362)),(d P "__static_attributes__" 364 (r 140)),(d P "__doc__" 365 vn)] 2
def bp:Obj:=of "builtin_function_or_method" [(b "object.__init_subclass__"),(r 130)]
def bq:Obj:=ty (cl (S "Same") [(r 57)] [(r 142),(r 57),(w "ValueError"),(w "Exception"),(w "BaseException"),(w "object")] 141 (S "Same") true [] [] false none false) [(k (r 133)),none,(k (v "Same" 352)),(k (v "Same" 360)),(k (b "ValueError.__new__")),(k (vl true))]
def br:Obj:=of "code" [(v "Unsettled" 338),(v "Unsettled" 339),(v "/claim/cut.py" 340),(i 46),(i 0),(i 0),(i 0),(i 0),(r 124),(vl false),(i 181),(r 125),vn,vn,vn,vn,(i 341),(i 46),(v "/claim/cut.py" 342)]
def bs:Obj:=tp [(v "lower_name" 393),(v "name" 394),(v "text" 395),(v "upper_name" 396)]
def bt:Obj:=of "super" [(r 142),(r 142),(r 142)]
def bu(P:Params):Obj:=dt [(d P "__module__" 359 (v "patchkin.errors" 236)),(d P "__qualname__" 361 (v "Same" 360)),(d P "__firstlineno__" 363 (vi 48 362)),(d P "__static_attributes__" 364 (r 140))] 4
def bv:Obj:=of "getset_descriptor" [(v "__weakref__" 400),(r 161),(b "ExceptionGroup.__weakref__"),vn]
def bw:Obj:=fr [(k (r 138)),(k (r 3)),(k (r 135)),none,(k (v "patchkin.errors" 236)),none,(k (r 0))]
def bx:Obj:=ty (cl (S "Line") [(w "object")] [(r 161),(w "object")] 160 (S "Line") true [] [] false none false) [none,none,(k (v "Line" 370)),(k (v "Line" 378)),(k (b "object.__new__")),(k (vl true))]
def bz:Obj:=co "__init__" "Line.__init__" 382 53 5 3 152 181 [153,0,154,155,156] 390
def bA(P:Params):Obj:=dt [(d P "__module__" 377 (v "patchkin.order" 368)),(d P "__firstlineno__" 381 (vi 51 380)),(d P "__init__" 392 (r 158)),(d P "__static_attributes__" 397 (r 159)),(d P "__dict__" 399 (r 162)),(d P "__weakref__" 401 (r 163)),(d P "__doc__" 402 vn)] 4
def bB:Obj:=of "builtin_function_or_method" [(b "object.__init_subclass__"),(r 142)]
def bC:Obj:=of "getset_descriptor" [(v "__dict__" 398),(r 161),(b "function.__dict__"),(b "function.__dict__#set")]
def bD:Obj:=of "code" [(v "Same" 354),(v "Same" 355),(v "/claim/cut.py" 356),(i 48),(i 0),(i 0),(i 0),(i 0),(r 136),(vl false),(i 181),(r 137),vn,vn,vn,vn,(i 357),(i 48),(v "/claim/cut.py" 358)]
def bE:Obj:=tp [(v "self" 385),(v "name" 386),(v "text" 387),(v "upper_name" 388),(v "lower_name" 389)]
def bF:Obj:=fn "__init__" "Line.__init__" (y 16 0) "patchkin.order" 368 157
def bG:Obj:=fn "lines_named_by" "lines_named_by" (x 18) "patchkin.order" 368 190
def bH:Obj:=tp [(v "self" 420),(v "name" 421),(v "file" 422),(v "puts" 423),(v "cuts" 424),(v "other" 425)]
noncomputable def bI:Obj:=tp [(v "patches" 457),(v "taken_back" 458),(v "live" 459),(v "patch" 460)]
def bJ:Obj:=fr [(k (r 150)),(k (r 3)),(k (r 147)),none,(k (v "patchkin.order" 368)),none,(k (r 0))]
def bK:Obj:=fn "standing_lines" "standing_lines" (x 22) "patchkin.order" 368 214
def bL:Obj:=of "getset_descriptor" [(v "__dict__" 435),(r 182),(b "function.__dict__"),(b "function.__dict__#set")]
def bM:Obj:=co "leans_straight_on" "leans_straight_on" 448 72 1 3 192 181 [193,0,0,0,194] 451
def bN(P:Params):Obj:=dt [(d P "__module__" 377 (v "patchkin.order" 368)),(d P "__qualname__" 379 (v "Line" 378)),(d P "__firstlineno__" 381 (vi 51 380)),(d P "__init__" 392 (r 158)),(d P "__static_attributes__" 397 (r 159))] 5
def bO:Obj:=fn "__init__" "Patch.__init__" (y 17 0) "patchkin.order" 368 178
def bP:Obj:=fn "live_patches" "live_patches" (x 20) "patchkin.order" 368 202
def bQ:Obj:=co "files_with_lines" "files_with_lines" 480 99 1 3 216 181 [217,0,0,0,218] 483
def bR:Obj:=co "lines_put" "lines_put" 464 86 2 3 204 181 [205,0,206,207,208] 471
def bS:Obj:=of "builtin_function_or_method" [(b "object.__init_subclass__"),(r 161)]
def bT:Obj:=l3 [(53,4,157)]
def bU(P:Params):Obj:=dt [(d P "__module__" 412 (v "patchkin.order" 368)),(d P "__firstlineno__" 416 (vi 58 415)),(d P "__init__" 428 (r 179)),(d P "__static_attributes__" 434 (r 180)),(d P "__dict__" 436 (r 183)),(d P "__weakref__" 438 (r 184)),(d P "__doc__" 439 vn)] 4
def bV:Obj:=of "getset_descriptor" [(v "__weakref__" 437),(r 182),(b "ExceptionGroup.__weakref__"),vn]
def bW:Obj:=fn "leans_straight_on" "leans_straight_on" (x 19) "patchkin.order" 368 195
def bX:Obj:=of "super" [(r 161),(r 161),(r 161)]
def bY:Obj:=tp [(v "cuts" 429),(v "file" 430),(v "name" 431),(v "other" 432),(v "puts" 433)]
def bZ:Obj:=fv "__init__" "Line.__init__" (y 16 0)
def b0:Obj:=fn "files_with_lines" "files_with_lines" (x 23) "patchkin.order" 368 219
def b1:Obj:=fn "lines_put" "lines_put" (x 21) "patchkin.order" 368 209
def b2:Obj:=co "__init__" "Patch.__init__" 417 60 6 3 173 181 [174,0,175,176,177] 426
def b3:Obj:=co "live_patches" "live_patches" 454 77 1 3 197 181 [198,0,199,200,201] 461
def b4:Obj:=of "code" [(v "Line" 372),(v "Line" 373),(v "/claim/cut.py" 374),(i 51),(i 0),(i 0),(i 0),(i 0),(r 148),(vl false),(i 181),(r 149),vn,vn,vn,vn,(i 375),(i 51),(v "/claim/cut.py" 376)]
def b5:Obj:=co "standing_lines" "standing_lines" 474 92 2 3 211 181 [212,0,0,0,213] 477
def b6:Obj:=ty (cl (S "Patch") [(w "object")] [(r 182),(w "object")] 181 (S "Patch") true [] [] false none false) [none,none,(k (v "Patch" 405)),(k (v "Patch" 413)),(k (b "object.__new__")),(k (vl true))]
def b7:Obj:=tp [(v "patches" 467),(v "file" 468),(v "lines" 469),(v "patch" 470)]
def b8:Obj:=co "lines_named_by" "lines_named_by" 442 66 1 3 187 181 [188,0,0,0,189] 445
def b9:Obj:=tp [(v "lines" 489),(v "straight" 490),(v "line" 491)]
def ca:Obj:=fn "all_ahead" "all_ahead" (x 26) "patchkin.order" 368 238
def cb:Obj:=fn "straight_ahead" "straight_ahead" (x 24) "patchkin.order" 368 226
def cc:Obj:=of "code" [(v "Patch" 407),(v "Patch" 408),(v "/claim/cut.py" 409),(i 58),(i 0),(i 0),(i 0),(i 0),(r 169),(vl false),(i 181),(r 170),vn,vn,vn,vn,(i 410),(i 58),(v "/claim/cut.py" 411)]
def cd:Obj:=fn "row_of" "row_of" (x 28) "patchkin.order" 368 250
def ce:Obj:=fv "__init__" "Patch.__init__" (y 17 0)
def cf:Obj:=fv "live_patches" "live_patches" (x 20)
def cg:Obj:=co "joined" "joined" 495 112 2 3 228 181 [229,0,230,231,232] 502
def ch:Obj:=of "super" [(r 182),(r 182),(r 182)]
def ci:Obj:=fv "standing_lines" "standing_lines" (x 22)
def cj:Obj:=co "first_free" "first_free" 511 134 1 3 240 181 [241,0,242,243,244] 516
def ck:Obj:=fv "lines_named_by" "lines_named_by" (x 18)
def cm:Obj:=fv "lines_put" "lines_put" (x 21)
def cn(P:Params):Obj:=dt [(d P "__module__" 412 (v "patchkin.order" 368)),(d P "__qualname__" 414 (v "Patch" 413)),(d P "__firstlineno__" 416 (vi 58 415)),(d P "__init__" 428 (r 179)),(d P "__static_attributes__" 434 (r 180))] 5
def cp:Obj:=fr [(k (r 171)),(k (r 3)),(k (r 168)),none,(k (v "patchkin.order" 368)),none,(k (r 0))]
def cq:Obj:=fv "leans_straight_on" "leans_straight_on" (x 19)
def cr:Obj:=co "straight_ahead" "straight_ahead" 486 102 1 3 221 181 [222,0,223,224,225] 492
def cs:Obj:=tp [(v "waiting" 514),(v "name" 515)]
def ct:Obj:=l3 [(60,4,178)]
def cu:Obj:=fn "joined" "joined" (x 25) "patchkin.order" 368 233
def cv:Obj:=fv "files_with_lines" "files_with_lines" (x 23)
def cw:Obj:=of "builtin_function_or_method" [(b "object.__init_subclass__"),(r 182)]
def cx:Obj:=co "row_of" "row_of" 519 139 2 3 247 181 [248,0,0,0,249] 522
noncomputable def cy:Obj:=tp [(v "names" 498),(v "ahead" 499),(v "found" 500),(v "name" 501)]
def cz:Obj:=fn "first_free" "first_free" (x 27) "patchkin.order" 368 245
def cA:Obj:=co "all_ahead" "all_ahead" 505 118 1 3 235 181 [236,0,0,0,237] 508
def cB:Obj:=co "is_ahead" "Sight.is_ahead" 546 160 3 3 266 181 [267,0,268,269,270] 552
def cC(P:Params):Obj:=dt [(d P "__module__" 532 (v "patchkin.order" 368)),(d P "__firstlineno__" 536 (vi 154 535)),(d P "__init__" 545 (r 265)),(d P "is_ahead" 554 (r 272)),(d P "quarrelling" 564 (r 279)),(d P "most_from" 571 (r 286)),(d P "staying" 578 (r 293)),(d P "__static_attributes__" 581 (r 294)),(d P "__dict__" 583 (r 297)),(d P "__weakref__" 585 (r 298)),(d P "__doc__" 586 vn)] 4
def cD:Obj:=fn "quarrelling" "Sight.quarrelling" (y 29 2) "patchkin.order" 368 278
def cE:Obj:=tp [(v "self" 558),(v "pairs" 559),(v "first" 560),(v "second" 561)]
def cF:Obj:=tp [(v "self" 575)]
def cG:Obj:=fv "straight_ahead" "straight_ahead" (x 24)
def cH:Obj:=fn "__init__" "Sight.__init__" (y 29 0) "patchkin.order" 368 264
def cI:Obj:=of "getset_descriptor" [(v "__dict__" 582),(r 296),(b "function.__dict__"),(b "function.__dict__#set")]
def cJ:Obj:=fv "row_of" "row_of" (x 28)
def cK:Obj:=tp [(v "self" 540),(v "patches" 541),(v "file" 542)]
def cL:Obj:=fn "staying" "Sight.staying" (y 29 4) "patchkin.order" 368 292
def cM:Obj:=fv "all_ahead" "all_ahead" (x 26)
def cN:Obj:=co "most_from" "Sight.most_from" 565 171 1 3 280 181 [281,0,282,283,284] 569
def cO:Obj:=fn "is_ahead" "Sight.is_ahead" (y 29 1) "patchkin.order" 368 271
def cP:Obj:=co "__init__" "Sight.__init__" 537 156 3 3 259 181 [260,0,261,262,263] 543
def cQ:Obj:=ty (cl (S "Sight") [(w "object")] [(r 296),(w "object")] 295 (S "Sight") true [] [] false none false) [none,none,(k (v "Sight" 525)),(k (v "Sight" 533)),(k (b "object.__new__")),(k (vl true))]
def cR:Obj:=fv "joined" "joined" (x 25)
def cS:Obj:=co "staying" "Sight.staying" 572 174 1 3 287 181 [288,0,289,290,291] 576
def cT:Obj:=fv "first_free" "first_free" (x 27)
def cU:Obj:=tp [(v "self" 549),(v "first" 550),(v "second" 551)]
def cV:Obj:=of "getset_descriptor" [(v "__weakref__" 584),(r 296),(b "ExceptionGroup.__weakref__"),vn]
def cW:Obj:=tp [(v "self" 568)]
def cX:Obj:=tp [(v "ahead" 579),(v "lines" 580)]
def cY:Obj:=co "quarrelling" "Sight.quarrelling" 555 163 1 3 273 181 [274,0,275,276,277] 562
def cZ:Obj:=fn "most_from" "Sight.most_from" (y 29 3) "patchkin.order" 368 285
def c0:Obj:=tp [(v "name" 598),(v "sign" 599)]
def c1:Obj:=fv "__init__" "Sight.__init__" (y 29 0)
def c2:Obj:=co "new_lines" "new_lines" 623 196 3 3 322 181 [323,0,324,325,326] 634
def c3:Obj:=fv "staying" "Sight.staying" (y 29 4)
def c4:Obj:=fn "check_name" "check_name" (x 33) "patchkin.desk" 589 306
def c5:Obj:=of "super" [(r 296),(r 296),(r 296)]
def c6:Obj:=of "code" [(v "Sight" 527),(v "Sight" 528),(v "/claim/cut.py" 529),(i 154),(i 0),(i 0),(i 0),(i 0),(r 255),(vl false),(i 181),(r 256),vn,vn,vn,vn,(i 530),(i 154),(v "/claim/cut.py" 531)]
def c7:Obj:=fn "kept_behind" "kept_behind" (x 35) "patchkin.desk" 589 320
def c8:Obj:=co "check_places" "check_places" 603 185 2 3 308 181 [309,0,310,311,312] 610
def c9:Obj:=fv "quarrelling" "Sight.quarrelling" (y 29 2)
def da:Obj:=fn "changing_patch" "changing_patch" (x 37) "patchkin.desk" 589 332
def db:Obj:=tp [(v "kept_names" 616),(v "size" 617),(v "behind" 618),(v "place" 619)]
def dc:Obj:=l3 [(156,4,264),(160,4,271),(163,4,278),(171,4,285),(174,4,292)]
def df:Obj:=co "kept_behind" "kept_behind" 613 191 2 3 315 181 [316,0,317,318,319] 620
def dg:Obj:=fn "new_lines" "new_lines" (x 36) "patchkin.desk" 589 327
def dh:Obj:=tp [(v "patch" 626),(v "texts" 627),(v "kept_names" 628),(v "behind" 629),(v "lines" 630),(v "upper_name" 631),(v "place" 632),(v "text" 633)]
def di:Obj:=co "changing_patch" "changing_patch" 637 207 4 3 329 181 [330,0,0,0,331] 640
def dj:Obj:=of "builtin_function_or_method" [(b "object.__init_subclass__"),(r 296)]
def dk:Obj:=fv "most_from" "Sight.most_from" (y 29 3)
def dl:Obj:=fr [(k (r 257)),(k (r 3)),(k (r 254)),none,(k (v "patchkin.order" 368)),none,(k (r 0))]
def dm:Obj:=co "check_name" "check_name" 595 179 1 3 301 181 [302,0,303,304,305] 600
def dn:Obj:=fn "check_places" "check_places" (x 34) "patchkin.desk" 589 313
def dp:Obj:=tp [(v "places" 606),(v "size" 607),(v "least" 608),(v "place" 609)]
def dq:Obj:=fv "is_ahead" "Sight.is_ahead" (y 29 1)
def dr(P:Params):Obj:=dt [(d P "__module__" 532 (v "patchkin.order" 368)),(d P "__qualname__" 534 (v "Sight" 533)),(d P "__firstlineno__" 536 (vi 154 535)),(d P "__init__" 545 (r 265)),(d P "is_ahead" 554 (r 272)),(d P "quarrelling" 564 (r 279)),(d P "most_from" 571 (r 286)),(d P "staying" 578 (r 293)),(d P "__static_attributes__" 581 (r 294))] 9
def ds:Obj:=fn "cut" "Desk.cut" (y 38 6) "patchkin.desk" 589 382
def du:Obj:=fv "kept_behind" "kept_behind" (x 35)
def dv:Obj:=co "patches" "Desk.patches" 677 231 1 3 362 181 [363,0,364,365,366] 681
def dw:Obj:=tp [(v "self" 734),(v "patch" 735)]
def dx:Obj:=tp [(v "self" 658)]
def dy:Obj:=co "drop" "Desk.drop" 722 266 3 3 398 181 [399,0,400,401,402] 728
def dz:Obj:=fv "changing_patch" "changing_patch" (x 37)
noncomputable def dA:Obj:=fn "leans" "Desk.leans" (y 38 10) "patchkin.desk" 589 410
def dB:Obj:=fn "__init__" "Desk.__init__" (y 38 0) "patchkin.desk" 589 346
noncomputable def dC:Obj:=co "begin" "Desk.begin" 662 222 2 3 348 181 [349,0,350,351,352] 667
def dD:Obj:=fv "check_name" "check_name" (x 33)
def dE:Obj:=tp [(v "self" 715),(v "store" 716),(v "source" 717),(v "patch" 718)]
def dF:Obj:=fn "stores" "Desk.stores" (y 38 2) "patchkin.desk" 589 360
def dG:Obj:=co "record" "Desk.record" 690 238 5 3 374 181 [375,0,0,0,376] 693
def dH:Obj:=co "back" "Desk.back" 702 257 4 3 384 181 [385,0,386,387,388] 709
def dI:Obj:=tp [(v "self" 673)]
noncomputable def dJ:Obj:=fn "has" "Desk.has" (y 38 4) "patchkin.desk" 589 372
noncomputable def dK:Obj:=fn "take" "Desk.take" (y 38 8) "patchkin.desk" 589 396
def dL:Obj:=tp [(v "self" 725),(v "store" 726),(v "patch" 727)]
def dM:Obj:=fn "patches" "Desk.patches" (y 38 3) "patchkin.desk" 589 367
def dN:Obj:=co "stores" "Desk.stores" 670 228 1 3 355 181 [356,0,357,358,359] 674
def dO:Obj:=fv "check_places" "check_places" (x 34)
def dP:Obj:=fn "drop" "Desk.drop" (y 38 9) "patchkin.desk" 589 403
noncomputable def dQ:Obj:=co "has" "Desk.has" 684 234 2 3 369 181 [370,0,0,0,371] 687
noncomputable def dR:Obj:=co "take" "Desk.take" 712 263 4 3 391 181 [392,0,393,394,395] 719
def dS:Obj:=tp [(v "self" 680)]
def dT:Obj:=tp [(v "self" 705),(v "store" 706),(v "patch" 707),(v "other" 708)]
noncomputable def dU:Obj:=fn "begin" "Desk.begin" (y 38 1) "patchkin.desk" 589 353
noncomputable def dV:Obj:=co "leans" "Desk.leans" 731 269 2 3 405 181 [406,0,407,408,409] 736
def dW:Obj:=co "__init__" "Desk.__init__" 655 217 1 3 341 181 [342,0,343,344,345] 659
def dX:Obj:=fn "record" "Desk.record" (y 38 5) "patchkin.desk" 589 377
def dY:Obj:=fn "back" "Desk.back" (y 38 7) "patchkin.desk" 589 389
def dZ:Obj:=fv "new_lines" "new_lines" (x 36)
def d0:Obj:=tp [(v "self" 665),(v "store" 666)]
def d1:Obj:=co "cut" "Desk.cut" 696 248 5 3 379 181 [380,0,0,0,381] 699
def d2:Obj:=fv "stores" "Desk.stores" (y 38 2)
def d3:Obj:=of "code" [(v "Desk" 645),(v "Desk" 646),(v "/claim/cut.py" 647),(i 215),(i 0),(i 0),(i 0),(i 0),(r 337),(vl false),(i 181),(r 338),vn,vn,vn,vn,(i 648),(i 215),(v "/claim/cut.py" 649)]
noncomputable def d4:Obj:=fv "has" "Desk.has" (y 38 4)
noncomputable def d5:Obj:=fv "take" "Desk.take" (y 38 8)
noncomputable def d6:Obj:=fv "leans" "Desk.leans" (y 38 10)
def d7:Obj:=fv "__init__" "Desk.__init__" (y 38 0)
def d8:Obj:=fv "cut" "Desk.cut" (y 38 6)
noncomputable def d9:Obj:=fv "begin" "Desk.begin" (y 38 1)
def ea:Obj:=fv "record" "Desk.record" (y 38 5)
def eb:Obj:=fv "back" "Desk.back" (y 38 7)
def ec:Obj:=fr [(k (r 339)),(k (r 3)),(k (r 336)),none,(k (v "patchkin.desk" 589)),none,(k (r 0))]
def ed:Obj:=fv "drop" "Desk.drop" (y 38 9)
def ee:Obj:=fv "patches" "Desk.patches" (y 38 3)
def ef:Obj:=fv "told" "Desk.told" (y 38 11)
def eg:Obj:=fn "patches_of" "Desk.patches_of" (y 38 16) "patchkin.desk" 589 446
def eh:Obj:=co "told" "Desk.told" 739 272 2 3 412 181 [413,0,0,0,414] 742
def ei:Obj:=tp [(v "self" 762),(v "store" 763),(v "file" 764)]
def ej:Obj:=fn "files" "Desk.files" (y 38 12) "patchkin.desk" 589 422
def ek:Obj:=tp [(v "self" 811),(v "store" 812),(v "patch" 813)]
def el:Obj:=tp [(v "self" 748),(v "store" 749)]
def em:Obj:=co "check_made" "Desk.check_made" 800 300 2 3 462 181 [463,0,464,465,466] 805
def en:Obj:=fn "quarrels" "Desk.quarrels" (y 38 14) "patchkin.desk" 589 434
def eo:Obj:=co "row" "Desk.row" 753 281 3 3 424 181 [425,0,0,0,426] 756
noncomputable def ep(P:Params):Obj:=dt [(d P "__module__" 650 (v "patchkin.desk" 589)),(d P "__firstlineno__" 654 (vi 215 653)),(d P "__init__" 661 (r 347)),(d P "begin" 669 (r 354)),(d P "stores" 676 (r 361)),(d P "patches" 683 (r 368)),(d P "has" 689 (r 373)),(d P "record" 695 (r 378)),(d P "cut" 701 (r 383)),(d P "back" 711 (r 390)),(d P "take" 721 (r 397)),(d P "drop" 730 (r 404)),(d P "leans" 738 (r 411)),(d P "told" 744 (r 416)),(d P "files" 752 (r 423)),(d P "row" 758 (r 428)),(d P "quarrels" 767 (r 435)),(d P "stay" 776 (r 442)),(d P "patches_of" 782 (r 447)),(d P "sight_of" 791 (r 454)),(d P "check_store" 799 (r 461)),(d P "check_made" 807 (r 468)),(d P "check_held" 816 (r 475)),(d P "check_new" 826 (r 482)),(d P "keep" 837 (r 489)),(d P "__static_attributes__" 841 (r 490)),(d P "__dict__" 843 (r 493)),(d P "__weakref__" 845 (r 494)),(d P "__doc__" 846 vn)] 4
def eq:Obj:=fn "check_held" "Desk.check_held" (y 38 20) "patchkin.desk" 589 474
def er:Obj:=co "check_new" "Desk.check_new" 817 308 3 3 476 181 [477,0,478,479,480] 824
def es:Obj:=tp [(v "self" 795),(v "store" 796)]
noncomputable def et:Obj:=fn "keep" "Desk.keep" (y 38 22) "patchkin.desk" 589 488
def eu:Obj:=co "stay" "Desk.stay" 768 287 3 3 436 181 [437,0,438,439,440] 774
def ev:Obj:=co "sight_of" "Desk.sight_of" 783 293 3 3 448 181 [449,0,450,451,452] 789
def ew:Obj:=tp [(v "self" 830),(v "store" 831),(v "patch" 832),(v "needs" 833),(v "name" 834)]
def ex:Obj:=fn "check_store" "Desk.check_store" (y 38 18) "patchkin.desk" 589 460
def ey:Obj:=of "getset_descriptor" [(v "__dict__" 842),(r 492),(b "function.__dict__"),(b "function.__dict__#set")]
def ez:Obj:=fn "told" "Desk.told" (y 38 11) "patchkin.desk" 589 415
def eA:Obj:=tp [(v "self" 803),(v "patch" 804)]
noncomputable def eB:Obj:=co "keep" "Desk.keep" 827 314 3 3 483 181 [484,0,485,486,487] 835
def eC:Obj:=fn "check_made" "Desk.check_made" (y 38 19) "patchkin.desk" 589 467
def eD:Obj:=co "check_store" "Desk.check_store" 792 296 2 3 455 181 [456,0,457,458,459] 797
def eE:Obj:=fn "row" "Desk.row" (y 38 13) "patchkin.desk" 589 427
def eF:Obj:=ty (cl (S "Desk") [(w "object")] [(r 492),(w "object")] 491 (S "Desk") true [] [] false none false) [none,none,(k (v "Desk" 643)),(k (v "Desk" 651)),(k (b "object.__new__")),(k (vl true))]
def eG:Obj:=tp [(v "self" 786),(v "store" 787),(v "file" 788)]
def eH:Obj:=fn "check_new" "Desk.check_new" (y 38 21) "patchkin.desk" 589 481
def eI:Obj:=co "quarrels" "Desk.quarrels" 759 284 3 3 429 181 [430,0,431,432,433] 765
def eJ:Obj:=tp [(v "held" 838),(v "made" 839),(v "needs" 840)]
def eK:Obj:=co "check_held" "Desk.check_held" 808 304 3 3 469 181 [470,0,471,472,473] 814
def eL:Obj:=fn "stay" "Desk.stay" (y 38 15) "patchkin.desk" 589 441
def eM:Obj:=fn "sight_of" "Desk.sight_of" (y 38 17) "patchkin.desk" 589 453
def eN:Obj:=co "files" "Desk.files" 745 278 2 3 417 181 [418,0,419,420,421] 750
def eO:Obj:=tp [(v "self" 771),(v "store" 772),(v "file" 773)]
def eP:Obj:=of "getset_descriptor" [(v "__weakref__" 844),(r 492),(b "ExceptionGroup.__weakref__"),vn]
def eQ:Obj:=tp [(v "self" 820),(v "patch" 821),(v "files" 822),(v "name" 823)]
def eR:Obj:=co "patches_of" "Desk.patches_of" 777 290 2 3 443 181 [444,0,0,0,445] 780
def eS(P:Params):Obj:=dt ((d P "__name__" 165 (v "law_patchkin_k04_what_a_patch_does" 849))::g1 P) 55
def eT:Obj:=fn "_law_line_is" "_law_line_is" (x 46) "law_patchkin_k04_what_a_patch_does" 849 542
def eU:Obj:=of "super" [(r 492),(r 492),(r 492)]
noncomputable def eV:Obj:=fv "keep" "Desk.keep" (y 38 22)
def eW:Obj:=co "_law_row_form" "_law_row_form" 900 365 1 3 530 181 [531,0,532,533,534] 905
def eX:Obj:=fn "law" "law" (x 50) "law_patchkin_k04_what_a_patch_does" 849 566
def eY:Obj:=fn "_law_cell_at" "_law_cell_at" (x 40) "law_patchkin_k04_what_a_patch_does" 849 502
def eZ:Obj:=fn "_law_text" "_law_text" (x 42) "law_patchkin_k04_what_a_patch_does" 849 514
def e0:Obj:=tp [(v "script" 854),(v "k" 855)]
def e1:Obj:=fv "check_store" "Desk.check_store" (y 38 18)
def e2:Obj:=tp [(v "found" 911),(v "due" 912)]
def e3:Obj:=fn "_law_whole" "_law_whole" (x 44) "law_patchkin_k04_what_a_patch_does" 849 528
def e4:Obj:=co "_law_puts" "_law_puts" 942 404 2 3 558 181 [559,0,0,0,560] 945
def e5:Obj:=fv "quarrels" "Desk.quarrels" (y 38 14)
def e6:Obj:=co "_law_edit" "_law_edit" 879 347 2 3 516 181 [517,0,518,519,520] 890
def e7:Obj:=tp [(v "desk" 932),(v "name" 933),(v "file" 934),(v "puts" 935),(v "cuts" 936),(v "other" 937),(v "found" 938)]
def e8:Obj:=fv "check_held" "Desk.check_held" (y 38 20)
def e9:Obj:=co "_law_told_is" "_law_told_is" 916 380 5 3 544 181 [545,0,546,547,548] 926
def fa:Obj:=fv "files" "Desk.files" (y 38 12)
def fb:Obj:=tp [(v "found" 896)]
def fc:Obj:=fn "_law_twice" "_law_twice" (x 48) "law_patchkin_k04_what_a_patch_does" 849 556
def fe:Obj:=fv "patches_of" "Desk.patches_of" (y 38 16)
def ff:Obj:=co "_law_name" "_law_name" 859 327 2 3 504 181 [505,0,506,507,508] 870
def fg:Obj:=fv "check_new" "Desk.check_new" (y 38 21)
def fh:Obj:=co "_law_whole" "_law_whole" 893 363 1 3 523 181 [524,0,525,526,527] 897
noncomputable def fi(P:Params):Obj:=dt [(d P "__module__" 650 (v "patchkin.desk" 589)),(d P "__qualname__" 652 (v "Desk" 651)),(d P "__firstlineno__" 654 (vi 215 653)),(d P "__init__" 661 (r 347)),(d P "begin" 669 (r 354)),(d P "stores" 676 (r 361)),(d P "patches" 683 (r 368)),(d P "has" 689 (r 373)),(d P "record" 695 (r 378)),(d P "cut" 701 (r 383)),(d P "back" 711 (r 390)),(d P "take" 721 (r 397)),(d P "drop" 730 (r 404)),(d P "leans" 738 (r 411)),(d P "told" 744 (r 416)),(d P "files" 752 (r 423)),(d P "row" 758 (r 428)),(d P "quarrels" 767 (r 435)),(d P "stay" 776 (r 442)),(d P "patches_of" 782 (r 447)),(d P "sight_of" 791 (r 454)),(d P "check_store" 799 (r 461)),(d P "check_made" 807 (r 468)),(d P "check_held" 816 (r 475)),(d P "check_new" 826 (r 482)),(d P "keep" 837 (r 489)),(d P "__static_attributes__" 841 (r 490))] 27
def fj:Obj:=of "builtin_function_or_method" [(b "object.__init_subclass__"),(r 492)]
def fk:Obj:=fn "_law_row_form" "_law_row_form" (x 45) "law_patchkin_k04_what_a_patch_does" 849 535
def fm:Obj:=fv "stay" "Desk.stay" (y 38 15)
def fo:Obj:=fv "sight_of" "Desk.sight_of" (y 38 17)
def fp:Obj:=tp [(v "row" 903),(v "line" 904)]
def fq:Obj:=co "_law_twice" "_law_twice" 929 397 6 3 551 181 [552,0,553,554,555] 939
def fs:Obj:=co "_law_text" "_law_text" 873 339 1 3 511 181 [512,0,0,0,513] 876
def ft:Obj:=tp [(v "found" 919),(v "file" 920),(v "puts" 921),(v "cuts" 922),(v "other" 923),(v "k" 924),(v "one" 925)]
def fu:Obj:=l3 [(217,4,346),(222,4,353),(228,4,360),(231,4,367),(234,4,372),(238,4,377),(248,4,382),(257,4,389),(263,4,396),(266,4,403),(269,4,410),(272,4,415),(278,4,422),(281,4,427),(284,4,434),(287,4,441),(290,4,446),(293,4,453),(296,4,460),(300,4,467),(304,4,474),(308,4,481),(314,4,488)]
def fw:Obj:=fv "check_made" "Desk.check_made" (y 38 19)
def fx:Obj:=fn "_law_puts" "_law_puts" (x 49) "law_patchkin_k04_what_a_patch_does" 849 561
def fy:Obj:=fn "_law_edit" "_law_edit" (x 43) "law_patchkin_k04_what_a_patch_does" 849 521
def fz:Obj:=fv "row" "Desk.row" (y 38 13)
def fA:Obj:=tp [(v "cell" 862),(v "k" 863),(v "signs" 864),(v "size" 865),(v "base" 866),(v "far" 867),(v "found" 868),(v "j" 869)]
def fB:Obj:=tp [(v "texts" 882),(v "cell" 883),(v "at" 884),(v "line" 885),(v "more" 886),(v "way" 887),(v "out" 888),(v "turned" 889)]
def fC:Obj:=fn "_law_told_is" "_law_told_is" (x 47) "law_patchkin_k04_what_a_patch_does" 849 549
def fD:Obj:=co "law" "law" 948 414 1 3 563 181 [564,0,0,0,565] 951
def fE:Obj:=co "_law_cell_at" "_law_cell_at" 851 323 2 3 497 181 [498,0,499,500,501] 856
def fF:Obj:=co "_law_line_is" "_law_line_is" 908 374 2 3 537 181 [538,0,539,540,541] 913
def fG:Obj:=fn "_law_name" "_law_name" (x 41) "law_patchkin_k04_what_a_patch_does" 849 509
def fH(P:Params):Obj:=dt ((d P "__name__" 165 (v "patchkin.desk" 589))::gZ P) 43
def fI:Obj:=l3 [(1,0,20),(5,0,27),(13,0,32),(18,0,39),(23,0,46),(34,0,53),(36,0,66),(38,0,78),(40,0,90),(42,0,102),(44,0,114),(46,0,126),(48,0,138),(51,0,150),(58,0,171),(66,0,190),(72,0,195),(77,0,202),(86,0,209),(92,0,214),(99,0,219),(102,0,226),(112,0,233),(118,0,238),(134,0,245),(139,0,250),(154,0,257),(179,0,306),(185,0,313),(191,0,320),(196,0,327),(207,0,332),(215,0,339)]
def fJ:Obj:=fv "_law_whole" "_law_whole" (x 44)
def fK:Obj:=fv "_law_twice" "_law_twice" (x 48)
def fL:Obj:=fv "_law_text" "_law_text" (x 42)
def fN:Obj:=fv "_law_cell_at" "_law_cell_at" (x 40)
def fO:Obj:=fv "_law_line_is" "_law_line_is" (x 46)
def fP:Obj:=fv "_law_puts" "_law_puts" (x 49)
def fQ:Obj:=fv "_law_edit" "_law_edit" (x 43)
def fR:Obj:=l3 [(1,0,20),(5,0,27),(13,0,32),(18,0,39),(23,0,46),(34,0,53),(36,0,66),(38,0,78),(40,0,90),(42,0,102),(44,0,114),(46,0,126),(48,0,138),(51,0,150),(58,0,171),(66,0,190),(72,0,195),(77,0,202),(86,0,209),(92,0,214),(99,0,219),(102,0,226),(112,0,233),(118,0,238),(134,0,245),(139,0,250),(154,0,257),(179,0,306),(185,0,313),(191,0,320),(196,0,327),(207,0,332),(215,0,339),(323,0,502),(327,0,509),(339,0,514),(347,0,521),(363,0,528),(365,0,535),(374,0,542),(380,0,549),(397,0,556),(404,0,561),(414,0,566)]
def fS:Obj:=fv "_law_told_is" "_law_told_is" (x 47)
def fT:Obj:=fv "_law_name" "_law_name" (x 41)
def fU:Obj:=fv "_law_row_form" "_law_row_form" (x 45)
def fX(P:Params):Obj:=dt ((d P "__name__" 165 (v "patchkin.order" 368))::gV P) 23
def fZ(P:Params):Obj:=dt ((d P "__name__" 165 (v "patchkin.errors" 236))::gS P) 20
def f2(P:Params):Obj:=dt ((d P "__name__" 165 (v "patchkin.errors" 236))::gQ P) 18
def f5(P:Params):Obj:=dt ((d P "__name__" 165 (v "patchkin.errors" 236))::gN P) 15
def f9(P:Params):Obj:=dt ((d P "__name__" 165 (v "patchkin.order" 368))::gU P) 22
def gb(P:Params):Obj:=dt ((d P "__name__" 165 (v "patchkin.errors" 236))::gP P) 17
def ge(P:Params):Obj:=dt ((d P "__name__" 165 (v "patchkin.errors" 236))::gO P) 16
def gh(P:Params):Obj:=dt ((d P "__name__" 165 (v "patchkin.errors" 236))::gT P) 21
def gk(P:Params):Obj:=dt ((d P "__name__" 165 (v "patchkin.errors" 236))::gR P) 19
def gn(P:Params):Obj:=dt ((d P "__name__" 165 (v "patchkin.desk" 589))::g0 P) 44
def go(P:Params):Obj:=dt ((d P "__name__" 165 (v "patchkin.order" 368))::gW P) 30
def gq(P:Params):Obj:=dt ((d P "__name__" 165 (v "patchkin.order" 368))::gX P) 35
def gs(P:Params):Obj:=dt ((d P "__name__" 165 (v "patchkin.desk" 589))::gY P) 38
def gu:BT:=n aa (f ab) z
def gv:BT:=n aa (f aa) z
def gw:BT:=n aa (f aa) (f aa)
def gx:BT:=n ab (f aa) z
def gy:BT:=n ab (f ab) z
def gz(P:Params):BT:=n am (n aa (f (aC P)) (f ab)) (n aD (f ad) (f (a9 P)))
def gA:BT:=n aw (n aa (f aa) (f ba)) (n aF (f aa) z)
def gB:BT:=n aH (n ab (f ac) (f a4)) (n ax (f a5) z)
def gC:BT:=n aa (n aI (f aJ) (f bb)) (n aK (f ac) (f bc))
def gD:BT:=n aA (n ab (f aN) z) (n aa (f aT) z)
def gE:BT:=n ab (n an (f aa) (f a3)) (n ao (f aa) z)
def gF:BT:=n au (n av (f aa) z) (n ab (f aW) z)
def gG:BT:=n ab (n ay (f aX) z) (n ac (f aY) z)
def gH(P:Params):BT:=n aA (n ab (n aN (f bl) z) (f (a7 P))) (n aa (f aT) (f bf))
def gI(P:Params):BT:=n ak (n al (n ab (f (bg P)) z) (f ad)) (n ac (f (aO P)) (f ab))
def gJ:BT:=n au (n av (n aa (f bp) z) (f aa)) (n ab (f aW) (f aa))
def gK(P:Params):BT:=n aa (n aa (n aQ (f bi) z) (f ac)) (n (aG P) (f aR) (f bj))
def gL:BT:=n aa (f ab) (f ab)
def gM:BT:=n ab (f ab) (f ab)
end
end TW
namespace PySem.W.Fast
open PySem PySem.W L2 PK TW
noncomputable section
def tw6712272904343686589:Program:=PySem.Challenge.pw_patchkin_k04_what_a_patch_does
theorem te6712272904343686589:tw6712272904343686589=tw6712272904343686589:=rfl
def tw4084271754720608512:Params→BT:=fun P=>n (boot_o_0 P) (n (boot_o_1 P) (n (boot_o_3 P) (f (boot_o_7 P)) (f aa)) (n (boot_o_5 P) (f (boot_o_9 P)) (f ae))) (n (boot_o_2 P) (n (boot_o_4 P) (f (boot_o_8 P)) (f ab)) (n (boot_o_6 P) (f (boot_o_10 P)) (f af)))
theorem te4084271754720608512:tw4084271754720608512=tw4084271754720608512:=rfl
noncomputable def tw9172221531736776033:Params→BT:=fun P=>n (boot_o_0 P) (n (boot_o_1 P) (n (fH P) (n (boot_o_7 P) (n aa (n az (n (aL P) (n bk (f aa) (f ds)) (n bG (f du) z)) (n aZ (n bs (f aa) z) (n b9 (f aa) z))) (n ag (n aS (n bt (f cB) (f ab)) (n aa (f ac) z)) (n (bd P) (n bH (f c0) z) (n ca (f dv) z)))) (n ab (n ah (n aM (n (bu P) (f c1) (f aa)) (n bI (f c2) z)) (n a6 (n ac (f (cC P)) z) (n aa (f d2) z))) (n aa (n (a0 P) (n bJ (f cD) (f dw)) (n bK (f dx) z)) (n be (n bL (f aa) z) gu)))) (n aa (n aA (n ab (n aN (n bl (f aa) (f aa)) (n bM (f ab) z)) (n (a7 P) (n bv (f c3) z) (n cb (f aa) z))) (n aa (n aT (n (bN P) (f cE) (f dy)) (n aa (f d3) z)) (n bf (n bO (f c4) z) (n aa (f d4) z)))) (n ai (n aj (n (aU P) (n bw (f ab) (f d5)) (n bP (f dz) z)) (n a8 (n cc (f c5) z) gu)) (n aB (n a1 (n aa (f aa) (f dA)) (n bQ (f dB) z)) (n (bm P) gv (n cd (f aa) z)))))) (n (boot_o_5 P) (n (boot_o_9 P) (n ak (n al (n ab (n (bg P) (f c6) (f ab)) (n ab (f c7) z)) (n ad (n bx (f cF) z) (n cG (f dC) z))) (n ac (n (aO P) gw (n bR (f aa) z)) (n ab (n ce (f dD) z) gx))) (n aa (n aa (n ad (n ab (f cH) (f dE)) (n cf (f aa) z)) (n (a2 P) (n aa (f cI) z) (n cg (f dF) z))) (n bn (n ab (n ab (f ab) (f d6)) (n ab (f d7) z)) (n ad (n ch (f c8) z) (n cJ (f dG) z))))) (n ae (n am (n aa (n (aC P) (n ad (f cK) (f dH)) gv) (n ab (n bS (f cL) z) (n ab (f dI) z))) (n aD (n ad (n bT (f c9) (f aa)) (n ci (f aa) z)) (n (a9 P) (n (bU P) (f ab) z) (n cj (f dJ) z)))) (n aa (n aE (n ab (n (bo P) (f aa) (f dK)) (n ab (f da) z)) (n ad gv (n cM (f aa) z))) (n ad (n (aV P) (n bz (f cN) (f ab)) gu) (n ab (n ck (f db) z) (n ac (f d8) z))))))) (n (boot_o_2 P) (n (boot_o_4 P) (n (boot_o_8 P) (n ab (n an (n aa (n aa (f dc) (f aa)) (n aa (f df) z)) (n a3 (n (bA P) (f ab) z) (n aa (f d9) z))) (n ao (n aa (n bB (f cO) (f dL)) (n cm (f (dt [(d P "__module__" 650 (v "patchkin.desk" 589)),(d P "__qualname__" 652 (v "Desk" 651)),(d P "__firstlineno__" 654 (vi 215 653)),(d P "__init__" 661 (r 347)),(d P "begin" 669 (r 354)),(d P "stores" 676 (r 361)),(d P "patches" 683 (r 368)),(d P "has" 689 (r 373)),(d P "record" 695 (r 378)),(d P "cut" 701 (r 383)),(d P "back" 711 (r 390)),(d P "take" 721 (r 397)),(d P "drop" 730 (r 404)),(d P "leans" 738 (r 411))] 14)) z)) (n aa gv (n aa (f dM) z)))) (n ap (n aq (n aP (n aa (f cP) (f ab)) (n aa (f dg) z)) (n aa (n (cn P) (f cQ) z) (n cR (f dN) z))) (n (ar P) (n aa gw gv) (n bh (n bV (f dO) z) (n ab (f ea) z))))) (n fI (n au (n av (n aa (n bp (f ab) (f eb)) (n bW (f dh) z)) (n aa (n bX (f cS) z) gu)) (n ab (n aW (n aa (f aa) (f dP)) (n ab (f ec) z)) (n aa (n bY (f aa) z) (n cT (f dQ) z)))) (n aw (n aa (n aa (n aa (f cU) (f dR)) (n aa (f di) z)) (n ba (n cp (f dj) z) (n ab (f dS) z))) (n aF (n aa (n bZ (f dk) (f aa)) (n b0 (f aa) z)) (n aa gy gu))))) (n (boot_o_6 P) (n (boot_o_10 P) (n aa (n aa (n aQ (n bi (f dl) (f dT)) (n cq (f aa) z)) (n ac (n bC (f aa) z) (n cr (f dU) z))) (n (aG P) (n aR (n ac (f ab) (f ed)) (n b1 (f (l3 [(217,4,346),(222,4,353),(228,4,360),(231,4,367),(234,4,372),(238,4,377),(248,4,382),(257,4,389),(263,4,396),(266,4,403),(269,4,410)])) z)) (n bj (n b2 (f dm) z) (n cs (f ab) z)))) (n aH (n ab (n ac (n bD (f aa) (f aa)) (n b3 (f ab) z)) (n a4 (n ct (f cV) z) (n cu (f aa) z))) (n ax (n a5 (n bE (f cW) (f dV)) (n cv (f dW) z)) (n ac (n cw (f dn) z) (n cx (f dX) z))))) (n af (n aa (n aI (n aJ (n ac (f aa) (f dY)) (n ab (f dZ) z)) (n bb (n aa (f cX) z) (n cy (f aa) z))) (n aK (n ac (n b4 (f cY) (f ab)) (n b5 (f ab) z)) (n bc (n b6 (f dp) z) (n cz (f aa) z)))) (n ab (n ay (n aX (n bq (f dq) (f aa)) (n b7 (f aa) z)) (n ac gy (n cA (f ee) z))) (n ac (n aY (n bF (f cZ) (f ef)) (n ab (f d0) z)) (n br (n b8 (f aa) z) (n (dr P) (f d1) z)))))))
theorem te9172221531736776033:tw9172221531736776033=tw9172221531736776033:=rfl
def tw11049761990434475393:Params→BT:=fun P=>n (boot_o_0 P) (n (boot_o_1 P) (n (fX P) (n (boot_o_7 P) (n aa (n az (n (aL P) (f bk) z) (n aZ (f bs) z)) (n ag (n aS (f bt) z) (f (bd P)))) (n ab (n ah (n aM (f (bu P)) z) (f a6)) (n aa (n (a0 P) (f bJ) z) (f be)))) (n aa (n aA (n ab (n aN (f bl) z) (n (a7 P) (f bv) z)) (n aa (n aT (f (bN P)) z) (f bf))) (n ai (n aj (n (aU P) (f bw) z) (f a8)) (n aB (n a1 (f aa) z) (f (bm P)))))) (n (boot_o_5 P) (n (boot_o_9 P) (n ak (n al (n ab (f (bg P)) z) (n ad (f bx) z)) (n ac (n (aO P) (f aa) z) (f ab))) (n aa (n aa (n ad (f ab) z) (f (a2 P))) (n bn gy (f ad)))) (n ae (n am (n aa (n (aC P) (f ad) z) (n ab (f bS) z)) (n aD (n ad (f bT) z) (f (a9 P)))) (n aa (n aE (n ab (f (bo P)) z) (f ad)) (n ad (n (aV P) (f bz) z) (f ab)))))) (n (boot_o_2 P) (n (boot_o_4 P) (n (boot_o_8 P) (n ab (n an gv (n a3 (f (bA P)) z)) (n ao (n aa (f bB) z) (f aa))) (n ap (n aq (n aP (f aa) z) (f aa)) (n (ar P) gv (f bh)))) (n (l3 [(1,0,20),(5,0,27),(13,0,32),(18,0,39),(23,0,46),(34,0,53),(36,0,66),(38,0,78),(40,0,90),(42,0,102),(44,0,114),(46,0,126),(48,0,138),(51,0,150)]) (n au (n av (n aa (f bp) z) (n aa (f bX) z)) (n ab (n aW (f aa) z) (f aa))) (n aw (n aa gv (f ba)) (n aF (n aa (f bZ) z) (f aa))))) (n (boot_o_6 P) (n (boot_o_10 P) (n aa (n aa (n aQ (f bi) z) (n ac (f bC) z)) (n (aG P) (n aR (f ac) z) (f bj))) (n aH (n ab (n ac (f bD) z) (f a4)) (n ax (n a5 (f bE) z) (f ac)))) (n af (n aa (n aI (n aJ (f ac) z) (f bb)) (n aK (n ac (f b4) z) (f bc))) (n ab (n ay (n aX (f bq) z) (f ac)) (n ac (n aY (f bF) z) (f br))))))
theorem te11049761990434475393:tw11049761990434475393=tw11049761990434475393:=rfl
def tw6364597847192456837:Params→BT:=fun P=>n (boot_o_0 P) (n (boot_o_1 P) (n (fZ P) (n (boot_o_7 P) (n aa (n az (f (aL P)) (f aZ)) (n ag (f aS) (f (bd P)))) (n ab (n ah (f aM) (f a6)) (n aa (f (a0 P)) (f be)))) (n aa (n aA (n ab (f aN) (f (a7 P))) (n aa (f aT) (f bf))) (n ai (n aj (f (aU P)) (f a8)) (n aB (f a1) z)))) (n (boot_o_5 P) (n (boot_o_9 P) (n ak (n al (f ab) (f ad)) (n ac (f (aO P)) (f ab))) (n aa (n aa (f ad) (f (a2 P))) (n (ty (cl (S "PatchError") [(w "ValueError")] [(r 57),(w "ValueError"),(w "Exception"),(w "BaseException"),(w "object")] 56 (S "PatchError") true [] [(r 70),(r 82),(r 94),(r 106),(r 118)] false none false) [(k (r 48)),none,(k (v "PatchError" 238)),(k (v "PatchError" 246)),(k (b "ValueError.__new__")),(k (vl true))]) (f ab) z))) (n ae (gz P) (n aa (n aE (f ab) (f ad)) (n ad (f (aV P)) z))))) (n (boot_o_2 P) (n (boot_o_4 P) (n (boot_o_8 P) (n ab (n an (f aa) (f a3)) (n ao (f aa) (f aa))) (n ap (n aq (f aP) (f aa)) (n (ar P) (f aa) (f bh)))) (n (l3 [(1,0,20),(5,0,27),(13,0,32),(18,0,39),(23,0,46),(34,0,53),(36,0,66),(38,0,78),(40,0,90),(42,0,102),(44,0,114)]) (n au (n av (f aa) (f aa)) (n ab (f aW) (f aa))) gA)) (n (boot_o_6 P) (n (boot_o_10 P) (n aa (n aa (f aQ) (f ac)) (n (aG P) (f aR) (f bj))) gB) (n af gC (n ab (n ay (f aX) (f ac)) (n ac (f aY) z)))))
theorem te6364597847192456837:tw6364597847192456837=tw6364597847192456837:=rfl
def tw17666676618509673606:Params→BT:=fun P=>n (boot_o_0 P) (n (boot_o_1 P) (n (f2 P) (n (boot_o_7 P) (n aa (n az (f (aL P)) (f aZ)) (n ag (f aS) z)) (n ab (n ah (f aM) z) (n aa (f (a0 P)) z))) (n aa gD (n ai (n aj (f (aU P)) z) (n aB (f a1) z)))) (n (boot_o_5 P) (n (boot_o_9 P) (n ak (n al (f ab) z) (n ac (f (aO P)) z)) (n aa (n aa (f ad) z) (n (ty (cl (S "PatchError") [(w "ValueError")] [(r 57),(w "ValueError"),(w "Exception"),(w "BaseException"),(w "object")] 56 (S "PatchError") true [] [(r 70),(r 82),(r 94)] false none false) [(k (r 48)),none,(k (v "PatchError" 238)),(k (v "PatchError" 246)),(k (b "ValueError.__new__")),(k (vl true))]) (f ab) z))) (n ae (n am (n aa (f (aC P)) z) (n aD (f ad) z)) (n aa (n aE (f ab) z) (n ad (f (aV P)) z))))) (n (boot_o_2 P) (n (boot_o_4 P) (n (boot_o_8 P) gE (n ap (n aq (f aP) z) (n (ar P) (f aa) z))) (n (l3 [(1,0,20),(5,0,27),(13,0,32),(18,0,39),(23,0,46),(34,0,53),(36,0,66),(38,0,78),(40,0,90)]) gF (n aw gv (n aF (f aa) z)))) (n (boot_o_6 P) (n (boot_o_10 P) (n aa (n aa (f aQ) z) (n (aG P) (f aR) z)) (n aH (n ab (f ac) z) (n ax (f a5) z))) (n af (n aa (n aI (f aJ) z) (n aK (f ac) z)) gG)))
theorem te17666676618509673606:tw17666676618509673606=tw17666676618509673606:=rfl
def tw7961108916328758470:Params→BT:=fun P=>n (boot_o_0 P) (n (boot_o_1 P) (n (f5 P) (n (boot_o_7 P) (n aa (f az) (f ag)) (n ab (f ah) (f aa))) (n aa (n aA (f ab) (f aa)) (n ai (f aj) (f aB)))) (n (boot_o_5 P) (n (boot_o_9 P) (n ak (f al) (f ac)) (n aa (f aa) (f (ty (cl (S "PatchError") [(w "ValueError")] [(r 57),(w "ValueError"),(w "Exception"),(w "BaseException"),(w "object")] 56 (S "PatchError") true [] [] false none false) [(k (r 48)),none,(k (v "PatchError" 238)),(k (v "PatchError" 246)),(k (b "ValueError.__new__")),(k (vl true))])))) (n ae (n am (f aa) (f aD)) (n aa (f aE) z)))) (n (boot_o_2 P) (n (boot_o_4 P) (n (boot_o_8 P) (n ab (f an) (f ao)) (n ap (f aq) (f (ar P)))) (n (l3 [(1,0,20),(5,0,27),(13,0,32),(18,0,39),(23,0,46),(34,0,53)]) (n au (f av) (f ab)) (n aw (f aa) (f aF)))) (n (boot_o_6 P) (n (boot_o_10 P) (n aa (f aa) (f (aG P))) (n aH (f ab) (f ax))) (n af (n aa (f aI) (f aK)) (n ab (f ay) z))))
theorem te7961108916328758470:tw7961108916328758470=tw7961108916328758470:=rfl
def tw16370232970782405767:Params→BT:=fun P=>n (boot_o_0 P) (n (boot_o_1 P) (n (fH P) (n (boot_o_7 P) (n aa (n az (n (aL P) (n bk (f aa) z) (n bG (f du) z)) (n aZ (n bs (f aa) z) (f b9))) (n ag (n aS (n bt (f cB) z) (f aa)) (n (bd P) (n bH (f c0) z) (f ca)))) (n ab (n ah (n aM (n (bu P) (f c1) z) (n bI (f c2) z)) (n a6 (n ac (f (cC P)) z) (f aa))) (n aa (n (a0 P) (n bJ (f cD) z) (f bK)) (n be (n bL (f aa) z) (f aa))))) (n aa (n aA (n ab (n aN (n bl (f aa) z) (n bM (f ab) z)) (n (a7 P) (n bv (f c3) z) (f cb))) (n aa (n aT (n (bN P) (f cE) z) (f aa)) (n bf (n bO (f c4) z) (f aa)))) (n ai (n aj (n (aU P) (n bw (f ab) z) (n bP (f dz) z)) (n a8 (n cc (f c5) z) (f aa))) (n aB (n a1 gv (f bQ)) (n (bm P) gv (f cd)))))) (n (boot_o_5 P) (n (boot_o_9 P) (n ak (n al (n ab (n (bg P) (f c6) z) (n ab (f c7) z)) (n ad (n bx (f cF) z) (f cG))) (n ac (n (aO P) gv (f bR)) (n ab (n ce (f dD) z) (f ab)))) (n aa (n aa (n ad (n ab (f cH) z) (n cf (f aa) z)) (n (a2 P) (n aa (f cI) z) (f cg))) (n bn (n ab gy (f ab)) (n ad (n ch (f c8) z) (f cJ))))) (n ae (n am (n aa (n (aC P) (n ad (f cK) z) gv) (n ab (n bS (f cL) z) (f ab))) (n aD (n ad (n bT (f c9) z) (f ci)) (n (a9 P) (n (bU P) (f ab) z) (f cj)))) (n aa (n aE (n ab (n (bo P) (f aa) z) (n ab (f da) z)) (n ad gv (f cM))) (n ad (n (aV P) (n bz (f cN) z) (f aa)) (n ab (n ck (f db) z) (f ac))))))) (n (boot_o_2 P) (n (boot_o_4 P) (n (boot_o_8 P) (n ab (n an (n aa (n aa (f dc) z) (n aa (f df) z)) (n a3 (n (bA P) (f ab) z) (f aa))) (n ao (n aa (n bB (f cO) z) (f cm)) (n aa gv (f aa)))) (n ap (n aq (n aP (n aa (f cP) z) (n aa (f dg) z)) (n aa (n (cn P) (f cQ) z) (f cR))) (n (ar P) (n aa gv (f aa)) (n bh (n bV (f dO) z) (f ab))))) (n (l3 [(1,0,20),(5,0,27),(13,0,32),(18,0,39),(23,0,46),(34,0,53),(36,0,66),(38,0,78),(40,0,90),(42,0,102),(44,0,114),(46,0,126),(48,0,138),(51,0,150),(58,0,171),(66,0,190),(72,0,195),(77,0,202),(86,0,209),(92,0,214),(99,0,219),(102,0,226),(112,0,233),(118,0,238),(134,0,245),(139,0,250),(154,0,257),(179,0,306),(185,0,313),(191,0,320),(196,0,327),(207,0,332)]) (n au (n av (n aa (n bp (f ab) z) (n bW (f dh) z)) (n aa (n bX (f cS) z) (f aa))) (n ab (n aW gv (f ab)) (n aa (n bY (f aa) z) (f cT)))) (n aw (n aa (n aa (n aa (f cU) z) (n aa (f di) z)) (n ba (n cp (f dj) z) (f ab))) (n aF (n aa (n bZ (f dk) z) (f b0)) (n aa gy (f aa)))))) (n (boot_o_6 P) (n (boot_o_10 P) (n aa (n aa (n aQ (n bi (f dl) z) (n cq (f aa) z)) (n ac (n bC (f aa) z) (f cr))) (n (aG P) (n aR (n ac (f ab) z) (f b1)) (n bj (n b2 (f dm) z) (f cs)))) (n aH (n ab (n ac (n bD (f aa) z) (n b3 (f ab) z)) (n a4 (n ct (f cV) z) (f cu))) (n ax (n a5 (n bE (f cW) z) (f cv)) (n ac (n cw (f dn) z) (f cx))))) (n af (n aa (n aI (n aJ (n ac (f aa) z) (n ab (f dZ) z)) (n bb (n aa (f cX) z) (f cy))) (n aK (n ac (n b4 (f cY) z) (f b5)) (n bc (n b6 (f dp) z) (f cz)))) (n ab (n ay (n aX (n bq (f dq) z) (f b7)) (n ac gy (f cA))) (n ac (n aY (n bF (f cZ) z) (f ab)) (n br (n b8 (f aa) z) (f (dr P))))))))
theorem te16370232970782405767:tw16370232970782405767=tw16370232970782405767:=rfl
def tw16368793905039165448:Params→BT:=fun P=>n (boot_o_0 P) (n (boot_o_1 P) (n (f9 P) (n (boot_o_7 P) (n aa (n az (n (aL P) (f bk) z) (f aZ)) (n ag (n aS (f bt) z) (f (bd P)))) (n ab (n ah (n aM (f (bu P)) z) (f a6)) (n aa (f (a0 P)) (f be)))) (n aa (gH P) (n ai (n aj (n (aU P) (f bw) z) (f a8)) (n aB (f a1) (f (bm P)))))) (n (boot_o_5 P) (n (boot_o_9 P) (gI P) (n aa (n aa (n ad (f ab) z) (f (a2 P))) (n bn (f ab) (f ad)))) (n ae (n am (n aa (n (aC P) (f ad) z) (f ab)) (n aD (f ad) (f (a9 P)))) (n aa (n aE (n ab (f (bo P)) z) (f ad)) (n ad (f (aV P)) (f ab)))))) (n (boot_o_2 P) (n (boot_o_4 P) (n (boot_o_8 P) (n ab (n an gv (f a3)) (n ao (n aa (f bB) z) (f aa))) (n ap (n aq (n aP (f aa) z) (f aa)) (n (ar P) (f aa) (f bh)))) (n (l3 [(1,0,20),(5,0,27),(13,0,32),(18,0,39),(23,0,46),(34,0,53),(36,0,66),(38,0,78),(40,0,90),(42,0,102),(44,0,114),(46,0,126),(48,0,138)]) gJ (n aw (n aa gv (f ba)) (n aF (f aa) (f aa))))) (n (boot_o_6 P) (n (boot_o_10 P) (gK P) (n aH (n ab (n ac (f bD) z) (f a4)) (n ax (f a5) (f ac)))) (n af (n aa (n aI (n aJ (f ac) z) (f bb)) (n aK (f ac) (f bc))) (n ab (n ay (n aX (f bq) z) (f ac)) (n ac (f aY) (f br))))))
theorem te16368793905039165448:tw16368793905039165448=tw16368793905039165448:=rfl
def tw9201124659407227336:Params→BT:=fun P=>n (boot_o_0 P) (n (boot_o_1 P) (n (gb P) (n (boot_o_7 P) (n aa (n az (f (aL P)) z) (n ag (f aS) z)) (n ab (n ah (f aM) z) (f aa))) (n aa gD (n ai (n aj (f (aU P)) z) (f aB)))) (n (boot_o_5 P) (n (boot_o_9 P) (n ak (n al (f ab) z) (n ac (f (aO P)) z)) (n aa (n aa (f ad) z) (f (ty (cl (S "PatchError") [(w "ValueError")] [(r 57),(w "ValueError"),(w "Exception"),(w "BaseException"),(w "object")] 56 (S "PatchError") true [] [(r 70),(r 82)] false none false) [(k (r 48)),none,(k (v "PatchError" 238)),(k (v "PatchError" 246)),(k (b "ValueError.__new__")),(k (vl true))])))) (n ae (n am (n aa (f (aC P)) z) (f aD)) (n aa (n aE (f ab) z) (f ad))))) (n (boot_o_2 P) (n (boot_o_4 P) (n (boot_o_8 P) (n ab (n an (f aa) z) (n ao (f aa) z)) (n ap (n aq (f aP) z) (f (ar P)))) (n (l3 [(1,0,20),(5,0,27),(13,0,32),(18,0,39),(23,0,46),(34,0,53),(36,0,66),(38,0,78)]) gF (n aw gv (f aF)))) (n (boot_o_6 P) (n (boot_o_10 P) (n aa (n aa (f aQ) z) (n (aG P) (f aR) z)) (n aH (n ab (f ac) z) (f ax))) (n af (n aa (n aI (f aJ) z) (f aK)) (n ab (n ay (f aX) z) (f ac)))))
theorem te9201124659407227336:tw9201124659407227336=tw9201124659407227336:=rfl
def tw16295552225451273482:Params→BT:=fun P=>n (boot_o_0 P) (n (boot_o_1 P) (n (eS P) (n (boot_o_7 P) (n aa (n az (n (aL P) (n bk gv (f ds)) (n bG (f du) (f eg))) (n aZ (n bs (n aa (f eT) z) (f eh)) (n b9 (f aa) (f aa)))) (n ag (n aS (n bt (n cB (f fJ) z) (f ab)) (n aa (f ac) (f ab))) (n (bd P) (n bH (n c0 (f ab) z) (f ei)) (n ca (f dv) (f eU))))) (n ab (n ah (n aM (n (bu P) (n c1 (f aa) z) (f aa)) (n bI (f c2) (f aa))) (n a6 (n ac (n (cC P) (f aa) z) (f ej)) (n aa (f d2) (f eV)))) (n aa (n (a0 P) (n bJ (n cD (f eW) z) (f dw)) (n bK (f dx) (f ek))) (n be (n bL (n aa (f eX) z) (f aa)) (n aa (f ab) (f eY)))))) (n aa (n aA (n ab (n aN (n bl (n aa (f eZ) z) (f aa)) (n bM (f ab) (f aa))) (n (a7 P) (n bv (n c3 (f aa) z) (f el)) (n cb (f aa) (f aa)))) (n aa (n aT (n (bN P) (n cE (f ab) z) (f dy)) (n aa (f d3) (f em))) (n bf (n bO (n c4 (f aa) z) (f en)) (n aa (f d4) (f e0))))) (n ai (n aj (n (aU P) (n bw gx (f d5)) (n bP (f dz) (f e1))) (n a8 (n cc (n c5 (f fK) z) (f eo)) (n aa (f ab) (f (ep P))))) (n aB (n a1 (n aa (n aa (f e2) z) (f dA)) (n bQ (f dB) (f eq))) (n (bm P) gw (n cd (f aa) (f aa))))))) (n (boot_o_5 P) (n (boot_o_9 P) (n ak (n al (n ab (n (bg P) (n c6 (f fL) z) (f ab)) (n ab (f c7) (f ab))) (n ad (n bx (n cF (f ab) z) (f aa)) (n cG (f dC) (f er)))) (n ac (n (aO P) (n aa (n aa (f e3) z) (f aa)) (n bR (f aa) (f aa))) (n ab (n ce (n dD (f e4) z) (f e5)) (n ab (f aa) (f aa))))) (n aa (n aa (n ad (n ab (n cH (f e6) z) (f dE)) (n cf (f aa) (f es))) (n (a2 P) (n aa (n cI (f e7) z) (f ab)) (n cg (f dF) (f et)))) (n bn (n ab (n ab gx (f d6)) (n ab (f d7) (f e8))) (n ad (n ch (f c8) (f eu)) (n cJ (f dG) (f ab)))))) (n ae (n am (n aa (n (aC P) (n ad (n cK (f ab) z) (f dH)) (n aa (f aa) (f ev))) (n ab (n bS (n cL (f e9) z) (f fa)) (n ab (f dI) (f ew)))) (n aD (n ad (n bT (n c9 (f aa) z) (f aa)) (n ci (f aa) (f aa))) (n (a9 P) (n (bU P) (n ab (f (fv "law" "law" (x 50))) z) (f ab)) (n cj (f dJ) (f fN))))) (n aa (n aE (n ab (n (bo P) (n aa (f fb) z) (f dK)) (n ab (f da) (f ex))) (n ad (n aa (n aa (f fc) z) (f aa)) (n cM (f aa) (f ey)))) (n ad (n (aV P) (n bz (n cN (f fO) z) (f ab)) gL) (n ab (n ck (f db) (f fe)) (n ac (f d8) (f ff)))))))) (n (boot_o_2 P) (n (boot_o_4 P) (n (boot_o_8 P) (n ab (n an (n aa (n aa (n dc (f ab) z) (f aa)) (n aa (f df) (f aa))) (n a3 (n (bA P) gx (f ez)) (n aa (f d9) (f fg)))) (n ao (n aa (n bB (n cO (f fh) z) (f dL)) (n cm (f (fi P)) (f eA))) (n aa (n aa (n aa (f fP) z) (f aa)) (n aa (f dM) (f fj))))) (n ap (n aq (n aP (n aa (n cP (f fQ) z) (f ab)) (n aa (f dg) (f ab))) (n aa (n (cn P) (n cQ (f ab) z) (f aa)) (n cR (f dN) (f eB)))) (n (ar P) (n aa (n aa (n aa (f fk) z) (f aa)) gw) (n bh (n bV (f dO) (f fm)) (n ab (f ea) (f aa)))))) (n fR (n au (n av (n aa (n bp gx (f eb)) (n bW (f dh) (f fo))) (n aa (n bX (n cS (f fS) z) (f aa)) gL)) (n ab (n aW (n aa (n aa (f fp) z) (f dP)) (n ab (f ec) (f eC))) (n aa (n bY gu (f aa)) (n cT (f dQ) (f aa))))) (n aw (n aa (n aa (n aa (n cU (f ab) z) (f dR)) (n aa (f di) (f eD))) (n ba (n cp (n dj (f fq) z) (f eE)) (n ab (f dS) (f eF)))) (n aF (n aa (n bZ (n dk (f aa) z) (f aa)) (n b0 (f aa) (f aa))) (n aa gM (n aa (f ab) (f fT))))))) (n (boot_o_6 P) (n (boot_o_10 P) (n aa (n aa (n aQ (n bi (n dl (f fs) z) (f dT)) (n cq (f aa) (f eG))) (n ac (n bC (n aa (f ft) z) (f ab)) (n cr (f dU) (f eH)))) (n (aG P) (n aR (n ac gx (f ed)) (n b1 (f fu) (f fw))) (n bj (n b2 (n dm (f fx) z) (f eI)) (n cs (f ab) (f ab))))) (n aH (n ab (n ac (n bD (n aa (f fy) z) (f aa)) (n b3 (f ab) (f aa))) (n a4 (n ct (n cV (f aa) z) (f fz)) (n cu (f aa) (f eJ)))) (n ax (n a5 (n bE (n cW (f ab) z) (f dV)) (n cv (f dW) (f eK))) (n ac (n cw (f dn) (f eL)) (n cx (f dX) (f fA)))))) (n af (n aa (n aI (n aJ (n ac (n aa (f fB) z) (f dY)) (n ab (f dZ) (f eM))) (n bb (n aa (n cX (f fC) z) (f eN)) (n cy (f aa) (f aa)))) (n aK (n ac (n b4 (n cY (f fU) z) (f ab)) (n b5 (f ab) (f ab))) (n bc (n b6 (n dp (f fD) z) (f eO)) (n cz (f aa) (f fE))))) (n ab (n ay (n aX (n bq (n dq (f aa) z) (f aa)) (n b7 (f aa) (f aa))) (n ac (n ab gx (f ab)) (n cA (f ee) (f eP)))) (n ac (n aY (n bF (n cZ (f fF) z) (f ef)) (n ab (f d0) (f eQ))) (n br (n b8 (f aa) (f eR)) (n (dr P) (f d1) (f fG))))))))
theorem te16295552225451273482:tw16295552225451273482=tw16295552225451273482:=rfl
def tw17329295206130774732:Params→BT:=fun P=>n (boot_o_0 P) (n (boot_o_1 P) (n (ge P) (n (boot_o_7 P) (n aa (n az (f (aL P)) z) (f ag)) (n ab (n ah (f aM) z) (f aa))) (n aa (n aA (n ab (f aN) z) (f aa)) (n ai (f aj) (f aB)))) (n (boot_o_5 P) (n (boot_o_9 P) (n ak (n al (f ab) z) (f ac)) (n aa (f aa) (f (ty (cl (S "PatchError") [(w "ValueError")] [(r 57),(w "ValueError"),(w "Exception"),(w "BaseException"),(w "object")] 56 (S "PatchError") true [] [(r 70)] false none false) [(k (r 48)),none,(k (v "PatchError" 238)),(k (v "PatchError" 246)),(k (b "ValueError.__new__")),(k (vl true))])))) (n ae (n am (n aa (f (aC P)) z) (f aD)) (n aa (f aE) (f ad))))) (n (boot_o_2 P) (n (boot_o_4 P) (n (boot_o_8 P) (n ab (n an (f aa) z) (f ao)) (n ap (n aq (f aP) z) (f (ar P)))) (n (l3 [(1,0,20),(5,0,27),(13,0,32),(18,0,39),(23,0,46),(34,0,53),(36,0,66)]) (n au (n av (f aa) z) (f ab)) (n aw (f aa) (f aF)))) (n (boot_o_6 P) (n (boot_o_10 P) (n aa (n aa (f aQ) z) (f (aG P))) (n aH (f ab) (f ax))) (n af (n aa (n aI (f aJ) z) (f aK)) (n ab (f ay) (f ac)))))
theorem te17329295206130774732:tw17329295206130774732=tw17329295206130774732:=rfl
def tw1898025474177285645:Params→BT:=fun P=>n (boot_o_0 P) (n (boot_o_1 P) (n (gh P) (n (boot_o_7 P) (n aa (n az (n (aL P) (f bk) z) (f aZ)) (n ag (f aS) (f (bd P)))) (n ab (n ah (f aM) (f a6)) (n aa (f (a0 P)) (f be)))) (n aa (gH P) (n ai (n aj (f (aU P)) (f a8)) (n aB (f a1) (f (bm P)))))) (n (boot_o_5 P) (n (boot_o_9 P) (gI P) (n aa (n aa (f ad) (f (a2 P))) (n (ty (cl (S "PatchError") [(w "ValueError")] [(r 57),(w "ValueError"),(w "Exception"),(w "BaseException"),(w "object")] 56 (S "PatchError") true [] [(r 70),(r 82),(r 94),(r 106),(r 118),(r 130)] false none false) [(k (r 48)),none,(k (v "PatchError" 238)),(k (v "PatchError" 246)),(k (b "ValueError.__new__")),(k (vl true))]) (f ab) (f ad)))) (n ae (gz P) (n aa (n aE (f ab) (f ad)) (n ad (f (aV P)) (f ab)))))) (n (boot_o_2 P) (n (boot_o_4 P) (n (boot_o_8 P) (n ab (n an gv (f a3)) (n ao (f aa) (f aa))) (n ap (n aq (f aP) (f aa)) (n (ar P) (f aa) (f bh)))) (n (l3 [(1,0,20),(5,0,27),(13,0,32),(18,0,39),(23,0,46),(34,0,53),(36,0,66),(38,0,78),(40,0,90),(42,0,102),(44,0,114),(46,0,126)]) gJ (n aw (n aa (f aa) (f ba)) (n aF (f aa) (f aa))))) (n (boot_o_6 P) (n (boot_o_10 P) (gK P) (n aH (n ab (f ac) (f a4)) (n ax (f a5) (f ac)))) (n af gC (n ab (n ay (f aX) (f ac)) (n ac (f aY) (f br))))))
theorem te1898025474177285645:tw1898025474177285645=tw1898025474177285645:=rfl
def tw8399057088310457687:Params→BT:=fun P=>n (boot_o_0 P) (n (boot_o_1 P) (n (gk P) (n (boot_o_7 P) (n aa (n az (f (aL P)) (f aZ)) (n ag (f aS) z)) (n ab (n ah (f aM) (f a6)) (n aa (f (a0 P)) z))) (n aa (n aA (n ab (f aN) (f (a7 P))) (n aa (f aT) z)) (n ai (n aj (f (aU P)) (f a8)) (n aB (f a1) z)))) (n (boot_o_5 P) (n (boot_o_9 P) (n ak (n al (f ab) (f ad)) (n ac (f (aO P)) z)) (n aa (n aa (f ad) (f (a2 P))) (n (ty (cl (S "PatchError") [(w "ValueError")] [(r 57),(w "ValueError"),(w "Exception"),(w "BaseException"),(w "object")] 56 (S "PatchError") true [] [(r 70),(r 82),(r 94),(r 106)] false none false) [(k (r 48)),none,(k (v "PatchError" 238)),(k (v "PatchError" 246)),(k (b "ValueError.__new__")),(k (vl true))]) (f ab) z))) (n ae (n am (n aa (f (aC P)) (f ab)) (n aD (f ad) z)) (n aa (n aE (f ab) z) (n ad (f (aV P)) z))))) (n (boot_o_2 P) (n (boot_o_4 P) (n (boot_o_8 P) gE (n ap (n aq (f aP) (f aa)) (n (ar P) (f aa) z))) (n (l3 [(1,0,20),(5,0,27),(13,0,32),(18,0,39),(23,0,46),(34,0,53),(36,0,66),(38,0,78),(40,0,90),(42,0,102)]) (n au (n av (f aa) (f aa)) (n ab (f aW) z)) gA)) (n (boot_o_6 P) (n (boot_o_10 P) (n aa (n aa (f aQ) (f ac)) (n (aG P) (f aR) z)) gB) (n af (n aa (n aI (f aJ) (f bb)) (n aK (f ac) z)) gG)))
theorem te8399057088310457687:tw8399057088310457687=tw8399057088310457687:=rfl
def tw14110506862545934327:Params→BT:=fun P=>n (boot_o_0 P) (n (boot_o_1 P) (n (gn P) (n (boot_o_7 P) (n aa (n az (n (aL P) (n bk (f aa) (f ds)) (n bG (f du) (f eg))) (n aZ (n bs (f aa) (f eh)) (n b9 (f aa) (f aa)))) (n ag (n aS (n bt (f cB) (f ab)) (n aa (f ac) (f ab))) (n (bd P) (n bH (f c0) (f ei)) (n ca (f dv) (f eU))))) (n ab (n ah (n aM (n (bu P) (f c1) (f aa)) (n bI (f c2) (f aa))) (n a6 (n ac (f (cC P)) (f ej)) (n aa (f d2) (f eV)))) (n aa (n (a0 P) (n bJ (f cD) (f dw)) (n bK (f dx) (f ek))) (n be (n bL (f aa) (f aa)) gu)))) (n aa (n aA (n ab (n aN (n bl (f aa) (f aa)) (n bM (f ab) (f aa))) (n (a7 P) (n bv (f c3) (f el)) (n cb (f aa) (f aa)))) (n aa (n aT (n (bN P) (f cE) (f dy)) (n aa (f d3) (f em))) (n bf (n bO (f c4) (f en)) (n aa (f d4) z)))) (n ai (n aj (n (aU P) (n bw (f ab) (f d5)) (n bP (f dz) (f e1))) (n a8 (n cc (f c5) (f eo)) (n aa (f ab) (f (ep P))))) (n aB (n a1 (n aa (f aa) (f dA)) (n bQ (f dB) (f eq))) (n (bm P) gw (n cd (f aa) z)))))) (n (boot_o_5 P) (n (boot_o_9 P) (n ak (n al (n ab (n (bg P) (f c6) (f ab)) (n ab (f c7) (f ab))) (n ad (n bx (f cF) (f aa)) (n cG (f dC) (f er)))) (n ac (n (aO P) gw (n bR (f aa) (f aa))) (n ab (n ce (f dD) (f e5)) gx))) (n aa (n aa (n ad (n ab (f cH) (f dE)) (n cf (f aa) (f es))) (n (a2 P) (n aa (f cI) (f ab)) (n cg (f dF) (f et)))) (n bn (n ab (n ab (f ab) (f d6)) (n ab (f d7) (f e8))) (n ad (n ch (f c8) (f eu)) (n cJ (f dG) z))))) (n ae (n am (n aa (n (aC P) (n ad (f cK) (f dH)) (n aa (f aa) (f ev))) (n ab (n bS (f cL) (f fa)) (n ab (f dI) (f ew)))) (n aD (n ad (n bT (f c9) (f aa)) (n ci (f aa) (f aa))) (n (a9 P) (n (bU P) (f ab) (f ab)) (n cj (f dJ) z)))) (n aa (n aE (n ab (n (bo P) (f aa) (f dK)) (n ab (f da) (f ex))) (n ad gw (n cM (f aa) (f ey)))) (n ad (n (aV P) (n bz (f cN) (f ab)) gL) (n ab (n ck (f db) (f fe)) (n ac (f d8) z))))))) (n (boot_o_2 P) (n (boot_o_4 P) (n (boot_o_8 P) (n ab (n an (n aa (n aa (f dc) (f aa)) (n aa (f df) (f aa))) (n a3 (n (bA P) (f ab) (f ez)) (n aa (f d9) (f fg)))) (n ao (n aa (n bB (f cO) (f dL)) (n cm (f (fi P)) (f eA))) (n aa gw (n aa (f dM) (f fj))))) (n ap (n aq (n aP (n aa (f cP) (f ab)) (n aa (f dg) (f ab))) (n aa (n (cn P) (f cQ) (f aa)) (n cR (f dN) (f eB)))) (n (ar P) (n aa gw gw) (n bh (n bV (f dO) (f fm)) (n ab (f ea) z))))) (n fI (n au (n av (n aa (n bp (f ab) (f eb)) (n bW (f dh) (f fo))) (n aa (n bX (f cS) (f aa)) gL)) (n ab (n aW (n aa (f aa) (f dP)) (n ab (f ec) (f eC))) (n aa (n bY (f aa) (f aa)) (n cT (f dQ) z)))) (n aw (n aa (n aa (n aa (f cU) (f dR)) (n aa (f di) (f eD))) (n ba (n cp (f dj) (f eE)) (n ab (f dS) (f eF)))) (n aF (n aa (n bZ (f dk) (f aa)) (n b0 (f aa) (f aa))) (n aa gM gu))))) (n (boot_o_6 P) (n (boot_o_10 P) (n aa (n aa (n aQ (n bi (f dl) (f dT)) (n cq (f aa) (f eG))) (n ac (n bC (f aa) (f ab)) (n cr (f dU) (f eH)))) (n (aG P) (n aR (n ac (f ab) (f ed)) (n b1 (f fu) (f fw))) (n bj (n b2 (f dm) (f eI)) (n cs (f ab) z)))) (n aH (n ab (n ac (n bD (f aa) (f aa)) (n b3 (f ab) (f aa))) (n a4 (n ct (f cV) (f fz)) (n cu (f aa) (f eJ)))) (n ax (n a5 (n bE (f cW) (f dV)) (n cv (f dW) (f eK))) (n ac (n cw (f dn) (f eL)) (n cx (f dX) z))))) (n af (n aa (n aI (n aJ (n ac (f aa) (f dY)) (n ab (f dZ) (f eM))) (n bb (n aa (f cX) (f eN)) (n cy (f aa) (f aa)))) (n aK (n ac (n b4 (f cY) (f ab)) (n b5 (f ab) (f ab))) (n bc (n b6 (f dp) (f eO)) (n cz (f aa) z)))) (n ab (n ay (n aX (n bq (f dq) (f aa)) (n b7 (f aa) (f aa))) (n ac gM (n cA (f ee) (f eP)))) (n ac (n aY (n bF (f cZ) (f ef)) (n ab (f d0) (f eQ))) (n br (n b8 (f aa) (f eR)) (n (dr P) (f d1) z)))))))
theorem te14110506862545934327:tw14110506862545934327=tw14110506862545934327:=rfl
def tw1385331919588733560:Params→BT:=fun P=>n (boot_o_0 P) (n (boot_o_1 P) (n (go P) (n (boot_o_7 P) (n aa (n az (n (aL P) (f bk) (f bG)) (n aZ (f bs) z)) (n ag (n aS (f bt) (f aa)) (n (bd P) (f bH) z))) (n ab (n ah (n aM (f (bu P)) (f bI)) (n a6 (f ac) z)) (n aa (n (a0 P) (f bJ) (f bK)) (n be (f bL) z)))) (n aa (n aA (n ab (n aN (f bl) (f bM)) (n (a7 P) (f bv) z)) (n aa (n aT (f (bN P)) (f aa)) (n bf (f bO) z))) (n ai (n aj (n (aU P) (f bw) (f bP)) (n a8 (f cc) z)) (n aB (n a1 (f aa) (f bQ)) (n (bm P) (f aa) z))))) (n (boot_o_5 P) (n (boot_o_9 P) (n ak (n al (n ab (f (bg P)) (f ab)) (n ad (f bx) z)) (n ac (n (aO P) (f aa) (f bR)) (n ab (f ce) z))) (n aa (n aa (n ad (f ab) (f cf)) (n (a2 P) (f aa) z)) (n bn gM (n ad (f ch) z)))) (n ae (n am (n aa (n (aC P) (f ad) (f aa)) (n ab (f bS) z)) (n aD (n ad (f bT) (f ci)) (n (a9 P) (f (bU P)) z))) (n aa (n aE (n ab (f (bo P)) (f ab)) (n ad (f aa) z)) (n ad (n (aV P) (f bz) z) (n ab (f ck) z)))))) (n (boot_o_2 P) (n (boot_o_4 P) (n (boot_o_8 P) (n ab (n an gw (n a3 (f (bA P)) z)) (n ao (n aa (f bB) (f cm)) gv)) (n ap (n aq (n aP (f aa) (f aa)) (n aa (f (cn P)) z)) (n (ar P) gw (n bh (f bV) z)))) (n (l3 [(1,0,20),(5,0,27),(13,0,32),(18,0,39),(23,0,46),(34,0,53),(36,0,66),(38,0,78),(40,0,90),(42,0,102),(44,0,114),(46,0,126),(48,0,138),(51,0,150),(58,0,171),(66,0,190),(72,0,195),(77,0,202),(86,0,209),(92,0,214),(99,0,219)]) (n au (n av (n aa (f bp) (f bW)) (n aa (f bX) z)) (n ab (n aW (f aa) (f ab)) (n aa (f bY) z))) (n aw (n aa gw (n ba (f cp) z)) (n aF (n aa (f bZ) (f b0)) gu)))) (n (boot_o_6 P) (n (boot_o_10 P) (n aa (n aa (n aQ (f bi) (f cq)) (n ac (f bC) z)) (n (aG P) (n aR (f ac) (f b1)) (n bj (f b2) z))) (n aH (n ab (n ac (f bD) (f b3)) (n a4 (f ct) z)) (n ax (n a5 (f bE) (f cv)) (n ac (f cw) z)))) (n af (n aa (n aI (n aJ (f ac) (f ab)) (n bb (f aa) z)) (n aK (n ac (f b4) (f b5)) (n bc (f b6) z))) (n ab (n ay (n aX (f bq) (f b7)) (n ac (f ab) z)) (n ac (n aY (f bF) z) (n br (f b8) z))))))
theorem te1385331919588733560:tw1385331919588733560=tw1385331919588733560:=rfl
def tw4092282173823075193:Params→BT:=fun P=>n (boot_o_0 P) (n (boot_o_1 P) (n (gq P) (n (boot_o_7 P) (n aa (n az (n (aL P) (f bk) (f bG)) (n aZ (f bs) (f b9))) (n ag (n aS (f bt) (f aa)) (n (bd P) (f bH) (f ca)))) (n ab (n ah (n aM (f (bu P)) (f bI)) (n a6 (f ac) (f aa))) (n aa (n (a0 P) (f bJ) (f bK)) (n be (f bL) (f aa))))) (n aa (n aA (n ab (n aN (f bl) (f bM)) (n (a7 P) (f bv) (f cb))) (n aa (n aT (f (bN P)) (f aa)) (n bf (f bO) (f aa)))) (n ai (n aj (n (aU P) (f bw) (f bP)) (n a8 (f cc) (f aa))) (n aB (n a1 (f aa) (f bQ)) (n (bm P) (f aa) (f cd)))))) (n (boot_o_5 P) (n (boot_o_9 P) (n ak (n al (n ab (f (bg P)) (f ab)) (n ad (f bx) (f cG))) (n ac (n (aO P) (f aa) (f bR)) (n ab (f ce) (f ab)))) (n aa (n aa (n ad (f ab) (f cf)) (n (a2 P) (f aa) (f cg))) (n bn gM (n ad (f ch) (f cJ))))) (n ae (n am (n aa (n (aC P) (f ad) (f aa)) (n ab (f bS) (f ab))) (n aD (n ad (f bT) (f ci)) (n (a9 P) (f (bU P)) (f cj)))) (n aa (n aE (n ab (f (bo P)) (f ab)) (n ad (f aa) (f cM))) (n ad (n (aV P) (f bz) (f aa)) (n ab (f ck) z)))))) (n (boot_o_2 P) (n (boot_o_4 P) (n (boot_o_8 P) (n ab (n an gw (n a3 (f (bA P)) (f aa))) (n ao (n aa (f bB) (f cm)) gw)) (n ap (n aq (n aP (f aa) (f aa)) (n aa (f (cn P)) (f cR))) (n (ar P) gw (n bh (f bV) (f ab))))) (n (l3 [(1,0,20),(5,0,27),(13,0,32),(18,0,39),(23,0,46),(34,0,53),(36,0,66),(38,0,78),(40,0,90),(42,0,102),(44,0,114),(46,0,126),(48,0,138),(51,0,150),(58,0,171),(66,0,190),(72,0,195),(77,0,202),(86,0,209),(92,0,214),(99,0,219),(102,0,226),(112,0,233),(118,0,238),(134,0,245),(139,0,250)]) (n au (n av (n aa (f bp) (f bW)) (n aa (f bX) (f aa))) (n ab (n aW (f aa) (f ab)) (n aa (f bY) (f cT)))) (n aw (n aa gw (n ba (f cp) (f ab))) (n aF (n aa (f bZ) (f b0)) gu)))) (n (boot_o_6 P) (n (boot_o_10 P) (n aa (n aa (n aQ (f bi) (f cq)) (n ac (f bC) (f cr))) (n (aG P) (n aR (f ac) (f b1)) (n bj (f b2) (f cs)))) (n aH (n ab (n ac (f bD) (f b3)) (n a4 (f ct) (f cu))) (n ax (n a5 (f bE) (f cv)) (n ac (f cw) (f cx))))) (n af (n aa (n aI (n aJ (f ac) (f ab)) (n bb (f aa) (f cy))) (n aK (n ac (f b4) (f b5)) (n bc (f b6) (f cz)))) (n ab (n ay (n aX (f bq) (f b7)) (n ac (f ab) (f cA))) (n ac (n aY (f bF) (f ab)) (n br (f b8) z))))))
theorem te4092282173823075193:tw4092282173823075193=tw4092282173823075193:=rfl
def tw7364537662150463645:Params→BT:=fun P=>n (boot_o_0 P) (n (boot_o_1 P) (n (gs P) (n (boot_o_7 P) (n aa (n az (n (aL P) (n bk (f aa) z) (f bG)) (n aZ (n bs (f aa) z) (f b9))) (n ag (n aS (n bt (f cB) z) (f aa)) (n (bd P) (f bH) (f ca)))) (n ab (n ah (n aM (n (bu P) (f c1) z) (f bI)) (n a6 (n ac (f (cC P)) z) (f aa))) (n aa (n (a0 P) (n bJ (f cD) z) (f bK)) (n be (f bL) (f aa))))) (n aa (n aA (n ab (n aN (n bl (f aa) z) (f bM)) (n (a7 P) (n bv (f c3) z) (f cb))) (n aa (n aT (n (bN P) (f cE) z) (f aa)) (n bf (f bO) (f aa)))) (n ai (n aj (n (aU P) (n bw (f ab) z) (f bP)) (n a8 (n cc (f c5) z) (f aa))) (n aB (n a1 gv (f bQ)) (n (bm P) (f aa) (f cd)))))) (n (boot_o_5 P) (n (boot_o_9 P) (n ak (n al (n ab (n (bg P) (f c6) z) (f ab)) (n ad (n bx (f cF) z) (f cG))) (n ac (n (aO P) gv (f bR)) (n ab (f ce) (f ab)))) (n aa (n aa (n ad (n ab (f cH) z) (f cf)) (n (a2 P) (n aa (f cI) z) (f cg))) (n bn (n ab gy (f ab)) (n ad (f ch) (f cJ))))) (n ae (n am (n aa (n (aC P) (n ad (f cK) z) (f aa)) (n ab (n bS (f cL) z) (f ab))) (n aD (n ad (n bT (f c9) z) (f ci)) (n (a9 P) (f (bU P)) (f cj)))) (n aa (n aE (n ab (n (bo P) (f aa) z) (f ab)) (n ad (f aa) (f cM))) (n ad (n (aV P) (n bz (f cN) z) (f aa)) (n ab (f ck) (f ac))))))) (n (boot_o_2 P) (n (boot_o_4 P) (n (boot_o_8 P) (n ab (n an (n aa (n aa (f dc) z) (f aa)) (n a3 (n (bA P) (f ab) z) (f aa))) (n ao (n aa (n bB (f cO) z) (f cm)) gw)) (n ap (n aq (n aP (n aa (f cP) z) (f aa)) (n aa (n (cn P) (f cQ) z) (f cR))) (n (ar P) (n aa gv (f aa)) (n bh (f bV) (f ab))))) (n (l3 [(1,0,20),(5,0,27),(13,0,32),(18,0,39),(23,0,46),(34,0,53),(36,0,66),(38,0,78),(40,0,90),(42,0,102),(44,0,114),(46,0,126),(48,0,138),(51,0,150),(58,0,171),(66,0,190),(72,0,195),(77,0,202),(86,0,209),(92,0,214),(99,0,219),(102,0,226),(112,0,233),(118,0,238),(134,0,245),(139,0,250),(154,0,257)]) (n au (n av (n aa (n bp (f ab) z) (f bW)) (n aa (n bX (f cS) z) (f aa))) (n ab (n aW gv (f ab)) (n aa (f bY) (f cT)))) (n aw (n aa (n aa (n aa (f cU) z) (f aa)) (n ba (n cp (f dj) z) (f ab))) (n aF (n aa (n bZ (f dk) z) (f b0)) (n aa (f ab) (f aa)))))) (n (boot_o_6 P) (n (boot_o_10 P) (n aa (n aa (n aQ (n bi (f dl) z) (f cq)) (n ac (n bC (f aa) z) (f cr))) (n (aG P) (n aR (n ac (f ab) z) (f b1)) (n bj (f b2) (f cs)))) (n aH (n ab (n ac (n bD (f aa) z) (f b3)) (n a4 (n ct (f cV) z) (f cu))) (n ax (n a5 (n bE (f cW) z) (f cv)) (n ac (f cw) (f cx))))) (n af (n aa (n aI (n aJ (n ac (f aa) z) (f ab)) (n bb (n aa (f cX) z) (f cy))) (n aK (n ac (n b4 (f cY) z) (f b5)) (n bc (f b6) (f cz)))) (n ab (n ay (n aX (n bq (f dq) z) (f b7)) (n ac (f ab) (f cA))) (n ac (n aY (n bF (f cZ) z) (f ab)) (n br (f b8) (f (dr P))))))))
theorem te7364537662150463645:tw7364537662150463645=tw7364537662150463645:=rfl
def tw1302059147369630018:Params→Heap:=fun P=>Heap.mk #[boot_o_0 P,boot_o_1 P,boot_o_2 P,boot_o_3 P,boot_o_4 P,boot_o_5 P,boot_o_6 P,boot_o_7 P,boot_o_8 P,boot_o_9 P,boot_o_10 P,aa,ab,ae,af] (Life.mk [] [] [] 0 [] [] false #[] [] 0 false false false 0 [2000,10,10] false 0 true [] [] 0 false)
theorem te1302059147369630018:tw1302059147369630018=tw1302059147369630018:=rfl
def tw12854578659941218061:Params→Heap:=fun P=>Heap.mk #[boot_o_0 P,boot_o_1 P,boot_o_2 P,eS P,boot_o_4 P,boot_o_5 P,boot_o_6 P,boot_o_7 P,boot_o_8 P,boot_o_9 P,boot_o_10 P,aa,fR,ae,af,aa,ab,ak,aa,aA,au,am,aa,ab,ap,aa,aH,ai,aw,aa,ab,az,an,al,aa,ab,av,aa,aI,ah,aq,aa,ab,aj,aa,aE,ay,ag,ao,ac,aG P,aa,ab,aD,aK,aa,ar P,bn,ax,aB,aF,ad,ac,aL P,aa,ab,aQ,aN,aa,aC P,aJ,aM,aP,ad,ac,aU P,aa,ab,aX,aS,aa,aO P,aR,aT,aW,ad,ac,a0 P,aa,ab,a5,a1,aa,aV P,aY,aZ,a3,ad,ac,a7 P,aa,ab,bb,a6,aa,a2 P,a4,a8,ba,ad,ac,bd P,aa,ab,bj,bf,aa,a9 P,bc,be,bh,ad,ac,bm P,aa,ab,br,bk,aa,bg P,bi,bl,bp,ad,ac,bu P,aa,ab,bD,bw,aa,bo P,bq,bt,bB,aa,ac,bN P,aa,bT,b4,bJ,aa,ab,bE,aa,bZ,bz,bF,bs,bA P,bx,bC,bv,bX,bS,aa,ac,cn P,aa,ct,cc,cp,aa,ab,bH,aa,ce,b2,bO,bY,bU P,b6,bL,bV,ch,cw,aa,ab,ck,b8,bG,aa,ab,cq,bM,bW,aa,ab,bI,aa,cf,b3,bP,aa,ab,b7,aa,cm,bR,b1,aa,ab,ci,b5,bK,aa,ab,cv,bQ,b0,aa,ab,b9,aa,cG,cr,cb,aa,ab,cy,aa,cR,cg,cu,aa,ab,cM,cA,ca,aa,ab,cs,aa,cT,cj,cz,aa,ab,cJ,cx,cd,aa,ac,dr P,aa,dc,c6,dl,aa,ab,cK,aa,c1,cP,cH,aa,ab,cU,aa,dq,cB,cO,aa,ab,cE,aa,c9,cY,cD,aa,ab,cW,aa,dk,cN,cZ,aa,ab,cF,aa,c3,cS,cL,cX,cC P,cQ,cI,cV,c5,dj,aa,ab,c0,aa,dD,dm,c4,aa,ab,dp,aa,dO,c8,dn,aa,ab,db,aa,du,df,c7,aa,ab,dh,aa,dZ,c2,dg,aa,ab,dz,di,da,aa,ac,fi P,aa,fu,d3,ec,aa,ab,dx,aa,d7,dW,dB,aa,ab,d0,aa,d9,dC,dU,aa,ab,dI,aa,d2,dN,dF,aa,ab,dS,aa,ee,dv,dM,aa,ab,d4,dQ,dJ,aa,ab,ea,dG,dX,aa,ab,d8,d1,ds,aa,ab,dT,aa,eb,dH,dY,aa,ab,dE,aa,d5,dR,dK,aa,ab,dL,aa,ed,dy,dP,aa,ab,dw,aa,d6,dV,dA,aa,ab,ef,eh,ez,aa,ab,el,aa,fa,eN,ej,aa,ab,fz,eo,eE,aa,ab,ei,aa,e5,eI,en,aa,ab,eO,aa,fm,eu,eL,aa,ab,fe,eR,eg,aa,ab,eG,aa,fo,ev,eM,aa,ab,es,aa,e1,eD,ex,aa,ab,eA,aa,fw,em,eC,aa,ab,ek,aa,e8,eK,eq,aa,ab,eQ,aa,fg,er,eH,aa,ab,ew,aa,eV,eB,et,eJ,ep P,eF,ey,eP,eU,fj,aa,ab,e0,aa,fN,fE,eY,aa,ab,fA,aa,fT,ff,fG,aa,ab,fL,fs,eZ,aa,ab,fB,aa,fQ,e6,fy,aa,ab,fb,aa,fJ,fh,e3,aa,ab,fp,aa,fU,eW,fk,aa,ab,e2,aa,fO,fF,eT,aa,ab,ft,aa,fS,e9,fC,aa,ab,e7,aa,fK,fq,fc,aa,ab,fP,e4,fx,aa,ab,fv "law" "law" (x 50),fD,eX] (Life.mk [] [] [] 0 [] [] false #[] [] 0 false false false 0 [2000,10,10] false 0 true [] [] 0 false)
theorem te12854578659941218061:tw12854578659941218061=tw12854578659941218061:=rfl
def tw16746346339438015114:Params→Frag:=fun P=>[(2,boot_o_2 P),(3,eS P),(15,aa),(17,ak),(18,aa),(20,au),(21,am),(22,aa),(24,ap),(25,aa),(27,ai),(28,aw),(29,aa),(32,an),(33,al),(34,aa),(36,av),(37,aa),(39,ah),(40,aq),(41,aa),(43,aj),(44,aa),(46,ay),(47,ag),(48,ao),(55,aa),(56,ar P),(57,bn),(58,ax),(61,ad),(68,aa),(69,aC P),(70,aJ),(73,ad),(80,aa),(81,aO P),(82,aR),(85,ad),(92,aa),(93,aV P),(94,aY),(97,ad),(104,aa),(105,a2 P),(106,a4),(109,ad),(116,aa),(117,a9 P),(118,bc),(121,ad),(128,aa),(129,bg P),(130,bi),(133,ad),(140,aa),(141,bo P),(142,bq),(152,aa),(154,bE),(155,aa),(157,bz),(158,bF),(159,bs),(160,bA P),(161,bx),(162,bC),(163,bv),(173,aa),(175,bH),(176,aa),(178,b2),(179,bO),(180,bY),(181,bU P),(182,b6),(183,bL),(184,bV),(187,aa),(190,b8),(191,bG),(192,aa),(195,bM),(196,bW),(197,aa),(199,bI),(200,aa),(202,b3),(203,bP),(204,aa),(206,b7),(207,aa),(209,bR),(210,b1),(211,aa),(214,b5),(215,bK),(216,aa),(219,bQ),(220,b0),(221,aa),(223,b9),(224,aa),(226,cr),(227,cb),(228,aa),(230,cy),(231,aa),(233,cg),(234,cu),(235,aa),(238,cA),(239,ca),(240,aa),(242,cs),(243,aa),(245,cj),(246,cz),(247,aa),(250,cx),(251,cd),(259,aa),(261,cK),(262,aa),(264,cP),(265,cH),(266,aa),(268,cU),(269,aa),(271,cB),(272,cO),(273,aa),(275,cE),(276,aa),(278,cY),(279,cD),(280,aa),(282,cW),(283,aa),(285,cN),(286,cZ),(287,aa),(289,cF),(290,aa),(292,cS),(293,cL),(294,cX),(295,cC P),(296,cQ),(297,cI),(298,cV),(301,aa),(303,c0),(304,aa),(306,dm),(307,c4),(308,aa),(310,dp),(311,aa),(313,c8),(314,dn),(315,aa),(317,db),(318,aa),(320,df),(321,c7),(322,aa),(324,dh),(325,aa),(327,c2),(328,dg),(329,aa),(332,di),(333,da),(341,aa),(343,dx),(344,aa),(346,dW),(347,dB),(348,aa),(350,d0),(351,aa),(353,dC),(354,dU),(355,aa),(357,dI),(358,aa),(360,dN),(361,dF),(362,aa),(364,dS),(365,aa),(367,dv),(368,dM),(369,aa),(372,dQ),(373,dJ),(374,aa),(377,dG),(378,dX),(379,aa),(382,d1),(383,ds),(384,aa),(386,dT),(387,aa),(389,dH),(390,dY),(391,aa),(393,dE),(394,aa),(396,dR),(397,dK),(398,aa),(400,dL),(401,aa),(403,dy),(404,dP),(405,aa),(407,dw),(408,aa),(410,dV),(411,dA),(412,aa),(415,eh),(416,ez),(417,aa),(419,el),(420,aa),(422,eN),(423,ej),(424,aa),(427,eo),(428,eE),(429,aa),(431,ei),(432,aa),(434,eI),(435,en),(436,aa),(438,eO),(439,aa),(441,eu),(442,eL),(443,aa),(446,eR),(447,eg),(448,aa),(450,eG),(451,aa),(453,ev),(454,eM),(455,aa),(457,es),(458,aa),(460,eD),(461,ex),(462,aa),(464,eA),(465,aa),(467,em),(468,eC),(469,aa),(471,ek),(472,aa),(474,eK),(475,eq),(476,aa),(478,eQ),(479,aa),(481,er),(482,eH),(483,aa),(485,ew),(486,aa),(488,eB),(489,et),(490,eJ),(491,ep P),(492,eF),(493,ey),(494,eP),(497,aa),(499,e0),(500,aa),(502,fE),(503,eY),(504,aa),(506,fA),(507,aa),(509,ff),(510,fG),(511,aa),(514,fs),(515,eZ),(516,aa),(518,fB),(519,aa),(521,e6),(522,fy),(523,aa),(525,fb),(526,aa),(528,fh),(529,e3),(530,aa),(532,fp),(533,aa),(535,eW),(536,fk),(537,aa),(539,e2),(540,aa),(542,fF),(543,eT),(544,aa),(546,ft),(547,aa),(549,e9),(550,fC),(551,aa),(553,e7),(554,aa),(556,fq),(557,fc),(558,aa),(561,e4),(562,fx),(563,aa),(566,fD),(567,eX)]
theorem te16746346339438015114:tw16746346339438015114=tw16746346339438015114:=rfl
def tw11559974760720936001:List Stmt:=[x 29,x 30,x 31,x 32]
theorem te11559974760720936001:tw11559974760720936001=tw11559974760720936001:=rfl
def tw16703285539186742148:List Stmt:=[x 33,x 34,x 35,x 36,x 37]
theorem te16703285539186742148:tw16703285539186742148=tw16703285539186742148:=rfl
def tw13751094990321507621:List Stmt:=[x 24,x 25,x 26,x 27,x 28]
theorem te13751094990321507621:tw13751094990321507621=tw13751094990321507621:=rfl
def tw6540853416989472165:List Stmt:=[x 14,x 15]
theorem te6540853416989472165:tw6540853416989472165=tw6540853416989472165:=rfl
def tw247242642827003621:List Stmt:=[x 10]
theorem te247242642827003621:tw247242642827003621=tw247242642827003621:=rfl
def tw7206827175600886693:List Stmt:=[x 12]
theorem te7206827175600886693:tw7206827175600886693=tw7206827175600886693:=rfl
def tw14846866171044909639:List Stmt:=[x 17,x 18,x 19,x 20,x 21,x 22,x 23]
theorem te14846866171044909639:tw14846866171044909639=tw14846866171044909639:=rfl
def tw12692303939938392266:List Stmt:=[x 11]
theorem te12692303939938392266:tw12692303939938392266=tw12692303939938392266:=rfl
def tw10784018683201782380:List Stmt:=[x 8]
theorem te10784018683201782380:tw10784018683201782380=tw10784018683201782380:=rfl
def tw5127683296330676879:List Stmt:=[x 9]
theorem te5127683296330676879:tw5127683296330676879=tw5127683296330676879:=rfl
def tw2247435613184203123:List Stmt:=[x 0,x 1,x 2,x 3,x 4,x 5,x 6,x 7]
theorem te2247435613184203123:tw2247435613184203123=tw2247435613184203123:=rfl
def tw4062463150613665114:List Stmt:=[x 39,x 40,x 41,x 42,x 43,x 44,x 45,x 46,x 47,x 48,x 49,x 50]
theorem te4062463150613665114:tw4062463150613665114=tw4062463150613665114:=rfl
def tw11206650677689134074:List Stmt:=[x 38]
theorem te11206650677689134074:tw11206650677689134074=tw11206650677689134074:=rfl
def tw2252440407222515549:List Stmt:=[x 13]
theorem te2252440407222515549:tw2252440407222515549=tw2252440407222515549:=rfl
def tw1276479675347132350:List Stmt:=[x 16]
theorem te1276479675347132350:tw1276479675347132350=tw1276479675347132350:=rfl
def tw11935447037558918095:Program:={PySem.Challenge.pw_patchkin_k04_what_a_patch_does with main:={PySem.Challenge.pw_patchkin_k04_what_a_patch_does.main with body:=[x 0,x 2,x 3,x 4,x 5,x 7,x 8,x 9,x 10,x 11,x 12,x 13,x 14,x 16,x 17,x 18,x 19,x 20,x 21,x 22,x 23,x 24,x 25,x 26,x 27,x 28,x 29,x 31,x 32,x 33,x 34,x 35,x 36,x 37,x 38,x 40,x 41,x 42,x 43,x 44,x 45,x 46,x 47,x 48,x 49,x 50]}}
theorem te11935447037558918095:tw11935447037558918095=tw11935447037558918095:=rfl
end
end PySem.W.Fast
namespace PK
open PySem L2
theorem all_mk{l:W.OpenLaw}{w:World}{K:Qqy}{h:Heap}{mg:Qqx}{fa f0 f1 f2 f3 f4 f5 f6 f7 f8 f9 Yu Yv Yw Yx Yy Yz YA YB YC YD YE YF YG YH YI YJ YK YL YM YN f30 YO YQ YR YS YT YU YV YW YX YY YZ Y0 Y1 Y2 Y3 Y4 Y5 Y6 Y7 Y8 Y9 Y_ hU hG ig gp ly jy jl jo kE nI kZ sU:Addr}{mL lA:Tok}(X:K.In h)(G:h.Ns mainGlobals mg)(hfa:mg "law"=some (.ref fa))
  (BI:W.nsIn K mainGlobals "Line"=some (some (.ref hU)))
  (yM:W.nsIn K mainGlobals "Patch"=some (some (.ref hG)))
  (yN:W.nsIn K mainGlobals "Sight"=some (some (.ref ig)))
  (BJ:W.nsIn K mainGlobals "Desk"=some (some (.ref gp)))
  (h0:FI K "counts_with" oy f0)
  (h1:FI K "most_pairs" pK f1)
  (h2:FI K "place_from" pL f2)
  (h3:FI K "kept" Ee f3)
  (h4:FI K "lines_named_by" kC f4)
  (h5:FI K "leans_straight_on" jL f5)
  (h6:FI K "live_patches" nq f6)
  (h7:FI K "lines_put" qL f7)
  (h8:FI K "standing_lines" kD f8)
  (h9:FI K "files_with_lines" nr f9)
  (Sy:FI K "straight_ahead" lP Yu)
  (Rn:FI K "joined" x4 Yv)
  (V2:FI K "all_ahead" nY Yw)
  (V3:FI K "first_free" pM Yx)
  (V4:FI K "row_of" tY Yy)
  (V5:FI K "check_name" pN Yz)
  (V6:FI K "check_places" nu YA)
  (V7:FI K "kept_behind" oz YB)
  (V8:FI K "new_lines" qM YC)
  (V9:FI K "changing_patch" jO YD)
  (SA:FI K "_law_cell_at" nv YE)
  (Ro:FI K "_law_name" qQ YF)
  (V_:FI K "_law_text" n1 YG)
  (Wa:FI K "_law_edit" qR YH)
  (Wb:FI K "_law_whole" pS YI)
  (Wc:FI K "_law_row_form" mv YJ)
  (Wd:FI K "_law_line_is" nz YK)
  (We:FI K "_law_told_is" nA YL)
  (Wf:FI K "_law_twice" pT YM)
  (Wg:FI K "_law_puts" n4 YN)
  (Wh:FI K "law" vS f30)
  (Wi:MI K hU "__init__" "Line.__init__" ml YO)
  (Wj:MI K hG "__init__" "Patch.__init__" lO YQ)
  (Wk:MI K ig "__init__" "Sight.__init__" lQ YR)
  (Wl:MI K ig "is_ahead" "Sight.is_ahead" lR YS)
  (Wm:MI K ig "quarrelling" "Sight.quarrelling" kG YT)
  (Wn:MI K gp "__init__" "Desk.__init__" mq YU)
  (Wo:MI K gp "begin" "Desk.begin" pO YV)
  (Wq:MI K gp "patches" "Desk.patches" qN YW)
  (Wr:MI K gp "has" "Desk.has" pP YX)
  (SD:MI K gp "record" "Desk.record" l7 YY)
  (Rq:MI K gp "cut" "Desk.cut" pQ YZ)
  (Ws:MI K gp "back" "Desk.back" qO Y0)
  (Wt:MI K gp "told" "Desk.told" nZ Y1)
  (Wu:MI K gp "files" "Desk.files" tZ Y2)
  (Wv:MI K gp "row" "Desk.row" pR Y3)
  (Ww:MI K gp "patches_of" "Desk.patches_of" j4 Y4)
  (Wx:MI K gp "sight_of" "Desk.sight_of" mr Y5)
  (Wy:MI K gp "check_store" "Desk.check_store" kW Y6)
  (Wz:MI K gp "check_made" "Desk.check_made" lr Y7)
  (SE:MI K gp "check_held" "Desk.check_held" lu Y8)
  (Rr:MI K gp "check_new" "Desk.check_new" lS Y9)
  (WA:MI K gp "keep" "Desk.keep" qP Y_)
  (BK:W.plainGet K hU Str.empty=true)
  (BL:W.hasDictIn K hU=true)
  (BM:W.plainOver K hU=true)
  (BN:W.findIn K (.ref hU) "__setattr__"=some (some (.builtin "object.__setattr__")))
  (BO:W.makesIn K hU=true)
  (BP:W.keepIn K (.ref hU)=true)
  (hZ:W.findIn K (.ref hU) "name"=some none)
  (ji:W.findIn K (.ref hU) "text"=some none)
  (iA:W.findIn K (.ref hU) "upper_name"=some none)
  (iB:W.findIn K (.ref hU) "lower_name"=some none)
  (yO:W.plainGet K hG Str.empty=true)
  (yP:W.hasDictIn K hG=true)
  (yQ:W.plainOver K hG=true)
  (yR:W.findIn K (.ref hG) "__setattr__"=some (some (.builtin "object.__setattr__")))
  (yS:W.makesIn K hG=true)
  (yT:W.keepIn K (.ref hG)=true)
  (iW:W.findIn K (.ref hG) "name"=some none)
  (jI:W.findIn K (.ref hG) "file"=some none)
  (jm:W.findIn K (.ref hG) "puts"=some none)
  (jn:W.findIn K (.ref hG) "cuts"=some none)
  (iN:W.findIn K (.ref hG) "other"=some none)
  (yU:W.plainGet K ig Str.empty=true)
  (yV:W.hasDictIn K ig=true)
  (yW:W.plainOver K ig=true)
  (yX:W.findIn K (.ref ig) "__setattr__"=some (some (.builtin "object.__setattr__")))
  (yY:W.makesIn K ig=true)
  (yZ:W.keepIn K (.ref ig)=true)
  (ju:W.findIn K (.ref ig) "ahead"=some none)
  (iw:W.findIn K (.ref ig) "lines"=some none)
  (BQ:W.plainGet K gp Str.empty=true)
  (BR:W.hasDictIn K gp=true)
  (BS:W.plainOver K gp=true)
  (BU:W.findIn K (.ref gp) "__setattr__"=some (some (.builtin "object.__setattr__")))
  (BV:W.makesIn K gp=true)
  (BW:W.keepIn K (.ref gp)=true)
  (i0:W.findIn K (.ref gp) "made"=some none)
  (jJ:W.findIn K (.ref gp) "needs"=some none)
  (i3:W.findIn K (.ref gp) "held"=some none)
  (oE:W.nsIn K mainGlobals "PatchError"=some (some (.ref ly)))
  (tf:W.nsIn K mainGlobals "BadName"=some (some (.ref jy)))
  (qb:W.nsIn K mainGlobals "NameTaken"=some (some (.ref jl)))
  (tj:W.nsIn K mainGlobals "NoStore"=some (some (.ref jo)))
  (tw:W.nsIn K mainGlobals "NoPatch"=some (some (.ref kE)))
  (vF:W.nsIn K mainGlobals "NoLine"=some (some (.ref nI)))
  (qc:W.nsIn K mainGlobals "Unsettled"=some (some (.ref kZ)))
  (BX:W.nsIn K mainGlobals "Same"=some (some (.ref sU)))
  (oF:W.nsIn K mainGlobals "NAME_SIGNS"=some (some (.str (Str.ofString "abcdefghijklmnopqrstuvwxyz0123456789") mL)))
  (mz:W.nsIn K mainGlobals "LONGEST_NAME"=some (some (.int 12 lA)))
  (Jo:W.nsIn K mainGlobals "len"=some none)
  (BY:W.nsIn K mainGlobals "range"=some none)
  (Jp:W.nsIn K mainGlobals "max"=some none)
  (qd:W.nsIn K mainGlobals "isinstance"=some none)
  (Jq:W.nsIn K mainGlobals "int"=some none)
  (EI:W.nsIn K mainGlobals "bool"=some none)
  (EJ:W.nsIn K mainGlobals "list"=some none)
  (BZ:W.nsIn K mainGlobals "tuple"=some none)
  (Jr:W.nsIn K mainGlobals "str"=some none)
  (tD:W.nsIn K mainGlobals "reversed"=some none)
  (y0:W.nsIn K mainGlobals "sorted"=some none)
  (Js:W.nsIn K mainGlobals "set"=some none)
  (rK:W.nsIn K mainGlobals "enumerate"=some none)
  (qf:W.nsIn K mainGlobals "ValueError"=some none)
  (oG:W.excIn K ly [.type "ValueError",.type "Exception",.type "BaseException",.type "object"] "ValueError.__new__"=true)
  (tE:W.excIn K jy [.type "ValueError",.type "Exception",.type "BaseException",.type "object"] "ValueError.__new__"=true)
  (qg:W.excIn K jl [.type "ValueError",.type "Exception",.type "BaseException",.type "object"] "ValueError.__new__"=true)
  (tF:W.excIn K jo [.type "ValueError",.type "Exception",.type "BaseException",.type "object"] "ValueError.__new__"=true)
  (tG:W.excIn K kE [.type "ValueError",.type "Exception",.type "BaseException",.type "object"] "ValueError.__new__"=true)
  (vG:W.excIn K nI [.type "ValueError",.type "Exception",.type "BaseException",.type "object"] "ValueError.__new__"=true)
  (qh:W.excIn K kZ [.type "ValueError",.type "Exception",.type "BaseException",.type "object"] "ValueError.__new__"=true)
  (B0:W.excIn K sU [.type "ValueError",.type "Exception",.type "BaseException",.type "object"] "ValueError.__new__"=true) :
  ∃fd:FuncData,(∀(s:Shared)(v:Value),BindsTo s fd ⟨[v],[]⟩ [("script",v)])∧∀base:Heap,K.In base→base.Ns mainGlobals mg→iz l.prog w K mg base mB 20 fa fd ["script"] (Ff K):=by
 obtain⟨m0,d0,F0⟩:=h0
 obtain⟨m1,d1,F1⟩:=h1
 obtain⟨m2,d2,F2⟩:=h2
 obtain⟨m3,d3,F3⟩:=h3
 obtain⟨m4,d4,F4⟩:=h4
 obtain⟨m5,d5,F5⟩:=h5
 obtain⟨m6,d6,F6⟩:=h6
 obtain⟨m7,d7,F7⟩:=h7
 obtain⟨m8,d8,F8⟩:=h8
 obtain⟨m9,d9,F9⟩:=h9
 obtain⟨m10,d10,Za⟩:=Sy
 obtain⟨m11,d11,Zb⟩:=Rn
 obtain⟨m12,d12,Zc⟩:=V2
 obtain⟨m13,d13,Zd⟩:=V3
 obtain⟨m14,d14,Ze⟩:=V4
 obtain⟨m15,d15,Zf⟩:=V5
 obtain⟨m16,d16,Zg⟩:=V6
 obtain⟨m17,d17,Zh⟩:=V7
 obtain⟨m18,d18,Zi⟩:=V8
 obtain⟨m19,d19,Zj⟩:=V9
 obtain⟨m20,d20,Zk⟩:=SA
 obtain⟨m21,d21,Zl⟩:=Ro
 obtain⟨m22,d22,Zm⟩:=V_
 obtain⟨m23,d23,Zn⟩:=Wa
 obtain⟨m24,d24,Zo⟩:=Wb
 obtain⟨m25,d25,Zp⟩:=Wc
 obtain⟨m26,d26,Zq⟩:=Wd
 obtain⟨m27,d27,Zr⟩:=We
 obtain⟨m28,d28,Zs⟩:=Wf
 obtain⟨m29,d29,Zt⟩:=Wg
 obtain⟨m30,d30,Zu⟩:=Wh
 obtain⟨WB,d31,Zv⟩:=Wi
 obtain⟨WC,d32,Zw⟩:=Wj
 obtain⟨WD,d33,Zx⟩:=Wk
 obtain⟨m34,d34,Zy⟩:=Wl
 obtain⟨m35,d35,Zz⟩:=Wm
 obtain⟨WE,d36,ZA⟩:=Wn
 obtain⟨m37,d37,ZC⟩:=Wo
 obtain⟨m38,d38,ZD⟩:=Wq
 obtain⟨m39,d39,ZE⟩:=Wr
 obtain⟨m40,d40,ZF⟩:=SD
 obtain⟨m41,d41,ZG⟩:=Rq
 obtain⟨m42,d42,ZH⟩:=Ws
 obtain⟨m43,d43,ZI⟩:=Wt
 obtain⟨m44,d44,ZJ⟩:=Wu
 obtain⟨m45,d45,ZK⟩:=Wv
 obtain⟨m46,d46,ZL⟩:=Ww
 obtain⟨m47,d47,ZM⟩:=Wx
 obtain⟨m48,d48,ZN⟩:=Wy
 obtain⟨m49,d49,ZO⟩:=Wz
 obtain⟨m50,d50,ZP⟩:=SE
 obtain⟨m51,d51,ZQ⟩:=Rr
 obtain⟨m52,d52,ZR⟩:=WA
 have e:=hfa.symm.trans (aah X G m30)
 cases e
 have T:Txt mg:=⟨aaO X G Jo,aaO X G BY,aaO X G Jp,aaO X G qd,aaO X G Jq,aaO X G EI,aaO X G EJ,aaO X G BZ,aaO X G Jr,aaO X G tD,aaO X G y0,aaO X G Js,aaO X G rK,aaO X G qf⟩
 have O:Ok K mg (Ad.mk f0 d0 f1 d1 f2 d2 f3 d3 YO d31 YQ d32 f4 d4 f5 d5 f6 d6 f7 d7 f8 d8 f9 d9 Yu d10 Yv d11 Yw d12 Yx d13 Yy d14 YR d33 YS d34 YT d35 Yz d15 YA d16 YB d17 YC d18 YD d19 YU d36 YV d37 YW d38 YX d39 YY d40 YZ d41 Y0 d42 Y1 d43 Y2 d44 Y3 d45 Y4 d46 Y5 d47 Y6 d48 Y7 d49 Y8 d50 Y9 d51 Y_ d52 YE d20 YF d21 YG d22 YH d23 YI d24 YJ d25 YK d26 YL d27 YM d28 YN d29 hU hG ig gp ly jy jl jo kE nI kZ sU mL lA ()):=⟨⟨F0,F0.bd,aah X G m0⟩,⟨F1,F1.bd,aah X G m1⟩,⟨F2,F2.bd,aah X G m2⟩,⟨F3,F3.bd,aah X G m3⟩,⟨Zv,Zv.bd,WB⟩,⟨Zw,Zw.bd,WC⟩,⟨F4,F4.bd,aah X G m4⟩,⟨F5,F5.bd,aah X G m5⟩,⟨F6,F6.bd,aah X G m6⟩,⟨F7,F7.bd,aah X G m7⟩,⟨F8,F8.bd,aah X G m8⟩,⟨F9,F9.bd,aah X G m9⟩,⟨Za,Za.bd,aah X G m10⟩,⟨Zb,Zb.bd,aah X G m11⟩,⟨Zc,Zc.bd,aah X G m12⟩,⟨Zd,Zd.bd,aah X G m13⟩,⟨Ze,Ze.bd,aah X G m14⟩,⟨Zx,Zx.bd,WD⟩,⟨Zy,Zy.bd,m34⟩,⟨Zz,Zz.bd,m35⟩,⟨Zf,Zf.bd,aah X G m15⟩,⟨Zg,Zg.bd,aah X G m16⟩,⟨Zh,Zh.bd,aah X G m17⟩,⟨Zi,Zi.bd,aah X G m18⟩,⟨Zj,Zj.bd,aah X G m19⟩,⟨ZA,ZA.bd,WE⟩,⟨ZC,ZC.bd,m37⟩,⟨ZD,ZD.bd,m38⟩,⟨ZE,ZE.bd,m39⟩,⟨ZF,ZF.bd,m40⟩,⟨ZG,ZG.bd,m41⟩,⟨ZH,ZH.bd,m42⟩,⟨ZI,ZI.bd,m43⟩,⟨ZJ,ZJ.bd,m44⟩,⟨ZK,ZK.bd,m45⟩,⟨ZL,ZL.bd,m46⟩,⟨ZM,ZM.bd,m47⟩,⟨ZN,ZN.bd,m48⟩,⟨ZO,ZO.bd,m49⟩,⟨ZP,ZP.bd,m50⟩,⟨ZQ,ZQ.bd,m51⟩,⟨ZR,ZR.bd,m52⟩,⟨Zk,Zk.bd,aah X G m20⟩,⟨Zl,Zl.bd,aah X G m21⟩,⟨Zm,Zm.bd,aah X G m22⟩,⟨Zn,Zn.bd,aah X G m23⟩,⟨Zo,Zo.bd,aah X G m24⟩,⟨Zp,Zp.bd,aah X G m25⟩,⟨Zq,Zq.bd,aah X G m26⟩,⟨Zr,Zr.bd,aah X G m27⟩,⟨Zs,Zs.bd,aah X G m28⟩,⟨Zt,Zt.bd,aah X G m29⟩,⟨BK,BL,BM,BN⟩,⟨BO,WB.at_,WB.fn,BP⟩,aah X G BI,hZ,ji,iA,iB,⟨yO,yP,yQ,yR⟩,⟨yS,WC.at_,WC.fn,yT⟩,aah X G yM,iW,jI,jm,jn,iN,⟨yU,yV,yW,yX⟩,⟨yY,WD.at_,WD.fn,yZ⟩,aah X G yN,ju,iw,⟨BQ,BR,BS,BU⟩,⟨BV,WE.at_,WE.fn,BW⟩,aah X G BJ,i0,jJ,i3,⟨aah X G oE,oG⟩,⟨aah X G tf,tE⟩,⟨aah X G qb,qg⟩,⟨aah X G tj,tF⟩,⟨aah X G tw,tG⟩,⟨aah X G vF,vG⟩,⟨aah X G qc,qh⟩,⟨aah X G BX,B0⟩,aah X G oF,aah X G mz,True.intro⟩
 refine⟨d30,fun s v=>?_,fun base _ _=>NQ Zu T O⟩
 obtain⟨_,_,_,_,_,_,_,_,_,rfl,_,_⟩:=Zu.ex
 exact .of_eq rfl
theorem walk{l:W.OpenLaw}{q:Program}{loose:List Str}{XP:(Qqx)→Heap→Prop}{YP:World→Heap→Prop}{d:DefRec}{K:Params→Qqy}(hn:l.most=some 63)(Qx:d.params.defaults=[])
  (hY:∀(w:World)(h:Heap),YP w h→(K w.params).In h)
  (F:∀(w:World)(mg:Qqx)(fa:Addr)(h:Heap),(K w.params).In h→h.Ns mainGlobals mg→mg d.name=some (.ref fa)→
   ∃fd:FuncData,(∀(s:Shared)(u:Value),BindsTo s fd ⟨[u],[]⟩ [("script",u)])∧∀base:Heap,(K w.params).In base→base.Ns mainGlobals mg→iz l.prog w (K w.params) mg base mB 20 fa fd ["script"] (Ff (K w.params))) :
  W.WalkO q loose XP YP l.row.toRowW d [] (fun f vs=>PySem.call f vs):=
 L2.J7 (n:=63) (k:=20) (x:="script") (CX:=fun _=>mB) (sp:=fun w=>Ff (K w.params)) hn (by decide) Qx ⟨rfl,by decide,by decide⟩ hY F (fun _ _ a ns hl _ hS=>⟨a,ns,rfl,hS,hl,fun _=>rfl⟩) fun _ _ _ _ _ z=>z
end PK
open PySem PySem.W PyProof.Rows
theorem PySem.Challenge.cw_patchkin_k04_what_a_patch_does_holds : PySem.Challenge.rw_patchkin_k04_what_a_patch_does.Holds := by
 w_on;o_law;k_head;(case hw=>w_witness2)
 k_fill
 refine PK.walk (l:=PySem.Challenge.rw_patchkin_k04_what_a_patch_does) rfl rfl (fun w h Y=>PySem.W.kIn_of Y) ?F
 case F=>
  intro w mg fa h KX G Qy
  refine' PK.all_mk KX G Qy ?zqBI ?zqyM ?zqyN ?zqBJ ?zqh0 ?zqh1 ?zqh2 ?zqh3 ?zqh4 ?zqh5 ?zqh6 ?zqh7 ?zqh8 ?zqh9 ?zqSy ?zqRn ?zqV2 ?zqV3 ?zqV4 ?zqV5 ?zqV6 ?zqV7 ?zqV8 ?zqV9 ?zqSA ?zqRo ?zqV_ ?zqWa ?zqWb ?zqWc ?zqWd ?zqWe ?zqWf ?zqWg ?zqWh ?zqWi ?zqWj ?zqWk ?zqWl ?zqWm ?zqWn ?zqWo ?zqWq ?zqWr ?zqSD ?zqRq ?zqWs ?zqWt ?zqWu ?zqWv ?zqWw ?zqWx ?zqWy ?zqWz ?zqSE ?zqRr ?zqWA ?zqBK ?zqBL ?zqBM ?zqBN ?zqBO ?zqBP ?zqhZ ?zqji ?zqiA ?zqiB ?zqyO ?zqyP ?zqyQ ?zqyR ?zqyS ?zqyT ?zqiW ?zqjI ?zqjm ?zqjn ?zqiN ?zqyU ?zqyV ?zqyW ?zqyX ?zqyY ?zqyZ ?zqju ?zqiw ?zqBQ ?zqBR ?zqBS ?zqBU ?zqBV ?zqBW ?zqi0 ?zqjJ ?zqi3 ?zqoE ?zqtf ?zqqb ?zqtj ?zqtw ?zqvF ?zqqc ?zqBX ?zqoF ?zqmz ?zqJo ?zqBY ?zqJp ?zqqd ?zqJq ?zqEI ?zqEJ ?zqBZ ?zqJr ?zqtD ?zqy0 ?zqJs ?zqrK ?zqqf ?zqoG ?zqtE ?zqqg ?zqtF ?zqtG ?zqvG ?zqqh ?zqB0
  (case zqBI|zqyM|zqyN|zqBJ=>k_is)
  (case zqh0|zqh1|zqh2|zqh3|zqh4|zqh5|zqh6|zqh7|zqh8|zqh9|zqSy|zqRn|zqV2|zqV3|zqV4|zqV5|zqV6|zqV7|zqV8|zqV9|zqSA|zqRo|zqV_|zqWa|zqWb|zqWc|zqWd|zqWe|zqWf|zqWg|zqWh=>refine' L2.PR ?a ?l ?c ?k;(case a=>k_is);(case l=>k_is);(case c=>k_is);(case k=>k_is))
  (case zqWi|zqWj|zqWk|zqWl|zqWm|zqWn|zqWo|zqWq|zqWr|zqSD|zqRq|zqWs|zqWt|zqWu|zqWv|zqWw|zqWx|zqWy|zqWz|zqSE|zqRr|zqWA=>refine' L2.PU ?a ?i ?l ?c ?k;(case a=>k_is);(case i=>k_is);(case l=>k_is);(case c=>k_is);(case k=>k_is))
  (case zqBK|zqBL|zqBM|zqBN|zqBO|zqBP|zqhZ|zqji|zqiA|zqiB|zqyO|zqyP|zqyQ|zqyR|zqyS|zqyT|zqiW|zqjI|zqjm|zqjn|zqiN|zqyU|zqyV|zqyW|zqyX|zqyY|zqyZ|zqju|zqiw|zqBQ|zqBR|zqBS|zqBU|zqBV|zqBW|zqi0|zqjJ|zqi3|zqoE|zqtf|zqqb|zqtj|zqtw|zqvF|zqqc|zqBX|zqoF|zqmz|zqJo|zqBY|zqJp|zqqd|zqJq|zqEI|zqEJ|zqBZ|zqJr|zqtD|zqy0|zqJs|zqrK|zqqf=>k_is)
  (case zqoG|zqtE|zqqg|zqtF|zqtG|zqvG|zqqh|zqB0=>k_exc)
