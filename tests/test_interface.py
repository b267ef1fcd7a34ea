"""The names and arguments of DOC.md's interface, as they stand there."""

import importlib
import inspect
import unittest

FUNCTIONS = """
words: is_whole(thing) is_name(thing) is_time(thing) is_amount(thing) is_among(thing,least,most) number_text(number)
    number_of(word)
events: is_event(thing) shown(event) event_of(line)
steps: is_step(thing) name_of(step) feeders(step) is_teller(step)
plans: checked(plan) place_of(plan,name) fed(plan,place) tellers(plan)
notes: written(plan) plan_of(lines)
clocks: late_places(slack,times)
spans: starts(time,size,step) meets(start,end,time,most)
tallies: tally_of(amount) added(one,other) value(sort,tally)
pieces: put_each(pieces,time,amount,size,step) put_gap(pieces,time,amount,most) parted(pieces,now)
routes: spread(plan,joins,event)
flow: joins_of(plan) groups_of(plan)
packs: packed(flow)
unpacks: unpacked(plan,slack,lines)
once: items_of(plan,name,events) told_once(plan,events) on_time(slack,events)
answers: answer(plan_lines,slack,every,event_lines,stops)
reasons: told_why(plan,events) why(plan,events,row)
handkeeps: hand_packed(hand,count) hand_unpacked(plan,lines) whole_count(lines)
"""
CLASSES = """
clocks: Clock(slack) admit(time)
groups: Group(step) put(item) close(now) pieces()
sides: Side() put(item) near(key,low,high) drop(least) kept()
joins: Join(within) come(side,item) drop(now)
flow: Flow(plan,slack) come(event) finish()
shelves: Shelf() write(slot,lines) torn(slot,lines,many) last() tell(number,row) name_late(place)
keepers: Keeper(plan,slack,every) come(event) stop(many) go_on() finish() outcome()
hands: Hand(plan) bring(event) forget(now) over(now) give_up(key) take_in(key,parcel)
houses: House(plan,slack,many) come(event) finish() home(key) move(key,number)
wards: Part(plan)
wards: Ward(plan,slack,many,every) come(event) lose(at,many) back(at) finish()
desk: Desk(plan_lines,slack,every) say(line)
"""
FIELDS = [
    ("clocks", "Clock", (5,), "slack now count"), ("groups", "Group", (("gap", "a", "b", "sum", 5),), "rows"),
    ("sides", "Side", (), "rows"), ("joins", "Join", (5,), "within sides"),
    ("flow", "Flow", ([], 5), "plan clock joins groups number"), ("shelves", "Shelf", (), "slots rows late"),
    ("keepers", "Keeper", ([], 5, 1), "shelf flow log"), ("hands", "Hand", ([],), "plan joins groups"),
    ("houses", "House", ([], 5, 2), "clock hands homes"), ("wards", "Part", ([],), "hand slots seen"),
    ("wards", "Ward", ([], 5, 2, 1), "clock log parts number"),
]


def rows(text):
    """Of each row the module's name, and a list of names with their arguments."""
    told = []
    for line in text.replace("\n    ", " ").strip().split("\n"):
        module, rest = line.split(": ")
        told.append((importlib.import_module("brooktally." + module), [part.rstrip(")").split("(") for part in rest.split()]))
    return told


def arguments(thing):
    return ",".join(name for name in inspect.signature(thing).parameters if name != "self")


class InterfaceTest(unittest.TestCase):
    def test_functions(self):
        for module, parts in rows(FUNCTIONS):
            for name, wanted in parts:
                self.assertEqual(arguments(getattr(module, name)), wanted, (module.__name__, name))

    def test_classes(self):
        for module, parts in rows(CLASSES):
            made = getattr(module, parts[0][0])
            self.assertTrue(inspect.isclass(made))
            self.assertEqual(arguments(made), parts[0][1], parts[0][0])
            for name, wanted in parts[1:]:
                self.assertEqual(arguments(getattr(made, name)), wanted, (parts[0][0], name))

    def test_fields_are_set_when_it_is_made(self):
        for module, name, handed, fields in FIELDS:
            made = getattr(importlib.import_module("brooktally." + module), name)(*handed)
            self.assertLessEqual(set(fields.split()), set(vars(made)), name)


if __name__ == "__main__":
    unittest.main()
