import inspect
import random
import unittest

import changing
from brute import ODD_VALUES, items_of, ranks_of
from samples import columns_table, larger, small, with_splits
from stepping import BASES, NO_BASES, RIGHT_COMPOUNDS, RIGHT_SINGLES, WRONG_STEPS
from unseenrest import changes
from unseenrest.building import is_bases
from unseenrest.changes import changed, contracted, cut, deleted, extended, renamed, topped, truncated, united
from unseenrest.errors import DuplicateName, InvalidBases, InvalidName, InvalidStep, TooMany, UnknownName
from unseenrest.structures import Structure

SIX = ["a", "b", "c", "d", "e", "f"]
LONE_ODD = [value for value in ODD_VALUES if value != "a"]
PLANE = [0, 1, 1, 2, 1, 2, 2, 2]


def tried():
    return small() + with_splits(4, named=2) + with_splits(4, named=3)[::3] + larger()


def groups_of(structure):
    """The groups of its names: all of them, or some for many names."""
    names = structure.names()
    found = [tuple(name for at, name in enumerate(names) if index >> at & 1) for index in range(2 ** len(names))]
    return found if len(found) <= 8 else found[::9] + [found[-1]]


class Base(unittest.TestCase):
    def check_raises(self, error, attributes, call, *given, **named):
        with self.assertRaises(error) as caught:
            call(*given, **named)
        self.assertIs(type(caught.exception), error)
        for name, value in attributes.items():
            found = getattr(caught.exception, name)
            self.assertEqual((type(found), found), (type(value), value))

    def check_same(self, found, ranks, unseen):
        names = sorted(item for item in changing.everything(ranks) if isinstance(item, str))
        self.assertEqual((found.names(), found.unseen), (names, unseen))
        self.assertEqual(ranks_of(found), ranks)


class TestByDefinition(Base):
    def test_delete_and_contract(self):
        for structure in tried():
            ranks = ranks_of(structure)
            for name in structure.names():
                self.check_same(deleted(structure, name), changing.deleted(ranks, name), structure.unseen)
                self.check_same(contracted(structure, name), changing.contracted(ranks, name), structure.unseen)

    def test_extend(self):
        for structure in tried():
            if len(structure) < 6 and len(structure) + structure.unseen < 12:
                ranks = ranks_of(structure)
                for name in ("aa", "c", "zzzz"):
                    if name not in structure:
                        for group in groups_of(structure):
                            found = extended(structure, name, *group)
                            self.check_same(found, changing.extended(ranks, name, group), structure.unseen)

    def test_top(self):
        for structure in tried():
            if len(structure) < 6 and len(structure) + structure.unseen < 12:
                for name in ("aa", "zzzz"):
                    found = topped(structure, name)
                    self.check_same(found, changing.topped(ranks_of(structure), name), structure.unseen)

    def test_truncate(self):
        for structure in tried():
            ranks = ranks_of(structure)
            for group in groups_of(structure):
                self.check_same(truncated(structure, *group), changing.truncated(ranks, group), structure.unseen)

    def test_cut(self):
        for structure in tried():
            self.check_same(cut(structure), changing.cut(ranks_of(structure)), structure.unseen)

    def test_unite(self):
        drawn = random.Random(2)
        for structure in tried():
            names = structure.names()
            fitting = self.bases_on(names, drawn)
            many = 1 if len(names) + structure.unseen > 10 else len(fitting)
            for bases in drawn.sample(fitting, min(many, 12)):
                self.check_same(united(structure, bases), changing.united(ranks_of(structure), bases), structure.unseen)

    def bases_on(self, names, drawn):
        """Drawn bases on some names."""
        found = [((),)]
        for _ in range(12):
            if names:
                size = drawn.randrange(1, len(names) + 1)
                groups = {tuple(sorted(drawn.sample(names, size))) for _ in range(drawn.randrange(1, 7))}
                if is_bases(tuple(groups)):
                    found.append(tuple(groups))
        return found

    def test_rename(self):
        for structure in tried():
            ranks = ranks_of(structure)
            for name in structure.names():
                for fresh in ("aa", "c", "zzzz", name):
                    if fresh == name or fresh not in structure:
                        found = renamed(structure, name, fresh)
                        self.check_same(found, changing.renamed(ranks, name, fresh), structure.unseen)

    def test_the_new_ones_could_have_been_built(self):
        for structure in small():
            for name in structure.names():
                made = [deleted(structure, name), contracted(structure, name), extended(structure, "c", name)]
                made += [topped(structure, "c"), truncated(structure, name), cut(structure), renamed(structure, name, "c")]
                made += [united(structure, ((name,),))]
                for one in made:
                    self.assertEqual(Structure(one.names(), one.table(), unseen=one.unseen), one)
                    self.assertEqual(one.names(), sorted(one.names()))


class TestSteps(Base):
    def steps_for(self, structure):
        names = structure.names()
        steps = [("dual",), ("cut",)] + [("truncate", group) for group in groups_of(structure)]
        steps += [("unite", ((),))] + [("unite", ((name,),)) for name in names]
        for name in names:
            steps += [("delete", name), ("contract", name), ("rename", name, name), ("rename", name, "q")]
        if len(names) < 6 and len(items_of(structure)) < 12:
            steps += [("top", "q")] + [("extend", "q", group) for group in groups_of(structure)]
        return steps

    def test_changed_does_each_step(self):
        for structure in small() + larger()[:2]:
            ranks = ranks_of(structure)
            for step in self.steps_for(structure):
                self.check_same(changed(structure, step), changing.changed(ranks, step), structure.unseen)

    def test_all_right_steps_are_taken_as_steps(self):
        structure = Structure.free(["a", "b", "c", "zzzz"])
        for step in RIGHT_SINGLES:
            try:
                changed(structure, step)
            except (UnknownName, DuplicateName):
                pass

    def test_no_step(self):
        for structure in (Structure([], [0]), Structure.free(SIX)):
            for value in WRONG_STEPS + RIGHT_COMPOUNDS:
                self.check_raises(InvalidStep, {"path": ()}, changed, structure, value)

    def test_then_the_errors_of_the_function_of_its_word(self):
        structure = Structure.free(["a", "c"])
        for step, name in (
            (("delete", "b"), "b"), (("contract", "b"), "b"), (("extend", "a", ("a", "b", "d")), "b"),
            (("truncate", ("a", "b", "d")), "b"), (("unite", (("c",), ("e",), ("b",))), "e"), (("rename", "b", "a"), "b"),
        ):
            self.check_raises(UnknownName, {"name": name}, changed, structure, step)
        for step in (("extend", "a", ("a", "c")), ("top", "a"), ("rename", "c", "a")):
            self.check_raises(DuplicateName, {"name": "a"}, changed, structure, step)
        for step in (("extend", "g", ("a",)), ("top", "g")):
            self.check_raises(TooMany, {"subject": "names", "most": 6}, changed, Structure.free(SIX), step)
            full = Structure(SIX[:5], [0] * 2 ** 12, unseen=7)
            self.check_raises(TooMany, {"subject": "elements", "most": 12}, changed, full, step)


class TestEdges(Base):
    def test_the_empty_group(self):
        structure = Structure(["b", "c"], PLANE, unseen=1)
        self.assertIs(extended(structure, "a").is_loop("a"), True)
        self.assertEqual(truncated(structure), structure)
        self.assertEqual(changed(structure, ("extend", "a", ())), extended(structure, "a"))
        self.assertEqual(changed(structure, ("truncate", ())), structure)

    def test_a_group_of_rank_zero(self):
        structure = from_loops(["a", "b"], ["c"])
        self.assertEqual(truncated(structure, "a", "b"), structure)
        self.assertIs(extended(structure, "p", "a", "b").is_loop("p"), True)
        self.assertEqual(truncated(structure, "a", "c").full, 0)

    def test_full_rank_zero(self):
        for structure in (Structure([], [0]), Structure(["a"], [0, 0, 0, 0], unseen=1), Structure([], [0, 0], unseen=1)):
            self.assertEqual(cut(structure), structure)
            self.assertIs(topped(structure, "p").is_loop("p"), True)

    def test_loops_and_bridges_deleted_and_contracted(self):
        loop, bridge = from_loops(["a"], ["b"]), Structure.free(["a", "b"])
        self.assertEqual(deleted(loop, "a"), contracted(loop, "a"))
        self.assertEqual(deleted(loop, "a"), Structure.free(["b"]))
        self.assertEqual(deleted(bridge, "a"), contracted(bridge, "a"))
        self.assertEqual(deleted(bridge, "a").full, 1)
        line = Structure.uniform(["a", "b"], 1)
        self.assertEqual((deleted(line, "a").full, contracted(line, "a").full), (1, 0))

    def test_the_unseen_elements_count_for_top_and_cut(self):
        structure = Structure(["a"], [0, 1, 1, 2], unseen=1)
        self.assertEqual(topped(structure, "p").rank("a", "p"), 2)
        self.assertEqual(extended(structure, "p", "a").rank("a", "p"), 1)
        self.assertEqual(topped(structure, "p").full, 2)
        self.assertEqual(cut(structure).table(), [0, 1, 1, 1])
        self.assertEqual(truncated(structure, "a").table(), [0, 0, 1, 1])

    def test_a_group_in_any_order_and_with_names_more_than_once(self):
        structure = Structure(["a", "b", "c"], columns_table([1, 2, 3, 4]), unseen=1)
        expected = extended(structure, "p", "a", "c")
        self.assertEqual(extended(structure, "p", "c", "a"), expected)
        self.assertEqual(extended(structure, "p", "c", "a", "c", "c"), expected)
        self.assertEqual(extended(structure, "p", "a", "a"), extended(structure, "p", "a"))
        expected = truncated(structure, "b", "c")
        self.assertEqual(truncated(structure, "c", "b"), expected)
        self.assertEqual(truncated(structure, "c", "b", "b", "c"), expected)

    def test_truncating_is_extending_and_contracting(self):
        for structure in small():
            for group in groups_of(structure):
                self.assertEqual(contracted(extended(structure, "p", *group), "p"), truncated(structure, *group))
            self.assertEqual(contracted(topped(structure, "p"), "p"), cut(structure))

    def test_a_name_renamed_to_itself(self):
        structure = Structure(["b", "c"], PLANE, unseen=1)
        self.assertEqual(renamed(structure, "b", "b"), structure)
        self.assertEqual(changed(structure, ("rename", "c", "c")), structure)

    def test_a_renamed_element_takes_its_new_place(self):
        structure = from_loops(["b"], ["a", "c"])
        found = renamed(structure, "b", "d")
        self.assertEqual((found.names(), found.is_loop("d"), found.table()), (["a", "c", "d"], True, [0, 1, 1, 2] * 2))

    def test_up_to_six_names_and_twelve_elements(self):
        five = Structure(SIX[:5], [0] * 2 ** 11, unseen=6)
        self.assertEqual((len(extended(five, "f")), len(topped(five, "g"))), (6, 6))
        self.assertEqual(len(extended(Structure.free(SIX[:5]), "f", *SIX[:5])), 6)
        self.assertEqual(extended(Structure(["a"], [0] * 2 ** 10, unseen=9), "b").unseen, 9)

    def test_the_old_structure_stays(self):
        structure = Structure(["a", "b"], PLANE, unseen=1)
        for step in RIGHT_SINGLES:
            try:
                changed(structure, step)
            except (UnknownName, DuplicateName):
                pass
        self.assertEqual((structure.names(), structure.table(), structure.unseen), (["a", "b"], PLANE, 1))


def from_loops(loops, bridges):
    """The structure whose elements are loops and bridges."""
    return Structure.uniform(loops, 0) + Structure.free(bridges)


class TestErrors(Base):
    def test_unknown_names(self):
        structure = Structure(["a", "c"], PLANE, unseen=1)
        for value in LONE_ODD + ["b"]:
            unknown = {"name": value}
            self.check_raises(UnknownName, unknown, deleted, structure, value)
            self.check_raises(UnknownName, unknown, contracted, structure, value)
            self.check_raises(UnknownName, unknown, truncated, structure, "a", value, "d")
            self.check_raises(UnknownName, unknown, truncated, structure, value)
            self.check_raises(UnknownName, unknown, extended, structure, "a", "c", value, "d")
            self.check_raises(UnknownName, unknown, extended, structure, "p", value, None)
            self.check_raises(UnknownName, unknown, renamed, structure, value, "a")
            self.check_raises(UnknownName, unknown, renamed, structure, value, None)

    def test_values_that_are_no_names(self):
        structure = Structure(["a", "c"], PLANE, unseen=1)
        for value in LONE_ODD:
            wrong = {"value": value}
            self.check_raises(InvalidName, wrong, extended, structure, value, "b")
            self.check_raises(InvalidName, wrong, extended, structure, value)
            self.check_raises(InvalidName, wrong, topped, structure, value)
            self.check_raises(InvalidName, wrong, renamed, structure, "a", value)
            self.check_raises(InvalidName, wrong, topped, Structure.free(SIX), value)
            self.check_raises(InvalidName, wrong, extended, Structure.free(SIX), value)

    def test_names_that_are_there(self):
        for structure in (Structure(["a", "c"], PLANE, unseen=1), Structure.free(SIX), full_one()):
            self.check_raises(DuplicateName, {"name": "c"}, extended, structure, "c", "a", "c")
            self.check_raises(DuplicateName, {"name": "a"}, topped, structure, "a")
            self.check_raises(DuplicateName, {"name": "a"}, renamed, structure, "c", "a")
            self.check_raises(DuplicateName, {"name": "c"}, renamed, structure, "a", "c")

    def test_too_many_names_and_elements(self):
        names, whole = {"subject": "names", "most": 6}, {"subject": "elements", "most": 12}
        for structure in (Structure.free(SIX), Structure(SIX, [0] * 2 ** 12, unseen=6)):
            self.check_raises(TooMany, names, extended, structure, "g", "a")
            self.check_raises(TooMany, names, topped, structure, "g")
        for structure in (full_one(), Structure(SIX[:5], [0] * 2 ** 12, unseen=7)):
            self.check_raises(TooMany, whole, extended, structure, "g", "a")
            self.check_raises(TooMany, whole, topped, structure, "g")
        self.check_raises(UnknownName, {"name": "g"}, extended, Structure.free(SIX), "g", "g")

    def test_unite(self):
        structure = Structure(["a", "c"], PLANE, unseen=1)
        for value, at in NO_BASES:
            self.check_raises(InvalidBases, {"at": at}, united, structure, value)
        self.check_raises(UnknownName, {"name": "d"}, united, structure, (("a", "d"), ("a", "b"), ("b", "d")))
        self.check_raises(UnknownName, {"name": "b"}, united, structure, (("a",), ("b",), ("d",)))
        for bases in BASES:
            unknown = [name for base in bases for name in base if name not in ("a", "c")]
            if unknown:
                self.check_raises(UnknownName, {"name": unknown[0]}, united, structure, bases)


def full_one():
    return Structure(["a", "b", "c"], [0] * 2 ** 12, unseen=9)


class TestInterface(unittest.TestCase):
    def test_parameters(self):
        either, rest = inspect.Parameter.POSITIONAL_OR_KEYWORD, inspect.Parameter.VAR_POSITIONAL
        expected = {
            "deleted": ["structure", "name"], "contracted": ["structure", "name"], "topped": ["structure", "name"],
            "extended": ["structure", "name", "group"], "truncated": ["structure", "group"], "cut": ["structure"],
            "united": ["structure", "bases"], "renamed": ["structure", "name", "fresh"], "changed": ["structure", "step"],
        }
        for name, parameters in expected.items():
            function = getattr(changes, name)
            self.assertEqual(function.__module__, "unseenrest.changes")
            found = inspect.signature(function).parameters.values()
            kinds = [rest if one == "group" else either for one in parameters]
            self.assertEqual([(one.name, one.kind) for one in found], list(zip(parameters, kinds)))
            self.assertEqual([one.default for one in found if one.default is not one.empty], [])

    def test_arguments_by_name(self):
        structure = Structure.free(["a"])
        self.assertEqual(deleted(name="a", structure=structure), Structure([], [0]))
        self.assertEqual(contracted(name="a", structure=structure), Structure([], [0]))
        self.assertEqual(topped(name="p", structure=structure), extended(structure, "p", "a"))
        self.assertEqual(cut(structure=structure), Structure(["a"], [0, 0]))
        self.assertEqual(united(bases=((),), structure=structure), structure)
        self.assertEqual(renamed(fresh="b", name="a", structure=structure), Structure.free(["b"]))
        self.assertEqual(changed(step=("cut",), structure=structure), Structure(["a"], [0, 0]))


if __name__ == "__main__":
    unittest.main()
