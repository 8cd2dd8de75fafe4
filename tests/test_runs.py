import random
import unittest

from helper import KINDS, TOP, make, some_program, stand
from traylate.errors import NoMove
from traylate.machines import Machine

SET_LOOK = (("put", 0, 4), ("set", 3, 0), ("look", 1, 5), ("set", 5, 0), ("clear",), ("swap", 2, 3))
# Goes round for ever: register 3 always has 0.
ROUND = (("add", 0, 1), ("set", 3, 0), ("look", 1, 5), ("put", 1, 1), ("set", 5, 0), ("look", 2, 3), ("skip", 3, 0))
ROUND_CLEARED = (("put", 0, 2), ("set", 7, 0), ("clear",), ("swap", 1, 7), ("skip", 3, 0))


def told_lists(machine):
    lists = [machine.moves(), machine.board(), machine.deeds()]
    lists += [machine.over(name) for name in range(12)]
    for clerk in range(len(machine.program)):
        lists += [machine.registers(clerk), machine.waiting(clerk)]
    return lists


class Plainest:
    """A machine anew, as the document's words go, over one list of settings for each clerk."""

    def __init__(self, program, kind):
        self.program = program
        self.kind = kind
        self.clerks = range(len(program))
        self.places = [0] * len(program)
        self.done = [0] * len(program)
        self.registers = [[0] * 4 for part in program]
        self.trays = [[] for part in program]
        self.board = [(0, None)] * 12
        self.deeds = []
        self.over = [[] for name in range(12)]

    def moves(self):
        found = []
        for clerk in self.clerks:
            if self.places[clerk] < len(self.program[clerk]):
                word = self.program[clerk][self.places[clerk]][0]
                if word not in ("swap", "clear") or not self.trays[clerk]:
                    found.append(("do", clerk))
        for clerk in self.clerks:
            waits = self.trays[clerk][:1] if self.kind == "row" else self.trays[clerk]
            found += [("carry", clerk, name) for name in sorted({setting[0] for setting in waits})]
        return found

    def come(self, name, number, deed):
        self.board[name] = (number, deed)
        self.over[name].append(deed)

    def make(self, move):
        clerk = move[1]
        tray = self.trays[clerk]
        if move[0] == "carry":
            setting = [setting for setting in tray if setting[0] == move[2]][0]
            tray.remove(setting)
            self.come(*setting)
            return
        word, *parts = self.program[clerk][self.places[clerk]]
        regs = self.registers[clerk]
        number = len(self.deeds)
        self.done[clerk] += 1
        self.places[clerk] += 1
        if word == "put":
            regs[parts[0]] = parts[1]
        if word == "add":
            total = regs[parts[0]] + regs[parts[1]]
            regs[parts[0]] = total - TOP if total >= TOP else total
        if word == "set":
            self.deeds.append(("set", clerk, parts[0], None, regs[parts[1]], None))
            if self.kind == "none":
                self.come(parts[0], regs[parts[1]], number)
            else:
                tray.append((parts[0], regs[parts[1]], number))
        if word == "look":
            own = [setting[1:] for setting in tray if setting[0] == parts[1]]
            got = (own or [self.board[parts[1]]])[-1]
            self.deeds.append(("look", clerk, parts[1], got[0], None, got[1]))
            regs[parts[0]] = got[0]
        if word == "swap":
            got = self.board[parts[1]]
            self.deeds.append(("swap", clerk, parts[1], got[0], regs[parts[0]], got[1]))
            self.come(parts[1], regs[parts[0]], number)
            regs[parts[0]] = got[0]
        if word == "skip" and regs[parts[0]] == 0:
            self.places[clerk] = parts[1]

    def stand(self):
        return {
            "program": self.program,
            "kind": self.kind,
            "moves": self.moves(),
            "ended": not any(self.trays) and all(self.places[c] == len(self.program[c]) for c in self.clerks),
            "places": self.places,
            "done": self.done,
            "registers": self.registers,
            "waiting": [[setting[:2] for setting in tray] for tray in self.trays],
            "board": [number for number, deed in self.board],
            "deeds": self.deeds,
            "over": self.over,
        }


class SettleTest(unittest.TestCase):
    PART = (("put", 0, 1), ("set", 5, 0), ("put", 0, 2), ("set", 2, 0), ("put", 0, 3), ("set", 5, 0))
    MADE = "d1 d1 d1 d1 d1 d1 d0 d0 d0 d0 d0 d0"

    def test_the_carries_made(self):
        told = {
            "row": [("carry", 0, 5), ("carry", 0, 2), ("carry", 0, 5), ("carry", 1, 5), ("carry", 1, 2), ("carry", 1, 5)],
            "name": [("carry", 0, 2), ("carry", 0, 5), ("carry", 0, 5), ("carry", 1, 2), ("carry", 1, 5), ("carry", 1, 5)],
            "none": [],
        }
        for kind in KINDS:
            with self.subTest(kind=kind):
                machine = Machine((self.PART, self.PART), kind)
                make(machine, self.MADE)
                made = machine.settle()
                self.assertEqual(made, told[kind])
                self.assertIs(type(made), list)
                self.assertEqual([machine.waiting(0), machine.waiting(1)], [[], []])
                self.assertEqual((machine.board()[2], machine.board()[5]), (2, 3))
                self.assertEqual(machine.steps_done(0), 6)
                if kind != "none":
                    self.assertEqual([machine.over(2), machine.over(5)], [[4, 1], [3, 5, 0, 2]])

    def test_settled_again_it_makes_none(self):
        for kind in KINDS:
            machine = Machine((self.PART, self.PART), kind)
            make(machine, self.MADE)
            machine.settle()
            kept = stand(machine)
            self.assertEqual(machine.settle(), [])
            self.assertEqual(stand(machine), kept)

    def test_a_new_machine_settles_without_a_move(self):
        machine = Machine((self.PART,))
        kept = stand(machine)
        self.assertEqual(machine.settle(), [])
        self.assertEqual(stand(machine), kept)

    def test_amid_a_run(self):
        machine = Machine((SET_LOOK, SET_LOOK))
        make(machine, "d0 d0 d1 d1 d0 d0")
        self.assertEqual(machine.settle(), [("carry", 0, 3), ("carry", 0, 5), ("carry", 1, 3)])
        self.assertEqual(machine.moves(), [("do", 0), ("do", 1)])
        self.assertIs(machine.ended(), False)

    def test_as_its_moves_made_one_by_one(self):
        for kind in KINDS:
            machine = Machine((self.PART, self.PART, SET_LOOK), kind)
            make(machine, self.MADE + " d2 d2 d2 d2")
            other = machine.twin()
            for move in machine.settle():
                self.assertEqual([told for told in other.moves() if told[0] == "carry"][0], move)
                other.do(move)
            self.assertEqual(stand(other), stand(machine))

    def test_the_list_told_is_the_askers_own(self):
        machine = Machine((self.PART, self.PART))
        make(machine, self.MADE)
        made = machine.settle()
        kept = stand(machine)
        made.append(("do", 0))
        made[0] = None
        self.assertEqual(stand(machine), kept)
        self.assertEqual(machine.settle(), [])


class EndedTest(unittest.TestCase):
    def test_empty_parts(self):
        for many in [1, 2, 3, 4]:
            for kind in KINDS:
                machine = Machine(((),) * many, kind)
                self.assertIs(machine.ended(), True)
                self.assertEqual(machine.moves(), [])

    def test_at_the_length_with_a_tray_that_is_not_empty(self):
        for kind in ["row", "name"]:
            machine = Machine(((("set", 1, 0),), ()), kind)
            self.assertIs(machine.ended(), False)
            make(machine, "d0")
            self.assertIs(machine.ended(), False)
            make(machine, "c0.1")
            self.assertIs(machine.ended(), True)
            with self.assertRaises(NoMove):
                machine.do(("do", 0))

    def test_with_trays_of_the_kind_none(self):
        machine = Machine(((("set", 1, 0),),), "none")
        make(machine, "d0")
        self.assertIs(machine.ended(), True)

    def test_one_clerk_alone_is_not_enough(self):
        machine = Machine(((("put", 0, 1),), (("put", 0, 1),)))
        make(machine, "d1")
        self.assertIs(machine.ended(), False)
        make(machine, "d0")
        self.assertIs(machine.ended(), True)

    def test_no_move_just_where_it_has_ended(self):
        chance = random.Random(18)
        seen = {True: 0, False: 0}
        for turn in range(300):
            machine = Machine(some_program(chance), chance.choice(KINDS))
            for move in range(60):
                moves = machine.moves()
                self.assertIs(machine.ended(), moves == [])
                seen[machine.ended()] += 1
                if not moves:
                    break
                machine.do(chance.choice(moves))
        self.assertGreater(min(seen.values()), 50)


class TwinTest(unittest.TestCase):
    def machine(self, kind):
        machine = Machine((SET_LOOK, SET_LOOK, ()), kind)
        make(machine, "d0 d0 d1 d0 d1")
        return machine

    def test_stands_alike(self):
        for kind in KINDS:
            machine = self.machine(kind)
            twin = machine.twin()
            self.assertIs(type(twin), Machine)
            self.assertEqual(stand(twin), stand(machine))
            self.assertEqual((twin.program, twin.kind), (machine.program, kind))

    def test_of_a_new_machine_and_of_one_that_has_ended(self):
        for kind in KINDS:
            machine = Machine((SET_LOOK,), kind)
            self.assertEqual(stand(machine.twin()), stand(machine))
            make(machine, "d0 d0 d0 d0")
            machine.settle()
            make(machine, "d0 d0")
            self.assertIs(machine.ended(), True)
            self.assertEqual(stand(machine.twin()), stand(machine))

    def test_moves_of_the_one_change_nothing_of_the_other(self):
        for kind in KINDS:
            with self.subTest(kind=kind):
                machine = self.machine(kind)
                twin = machine.twin()
                kept = stand(machine)
                make(twin, "d0 d1")
                twin.settle()
                make(twin, "d0 d0 d1")
                moved = stand(twin)
                self.assertEqual(stand(machine), kept)
                self.assertNotEqual(moved, kept)
                machine.settle()
                make(machine, "d1 d1")
                self.assertEqual(stand(twin), moved)

    def test_the_same_moves_lead_to_the_same_stand(self):
        for kind in KINDS:
            machine = self.machine(kind)
            twin = machine.twin().twin()
            for one in [machine, twin]:
                make(one, "d0 d1")
                one.settle()
                make(one, "d0 d1")
            self.assertEqual(stand(twin), stand(machine))

    def test_what_is_seen_across_the_twin(self):
        # What waited, and what lay on the board, when the twin was made keep their deeds.
        part = (("put", 0, 4), ("set", 3, 0), ("set", 4, 0), ("look", 1, 3), ("look", 2, 4))
        machine = Machine((part,))
        make(machine, "d0 d0 d0 c0.3")
        twin = machine.twin()
        make(twin, "d0 d0")
        self.assertEqual(twin.deeds()[2:], [("look", 0, 3, 4, None, 0), ("look", 0, 4, 4, None, 1)])
        make(twin, "c0.4")
        self.assertEqual((twin.over(3), twin.over(4), machine.over(4)), ([0], [1], []))

    def test_a_refused_move_of_the_one(self):
        machine = self.machine("row")
        twin = machine.twin()
        with self.assertRaises(NoMove):
            twin.do(("do", 2))
        self.assertEqual(stand(twin), stand(machine))


class ListsTest(unittest.TestCase):
    def test_each_list_told_changed_changes_nothing(self):
        for kind in KINDS:
            machine = Machine((SET_LOOK, ROUND), kind)
            make(machine, "d0 d1 d0 d1 d0 d0")
            machine.do(machine.moves()[-1])
            kept = stand(machine)
            for told in told_lists(machine):
                self.assertIs(type(told), list)
                told.append(("do", 7))
                told[0] = 99
                told.reverse()
            self.assertEqual(stand(machine), kept)
            for told in told_lists(machine):
                told.clear()
            self.assertEqual(stand(machine), kept)

    def test_lists_told_stay_as_they_are_when_moves_are_made(self):
        for kind in KINDS:
            machine = Machine((SET_LOOK, ROUND), kind)
            make(machine, "d0 d1 d0 d1 d0")
            held = told_lists(machine)
            kept = [list(told) for told in held]
            make(machine, "d0 d1 d1 d1")
            machine.settle()
            make(machine, "d0 d0")
            self.assertEqual(held, kept)

    def test_how_many_of_each(self):
        machine = Machine((SET_LOOK,))
        self.assertEqual(len(machine.registers(0)), 4)
        self.assertEqual(len(machine.board()), 12)


class RunsTest(unittest.TestCase):
    def test_as_the_document_goes(self):
        chance = random.Random(5)
        for turn in range(400):
            program = some_program(chance)
            kind = KINDS[turn % 3]
            machine = Machine(program, kind)
            other = Plainest(program, kind)
            self.assertEqual(stand(machine), other.stand())
            for made in range(60):
                moves = machine.moves()
                if not moves:
                    break
                if chance.randrange(10) == 0:
                    machine = machine.twin()
                move = chance.choice(moves)
                machine.do(move)
                other.make(move)
                self.assertEqual(stand(machine), other.stand())
            for move in machine.settle():
                self.assertEqual([told for told in other.moves() if told[0] == "carry"][0], move)
                other.make(move)
            self.assertEqual(stand(machine), other.stand())

    def test_a_run_of_ten_thousand_moves_by_turns(self):
        for kind in KINDS:
            with self.subTest(kind=kind):
                program = (ROUND, ROUND_CLEARED, ROUND, ROUND_CLEARED)
                machine = Machine(program, kind)
                other = Plainest(program, kind)
                for made in range(10000):
                    moves = machine.moves()
                    move = moves[made * 7 % len(moves)]
                    machine.do(move)
                    other.make(move)
                self.assertEqual(stand(machine), other.stand())
                self.assertIs(machine.ended(), False)
                for move in machine.settle():
                    other.make(move)
                self.assertEqual(stand(machine), other.stand())

    def test_a_run_of_ten_thousand_moves_with_a_tray_that_grows(self):
        part = (("set", 3, 0), ("look", 1, 5), ("set", 4, 1), ("add", 0, 1), ("skip", 3, 0))
        for kind in KINDS:
            with self.subTest(kind=kind):
                machine = Machine((part,), kind)
                for made in range(10000):
                    self.assertEqual(machine.moves()[0], ("do", 0))
                    machine.do(("do", 0))
                self.assertEqual((machine.where(0), machine.steps_done(0)), (0, 10000))
                self.assertEqual(len(machine.deeds()), 6000)
                waits = 0 if kind == "none" else 4000
                self.assertEqual(len(machine.waiting(0)), waits)
                self.assertEqual(len(machine.settle()), waits)
                self.assertEqual(machine.over(3), list(range(0, 6000, 3)))
                self.assertEqual(machine.over(4), list(range(2, 6000, 3)))
                self.assertEqual(machine.waiting(0), [])


if __name__ == "__main__":
    unittest.main()
