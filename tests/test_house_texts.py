"""Promises [57] and [58]: steps that are taken back and made again, trials, and texts of houses."""

import random
import unittest

from house_kit import PlainHouse, asked, filled, history, random_step, shown, stands
from kit import BIGGER, NO_NAMES, Raises
from rangepools.errors import BadLine, NoPool, NothingToRedo, NothingToUndo, PoolError, Short
from rangepools.house import House, read_house
from rangepools.ratios import Ratio

LINES = ["add one oil salt 2 1/10", "add two salt tin 2 0", "pay ann oil 100", "pay ann salt 100", "pay ann tin 100", "pay bob oil 100",
         "pay bob salt 100", "pay bob tin 100", "pay cid oil 100", "pay cid salt 100", "pay cid tin 100", "lend ann one low 1 4 6",
         "lend bob one high 2 5 3", "lend ann two low 1 4 6", "trade cid one salt 10"]
FURTHER = ["send cid oil one,two 1/10", "grow ann one low 1/2", "lessen ann one low 13/2", "collect bob one high", "trade cid one oil 0",
           "close bob one high", "lend bob one high 1/3 3/2 5/7", "send cid tin two 1", "add ten oil tin 1/2 9/10", "pay dot zinc 1/2"]


def all_texts(lines):
    return "\n".join(lines)


def line_of(error):
    return error.line


class Steps(unittest.TestCase, Raises):
    def test_what_counts_as_a_step(self):
        house = filled()
        self.assertEqual((len(house), type(len(house))), (15, int))
        for run in (house.web, house.paid, house.present, house.text, house.trial, lambda: house.purse("ann"),
                    lambda: house.owner("one", "low"), lambda: house.fees("one", "low"), lambda: house.supposed("pay ann oil 1", "ann")):
            run()
            self.assertEqual(len(house), 15)
        self.raised(Short, house.trade, "dot", "one", "oil", 1)
        self.assertEqual(len(house), 15)
        house.trade("dot", "one", "oil", 0)
        self.assertEqual(len(house), 16)

    def test_taken_back_and_made_again(self):
        house = filled()
        seen = []
        while len(house) > 0:
            seen.append(stands(house))
            self.assertIsNone(house.undo())
        self.assertEqual((house.text(), house.present(), len(house.web())), ("", {}, 0))
        self.raised(NothingToUndo, house.undo)
        while seen:
            self.assertIsNone(house.redo())
            self.assertEqual(stands(house), seen.pop())
        self.raised(NothingToRedo, house.redo)
        self.assertEqual(house.text(), all_texts(LINES))

    def test_an_empty_house_has_nothing_to_take_back(self):
        house = House()
        self.raised(NothingToUndo, house.undo)
        self.raised(NothingToRedo, house.redo)
        self.assertEqual(len(house), 0)

    def test_a_new_step_behind_steps_taken_back(self):
        house = filled()
        house.undo()
        house.undo()
        house.redo()
        house.undo()
        self.assertEqual(house.text(), all_texts(LINES[:-2]))
        house.pay("dot", "oil", 1)
        self.raised(NothingToRedo, house.redo)
        self.assertEqual(house.text(), all_texts(LINES[:-2] + ["pay dot oil 1"]))
        house.undo()
        house.redo()
        self.raised(NothingToRedo, house.redo)
        self.assertEqual(house.text(), all_texts(LINES[:-2] + ["pay dot oil 1"]))

    def test_an_error_is_no_step(self):
        house = filled()
        house.undo()
        for run in (lambda: house.trade("dot", "one", "oil", 1), lambda: house.pay("", "oil", 1), lambda: house.close("cid", "one", "low"),
                    lambda: house.add("one", "oil", "salt", 2, 0), lambda: house.supposed("x", "ann")):
            self.assertRaises(PoolError, run)
        house.redo()
        self.assertEqual(house.text(), all_texts(LINES))

    def test_each_kind_of_step(self):
        house = read_house(all_texts(LINES))
        for line in FURTHER:
            before = stands(house)
            other = read_house(all_texts([house.text(), line]))
            behind = stands(other)
            self.assertNotEqual(behind, before)
            other.undo()
            self.assertEqual(stands(other), before)
            other.redo()
            self.assertEqual(stands(other), behind)
            house = other
        self.assertEqual(house.text(), all_texts(LINES + FURTHER))


class Trials(unittest.TestCase, Raises):
    def test_a_trial_that_ends_well(self):
        house = filled()
        house.undo()
        before, known = stands(house), history(house)
        with house.trial() as trial:
            self.assertIs(trial, house)
            trial.pay("dot", "oil", 1)
            house.trade("cid", "one", "oil", 1)
            house.close("ann", "one", "low")
            self.assertEqual(len(house), 17)
            self.assertNotEqual(stands(house), before)
        self.assertEqual((stands(house), history(house)), (before, known))
        house.redo()
        self.assertEqual(house.text(), all_texts(LINES))

    def test_a_trial_that_ends_by_an_error(self):
        house = filled()
        before, known = stands(house), history(house)
        for error in (NoPool, KeyError):
            with self.assertRaises(error):
                with house.trial() as trial:
                    trial.undo()
                    trial.pay("dot", "oil", 1)
                    if error is NoPool:
                        trial.trade("dot", "ten", "oil", 1)
                    raise KeyError("x")
            self.assertEqual((stands(house), history(house)), (before, known))

    def test_steps_taken_back_and_made_again_in_a_trial(self):
        house = filled()
        house.undo()
        known = history(house)
        with house.trial():
            house.redo()
            self.raised(NothingToRedo, house.redo)
        self.assertEqual(history(house), known)
        with house.trial():
            for _ in range(14):
                house.undo()
            self.raised(NothingToUndo, house.undo)
            house.pay("eva", "oil", 1)
        self.assertEqual(history(house), known)

    def test_trials_within_one_another(self):
        house = filled()
        outer = stands(house)
        with house.trial():
            house.pay("dot", "oil", 1)
            house.undo()
            inner, known = stands(house), history(house)
            with house.trial() as trial:
                trial.redo()
                trial.pay("dot", "tin", 1)
                with self.assertRaises(Short):
                    with trial.trial():
                        trial.undo()
                        trial.trade("dot", "one", "salt", 1)
                self.assertEqual(shown(trial.purse("dot")), [("oil", "1"), ("tin", "1")])
            self.assertEqual((stands(house), history(house)), (inner, known))
        self.assertEqual(stands(house), outer)
        self.raised(NothingToRedo, house.redo)

    def test_a_trial_begins_with_its_block(self):
        house = filled()
        trial = house.trial()
        house.pay("dot", "oil", 1)
        before = stands(house)
        with trial:
            house.pay("dot", "oil", 2)
        self.assertEqual(stands(house), before)

    def test_a_block_may_be_left_by_return(self):
        house = filled()
        before = stands(house)

        def left():
            with house.trial() as trial:
                trial.undo()
                return len(trial)
        self.assertEqual((left(), stands(house)), (14, before))


class Supposed(unittest.TestCase, Raises):
    def test_the_purse_behind_further_steps(self):
        house = filled()
        house.undo()
        before, known = stands(house), history(house)
        self.assertEqual(shown(house.supposed("pay dot zinc 1/2\npay dot ale 2", "dot")), [("ale", "2"), ("zinc", "1/2")])
        self.assertEqual(shown(house.supposed("", "cid")), shown(house.purse("cid")))
        self.assertEqual(shown(house.supposed(person="cid", text=LINES[-1])), [("oil", "203/2"), ("salt", "90"), ("tin", "100")])
        for person in NO_NAMES + ["dot"]:
            self.assertEqual(house.supposed("pay ann oil 1", person), {})
        self.assertEqual((stands(house), history(house)), (before, known))

    def test_the_number_of_the_first_wrong_line(self):
        house = filled()
        house.undo()
        before, known = stands(house), history(house)
        for text, line in [("x", 1), ("pay dot oil 1\ntrade dot one oil 2", 2), ("pay dot oil 1\n", 2), ("\n", 1), ("pay dot oil 1\n\nx", 2),
                           ("add one oil salt 2 1/10", 1), ("trade dot one oil 1\nx", 1)]:
            self.assertEqual(line_of(self.raised(BadLine, house.supposed, text, "dot")), line)
            self.assertEqual((stands(house), history(house)), (before, known))
        self.assertEqual(read_house("").supposed("pay ann oil 1", "ann")["oil"].text(), "1")


class Texts(unittest.TestCase, Raises):
    def bad(self, text, line):
        error = self.raised(BadLine, read_house, text)
        self.assertEqual((error.line, type(error.line)), (line, int))

    def test_the_text_of_a_house(self):
        self.assertEqual(filled().text(), all_texts(LINES))
        house = House()
        house.add("one", "oil", "salt", Ratio(4, 2), 0)
        house.pay("ann", "oil", Ratio(-6, -4))
        house.pay("ann", "salt", BIGGER)
        house.lend("ann", "one", "low", 1, Ratio(4), Ratio(1, BIGGER))
        house.send("ann", "oil", ("one",), 0)
        self.assertEqual(house.text(), f"add one oil salt 2 0\npay ann oil 3/2\npay ann salt {BIGGER}\nlend ann one low 1 4 1/{BIGGER}\n"
                                       "send ann oil one 0")

    def test_texts_are_read(self):
        for lines in ([], LINES[:1], LINES, LINES + FURTHER):
            house = read_house(text=all_texts(lines))
            self.assertIs(type(house), House)
            self.assertEqual((house.text(), len(house)), (all_texts(lines), len(lines)))
            self.raised(NothingToRedo, house.redo)
            self.assertEqual(house.paid(), house.present())
        self.assertEqual(stands(read_house(all_texts(LINES))), stands(filled()))
        self.assertEqual(history(read_house(all_texts(LINES))), history(filled()))

    def test_a_line_left_out_twice_or_exchanged(self):
        self.bad(all_texts(LINES[1:]), 11)                              # without the pool one, its first position fails
        self.bad(all_texts(LINES[:3] + LINES[4:]), 11)                  # ann cannot bring in any salt
        self.bad(all_texts(LINES[:1] + LINES), 2)
        self.bad(all_texts(LINES[:12] + LINES[11:]), 13)
        self.bad(all_texts(LINES[:8] + [LINES[11], *LINES[8:11]] + LINES[:1]), 13)
        self.bad(all_texts(LINES[11:12] + LINES[:11]), 1)
        self.bad(all_texts(LINES[:14] + ["", LINES[14]]), 15)
        self.assertEqual(len(read_house(all_texts(LINES[:14] + LINES[14:] * 3))), 17)

    def test_lines_without_words(self):
        for text, line in [(" ", 1), ("\n", 1), ("\n\n", 1), (LINES[0] + "\n", 2), ("\n" + LINES[0], 1), (LINES[0] + "\n ", 2)]:
            self.bad(text, line)

    def test_words_too_many_or_too_few_or_changed(self):
        lines = LINES + FURTHER
        for at, line in enumerate(lines):
            words = line.split(" ")
            changed = [" ".join(words[:-1]), line + " 1", line + " ", " " + line, line.replace(" ", "  ", 1), line.replace(" ", "\t", 1),
                       " ".join(words[1:]), line.upper(), words[0] + "s " + " ".join(words[1:]), words[0].title() + line[len(words[0]):],
                       line.replace(" ", ",", 1), line + ";"]
            for wrong in changed:
                self.bad(all_texts(lines[:at] + [wrong] + lines[at + 1:]), at + 1)

    def test_numbers_that_are_no_texts_of_a_ratio(self):
        for word in ["2/4", "+3", "-0", "03", "3/1", "1.5", "", "one", "1/0", "1/-2", "--1", "1e3", "0x1", "1_000", "1/2/3", "/2", "2/", "-1",
                     "-1/2", " 1", "1,2"]:
            self.bad(f"add one oil salt 2 0\npay ann oil {word}", 2)
            self.bad(f"add one oil salt {word} 0", 1)
            self.bad(f"add one oil salt 2 {word}", 1)
            self.bad(all_texts(LINES + [f"lend ann one new {word} 4 6"]), 16)
            self.bad(all_texts(LINES + [f"lend ann one new 1 {word} 6"]), 16)
            self.bad(all_texts(LINES + [f"lend ann one new 1 4 {word}"]), 16)
            self.bad(all_texts(LINES + [f"grow ann one low {word}"]), 16)
            self.bad(all_texts(LINES + [f"trade cid one oil {word}"]), 16)
            self.bad(all_texts(LINES + [f"send cid oil one {word}"]), 16)

    def test_routes_in_texts(self):
        for route in ["one,two,", ",one", "one,,two", "one,one", "two,one", "one,ten", ",", "", "one,two,one", "one;two", "one, two"]:
            self.bad(all_texts(LINES + [f"send cid oil {route} 1/10"]), 16)
        for route in ["one", "one,two"]:
            house = read_house(all_texts(LINES + [f"send cid oil {route} 1/10"]))
            self.assertEqual(house.text().split("\n")[15], f"send cid oil {route} 1/10")
            other = filled()
            other.send("cid", "oil", route.split(","), Ratio(1, 10))
            self.assertEqual(stands(other), stands(house))

    def test_steps_that_raise_errors(self):
        for line in ["add one oil salt 2 0", "add ten oil oil 2 0", "add ten oil salt 0 0", "add ten oil salt 2 1", "pay A oil 1", "pay dot oil1 1",
                     "pay abcdefghijklm oil 1", "lend ann ten new 1 4 6", "lend ann one low 1 4 6", "lend ann one new 4 4 6", "lend ann one new 1 4 0",
                     "lend dot one new 1 4 6", "grow bob one low 1", "lessen ann one low 7", "collect cid one low", "close ann one high",
                     "trade dot one oil 1", "trade cid one tin 1", "trade cid one a 1", "send cid wax one 1", "send cid oil one 99", "undo", "redo",
                     "purse ann", "web", "owner one low", "fees one low", "trial", "text", "supposed x ann", "__len__", "_step", "_books"]:
            self.bad(all_texts(LINES + [line, "x"]), 16)
            self.bad(all_texts([line] * 3) if line.startswith("add one") else line, 2 if line.startswith("add one") else 1)

    def test_many_texts(self):
        chance = random.Random(58)
        for _ in range(25):
            house, wanted = House(), PlainHouse()
            for _ in range(40):
                word, *values = random_step(chance, wanted)
                try:
                    getattr(house, word)(*asked(values))
                except PoolError:
                    continue
                getattr(wanted, word)(*values)
            text = house.text()
            again = read_house(text)
            self.assertEqual((again.text(), stands(again)), (text, stands(house)))
            for _ in range(chance.randint(0, len(again))):
                again.undo()
                house.undo()
            self.assertEqual((stands(again), history(again)), (stands(house), history(house)))
            lines = text.split("\n")
            self.assertEqual(stands(read_house(all_texts(lines[:len(again)]))), stands(again))
            self.assertEqual(again.supposed(all_texts(lines[len(again):]), "ann"), read_house(text).purse("ann"))


if __name__ == "__main__":
    unittest.main()
