"""Repairers, which repair one text while its letters arrive, and relays of several of them."""

from formatrepair.basics import is_letter
from formatrepair.errors import Finished, InvalidLetter, InvalidList, InvalidOnePass, NotContinuing, NotIncluded
from formatrepair.onepass import START, first_strategy_error
from formatrepair.searches import cheapest_way, text_table


class Repairer:
    """Repairs one text by a strategy."""

    def __init__(self, game, cost, strategy):
        if first_strategy_error(game, cost, strategy) is not None:
            raise InvalidList(strategy)
        self._game = game
        self._cost = cost
        self._strategy = [(state, here, bound, {letter: steps[letter] for letter in steps})
                          for state, here, bound, steps in strategy]
        self._bounds = {(state, here): bound for state, here, bound, _ in self._strategy}
        self._steps = {(state, here): steps for state, here, _, steps in self._strategy}
        self._position = START
        self._text = ""
        self._script = []
        self._spent = 0
        self._left = self._bounds[START]
        self._ended = False

    def __call__(self, letter):
        if not is_letter(letter):
            raise InvalidLetter(letter)
        if self._ended:
            raise Finished()
        behind = self._game.rules().state_behind(self._position[0], letter)
        if behind is None:
            raise NotContinuing(letter)
        there = self._steps[self._position][letter]
        written = self._write(letter, [there])
        self._text = self._text + letter
        self._position = (behind, there)
        self._left = self._bounds[self._position]
        return written

    def finish(self):
        """End the text and return what is written last."""
        if self._ended:
            raise Finished()
        comparison = self._game.comparison()
        if not comparison.first().contains(self._text):
            raise NotIncluded(self._text)
        written = self._write("", comparison.second().accepting())
        self._left = 0
        self._ended = True
        return written

    def _write(self, source, goals):
        """Pay for a cheapest script from the source to a text that leads to one of the goals, and return this text."""
        comparison = self._game.comparison()
        table = (comparison.second().rows(), goals)
        cost, script = cheapest_way(comparison.prices(), text_table(source), table, self._position[1])
        self._spent += cost
        self._script.extend(script)
        return target_of(script)

    def text(self):
        """Return the letters so far."""
        return self._text

    def written(self):
        """Return all that was written."""
        return target_of(self._script)

    def script(self):
        """Return a script from the letters so far to what was written."""
        return list(self._script)

    @property
    def spent(self):
        """The cost of the script."""
        return self._spent

    @property
    def left(self):
        """What is still to be paid at most."""
        return self._left

    def position(self):
        """Return the states of the first and of the second format."""
        return self._position

    def copied(self):
        """Return an independent repairer in the same situation."""
        copy = Repairer(self._game, self._cost, self._strategy)
        copy._position = self._position
        copy._text = self._text
        copy._script = list(self._script)
        copy._spent = self._spent
        copy._left = self._left
        copy._ended = self._ended
        return copy

    def into(self, other):
        """Return a relay of copies, in which the other repairer reads what this one writes."""
        require_fitting(self, self, other)
        return Relay([self.copied(), other.copied()])

    def comparison(self):
        """Return the comparison of the format that is read and the one that is written."""
        return self._game.comparison()

    def has_begun(self):
        """Return whether a letter was read or the text has ended."""
        return self._ended or self._text != ""


class Relay:
    """Several repairers, each of which reads what the one before it writes."""

    def __init__(self, repairers):
        self._repairers = list(repairers)

    def __call__(self, letter):
        first = self._repairers[0]
        written = first(letter)
        for repairer in self._repairers[1:]:
            written = answer_to(repairer, written)
        return written

    def finish(self):
        """End the text and return what is written last."""
        written = self._repairers[0].finish()
        for repairer in self._repairers[1:]:
            written = answer_to(repairer, written) + repairer.finish()
        return written

    def text(self):
        """Return the letters so far."""
        return self._repairers[0].text()

    def written(self):
        """Return all that the last repairer wrote."""
        return self._repairers[-1].written()

    @property
    def spent(self):
        """What all repairers have paid."""
        return sum([repairer.spent for repairer in self._repairers])

    @property
    def left(self):
        """What all repairers still have to pay at most."""
        return sum([repairer.left for repairer in self._repairers])

    def copied(self):
        """Return an independent relay in the same situation."""
        return Relay([repairer.copied() for repairer in self._repairers])

    def into(self, other):
        """Return a relay of copies, in which the other repairer reads what this relay writes."""
        require_fitting(self._repairers[0], self._repairers[-1], other)
        return Relay([repairer.copied() for repairer in self._repairers + [other]])


def target_of(script):
    """Return the text that a script leads to."""
    return "".join([target for _, target in script])


def answer_to(repairer, text):
    """Return what a repairer writes for the letters of a text."""
    return "".join([repairer(letter) for letter in text])


def require_fitting(first, last, other):
    """Raise what keeps the other repairer from reading what the last one of a relay writes."""
    if not isinstance(other, Repairer) or last.comparison().second() != other.comparison().first():
        raise InvalidOnePass(other)
    if first.has_begun() or other.has_begun():
        raise Finished()
