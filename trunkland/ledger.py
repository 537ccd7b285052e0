"""The ledger: one bill for each answered call, in a journal that survives crashes (point 11)."""

from trunkland.journal import Journal, read_journal
from trunkland.words import is_address, read_number

GREATEST_NUMBER = 999999999


class Ledger:
    """A ledger; it has no bills at first."""

    def __init__(self, tariff):
        self.tariff = tariff
        self.journal = Journal()
        # The caller, callee and answer of each unfinished bill, and each finished bill as it is told, by their numbers.
        self._unfinished = {}
        self._finished = {}

    def begin(self, number, caller, callee, now):
        """Begin a bill; the number has none."""
        self._unfinished[number] = (caller, callee, now)
        self.journal.append(f"open {number} {caller} {callee} {now}")
        self.journal.sync()

    def finish(self, number, now):
        """Finish an unfinished bill."""
        self.close(number, now, self.tariff.cost(now - self.answer_of(number)))

    def close(self, number, now, cost):
        """Finish an unfinished bill with a cost, whatever the tariff says."""
        caller, callee, answer = self._unfinished.pop(number)
        self._finished[number] = (number, caller, callee, answer, now, cost)
        self.journal.append(f"close {number} {now} {cost}")

    def is_open(self, number):
        """Tell whether a number has an unfinished bill."""
        return number in self._unfinished

    def is_known(self, number):
        """Tell whether a number has a bill, finished or not."""
        return number in self._unfinished or number in self._finished

    def answer_of(self, number):
        """Return the tick of the answer of an unfinished bill."""
        return self._unfinished[number][2]

    def bills(self):
        """Return the finished bills in the order of their numbers."""
        return [self._finished[number] for number in sorted(self._finished)]

    def pending(self):
        """Return the numbers of the unfinished bills in their order."""
        return sorted(self._unfinished)

    def greatest(self):
        """Return the greatest number of a bill, or 0."""
        return max([0, *self._unfinished, *self._finished])


def recover(tariff, text, now):
    """Return the ledger after a crash that left this text of the journal."""
    ledger = Ledger(tariff)
    for record in read_journal(text):
        _take_record(ledger, record.split(" "))
    for number in ledger.pending():
        # The ticks may begin anew behind a crash, but no bill ends before its answer.
        ledger.finish(number, max(now, ledger.answer_of(number)))
    ledger.journal.sync()
    return ledger


def _take_record(ledger, words):
    # A record that is taken is written again in the very same words, as a number has only one writing.
    if words[0] == "open" and len(words) == 5:
        _take_open(ledger, words)
    elif words[0] == "close" and len(words) == 4:
        _take_close(ledger, words)


def _take_open(ledger, words):
    number = read_number(words[1], GREATEST_NUMBER)
    answer = read_number(words[4], GREATEST_NUMBER)
    are_right = is_address(words[2]) and is_address(words[3]) and number is not None and answer is not None
    if are_right and not ledger.is_known(number):
        ledger.begin(number, words[2], words[3], answer)


def _take_close(ledger, words):
    number, end, cost = [read_number(word, GREATEST_NUMBER) for word in words[1:]]
    if number is not None and end is not None and cost is not None and ledger.is_open(number):
        ledger.close(number, end, cost)
