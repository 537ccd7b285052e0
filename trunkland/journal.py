"""The journal: lines with checksums, of which a crash leaves at least the synced ones (point 10)."""

FIRST_SUM = 7
FACTOR = 31
MODULUS = 9973


class Journal:
    """A journal; it is empty at first."""

    def __init__(self):
        self.text = ""
        self.synced = 0

    def append(self, text):
        """Append the line for a text."""
        self.text += sealed(text)

    def sync(self):
        """Make all characters survive a crash."""
        self.synced = len(self.text)

    def after_crash(self, kept):
        """Return what a crash leaves that keeps so many characters behind the synced ones."""
        return self.text[:self.synced + kept]


def checksum(text):
    """Return the checksum of a text."""
    total = FIRST_SUM
    for mark in text:
        total = (total * FACTOR + ord(mark)) % MODULUS
    return total


def sealed(text):
    """Return the line of the journal for a text."""
    return f"{text} {checksum(text)}\n"


def read_journal(text):
    """Return the texts of the lines up to the first one without a newline or with a wrong checksum."""
    lines = text.split("\n")
    # What stands behind the last newline has none itself.
    lines.pop()
    texts = []
    for line in lines:
        told = line.rpartition(" ")[0]
        # Sealing it again also finds a checksum with leading zeros and a line without a space.
        if sealed(told) != line + "\n":
            return texts
        texts.append(told)
    return texts
