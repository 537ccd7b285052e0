"""The errors of the program."""


class TrunklandError(ValueError):
    """The base class of all errors."""


class LetterError(TrunklandError):
    """A text is not a letter."""

    def __init__(self, line):
        super().__init__(f"line {line} is not that of a letter")
        self.line = line


class ConfigError(TrunklandError):
    """A setting is out of its range."""

    def __init__(self, setting):
        super().__init__(f"the setting {setting} is out of its range")
        self.setting = setting
