"""The errors: each tells, as `value`, the argument that it was raised for."""


class KindError(ValueError):
    """What all errors of this package are derived from."""


class InvalidKind(KindError):
    def __init__(self, value=None):
        self.value = value


class InvalidTable(KindError):
    def __init__(self, value=None):
        self.value = value


class InvalidKinds(KindError):
    def __init__(self, value=None):
        self.value = value


class InvalidMap(KindError):
    def __init__(self, value=None):
        self.value = value


class InvalidRow(KindError):
    def __init__(self, value=None):
        self.value = value


class InvalidGrouping(KindError):
    def __init__(self, value=None):
        self.value = value


class InvalidBlock(KindError):
    def __init__(self, value=None):
        self.value = value


class InvalidTriples(KindError):
    def __init__(self, value=None):
        self.value = value


class InvalidRule(KindError):
    def __init__(self, value=None):
        self.value = value


class InvalidDeed(KindError):
    def __init__(self, value=None):
        self.value = value


class InvalidChain(KindError):
    def __init__(self, value=None):
        self.value = value


class InvalidArrows(KindError):
    def __init__(self, value=None):
        self.value = value


class InvalidLayers(KindError):
    def __init__(self, value=None):
        self.value = value


class InvalidComb(KindError):
    def __init__(self, value=None):
        self.value = value


class InvalidNumbers(KindError):
    def __init__(self, value=None):
        self.value = value


class InvalidWord(KindError):
    def __init__(self, value=None):
        self.value = value


class InvalidFour(KindError):
    def __init__(self, value=None):
        self.value = value


class InvalidCount(KindError):
    def __init__(self, value=None):
        self.value = value


class InvalidPlaces(KindError):
    def __init__(self, value=None):
        self.value = value


class InvalidBonds(KindError):
    def __init__(self, value=None):
        self.value = value


class InvalidChange(KindError):
    def __init__(self, value=None):
        self.value = value


class InvalidChanges(KindError):
    def __init__(self, value=None):
        self.value = value


class InvalidShelf(KindError):
    def __init__(self, value=None):
        self.value = value


class InvalidSpot(KindError):
    def __init__(self, value=None):
        self.value = value


class InvalidScript(KindError):
    def __init__(self, value=None):
        self.value = value


class InvalidText(KindError):
    def __init__(self, value=None):
        self.value = value


class InvalidLog(KindError):
    def __init__(self, value=None):
        self.value = value


class Unlike(KindError):
    def __init__(self, value=None):
        self.value = value


class Unsettled(KindError):
    def __init__(self, value=None):
        self.value = value


class Apart(KindError):
    def __init__(self, value=None):
        self.value = value


class Refused(KindError):
    def __init__(self, value=None):
        self.value = value


class NothingToUndo(KindError):
    """No command is left that could be taken back."""


class NothingToRedo(KindError):
    """No command was taken back last."""
