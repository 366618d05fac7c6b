"""The refusals: one class for each, all of them under ShareError."""


class ShareError(ValueError):
    pass


class NoNumber(ShareError):
    pass


class NoGroup(ShareError):
    pass


class NoRule(ShareError):
    pass


class NoText(ShareError):
    # The part's number is kept beside the words, so that a caller need not take it out of them.
    def __init__(self, part):
        ShareError.__init__(self, f"part {part} of the text is not as it should be")
        self.part = part


class NoTable(ShareError):
    pass


class Unlike(ShareError):
    pass


class TooMany(ShareError):
    pass


class NoOrder(ShareError):
    pass


class NoRows(ShareError):
    pass


class NoShares(ShareError):
    pass


class NoVotes(ShareError):
    pass
