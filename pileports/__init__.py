"""Words of card moves on piles of every size."""
