"""Ringclear: debts in piles that are paid from above, and rings that fall away."""
