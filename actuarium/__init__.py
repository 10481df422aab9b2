"""Actuarium: payments, lives, claims and ruin with exact answers and certificates."""
