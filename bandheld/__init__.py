"""Congestion control whose shares, settling time and buffers are exact."""
